import PyProof.Rows.All
import Wide.All
import OpenK.AllK
import Wide.FinOn
import Lean
import PyProof.EqAt
import PyProof.EqKinds
import PyProof.TupleCall
import PyProof.SumAny
import PySem.Challenge.RW_onceways_k46_tables_joined
set_option Elab.async false
set_option linter.all false
set_option maxRecDepth 100000
set_option maxHeartbeats 4000000
abbrev EX:=PySem.Value->PySem.Shared->Prop
section
open PySem PySem.Spec PyProof.Rows
theorem Yaa:type_of% @wpAny_bind:=@wpAny_bind
theorem Yab:type_of% @List.length_map:=@List.length_map
theorem Yac:type_of% @wpS_bind:=@wpS_bind
theorem Yad:type_of% @Nat.le_refl:=@Nat.le_refl
theorem Yae:type_of% @List.length_append:=@List.length_append
theorem Yaf:type_of% @wpS_pure:=@wpS_pure
theorem Yag:type_of% @List.mem_append:=@List.mem_append
theorem Yah:type_of% @wpAny_pure:=@wpAny_pure
theorem Yai:type_of% @List.mem_singleton:=@List.mem_singleton
theorem Yaj:type_of% @List.getElem?_eq_some_iff:=@List.getElem?_eq_some_iff
theorem Yak:type_of% @List.map_append:=@List.map_append
theorem Yal:type_of% @Heap.lt_size:=@Heap.lt_size
theorem Yam:type_of% @List.mem_map:=@List.mem_map
theorem Yan:type_of% @Heap.get?_push_of_some:=@Heap.get?_push_of_some
theorem Yao:type_of% @Nat.zero_le:=@Nat.zero_le
theorem Yap:type_of% @List.length_singleton:=@List.length_singleton
theorem Yaq:type_of% @List.map_cons:=@List.map_cons
theorem Yar:type_of% @Bool.false_ne_true:=@Bool.false_ne_true
theorem Yas:type_of% @List.size_toArray:=@List.size_toArray
theorem Yat:type_of% @List.mem_of_getElem?:=@List.mem_of_getElem?
theorem Yau:type_of% @List.mem_cons:=@List.mem_cons
theorem Yav:type_of% @W.mg_none_of:=@W.mg_none_of
theorem Yaw:type_of% @List.mem_cons_self:=@List.mem_cons_self
theorem Yax:type_of% @Nat.lt_of_lt_of_le:=@Nat.lt_of_lt_of_le
theorem Yay:type_of% @Nat.ne_of_lt:=@Nat.ne_of_lt
theorem Yaz:type_of% @List.getElem?_eq_getElem:=@List.getElem?_eq_getElem
theorem Yba:type_of% @List.length_take:=@List.length_take
theorem Ybb:type_of% @List.getElem?_map:=@List.getElem?_map
theorem Ybc:type_of% @W.mg_of:=@W.mg_of
theorem Ybd:type_of% @Array.length_toList:=@Array.length_toList
theorem Ybe:type_of% @beq_iff_eq:=@beq_iff_eq
theorem Ybf:type_of% @List.mem_cons_of_mem:=@List.mem_cons_of_mem
theorem Ybg:type_of% @List.append_assoc:=@List.append_assoc
theorem Ybh:type_of% @congrArg:=@congrArg
theorem Ybi:type_of% @sizeLine_eq:=@sizeLine_eq
theorem Ybj:type_of% @Heap.get?_push_size:=@Heap.get?_push_size
theorem Ybk:type_of% @Option.map_eq_some_iff:=@Option.map_eq_some_iff
theorem Ybl:type_of% @List.getElem?_append_left:=@List.getElem?_append_left
theorem Ybm:type_of% @decide_eq_true:=@decide_eq_true
theorem Ybn:type_of% @List.take_length:=@List.take_length
theorem Ybo:type_of% @Option.some.inj:=@Option.some.inj
theorem Ybp:type_of% @wpAny_mono:=@wpAny_mono
theorem Ybq:type_of% @List.length_cons:=@List.length_cons
theorem Ybr:type_of% @List.pairwise_append:=@List.pairwise_append
theorem Ybs:type_of% @List.mem_append_right:=@List.mem_append_right
theorem Ybt:type_of% @List.getElem?_append_right:=@List.getElem?_append_right
theorem Ybu:type_of% @List.take_add_one:=@List.take_add_one
theorem Ybv:type_of% @List.append_nil:=@List.append_nil
theorem Ybw:type_of% @Array.getElem?_toList:=@Array.getElem?_toList
theorem Ybx:type_of% @decide_eq_false:=@decide_eq_false
theorem Yby:type_of% @List.mem_filter:=@List.mem_filter
theorem Ybz:type_of% @wpS_forRange:=@wpS_forRange
theorem Yca:type_of% @Nat.le_trans:=@Nat.le_trans
theorem Ycb:type_of% @PySem.mem_of_lookup:=@PySem.mem_of_lookup
theorem Ycc:type_of% @Bool.and_eq_true:=@Bool.and_eq_true
theorem Ycd:type_of% @List.nodup_append:=@List.nodup_append
theorem Yce:type_of% @PySem.F.plainAttrs_list:=@PySem.F.plainAttrs_list
theorem Ycf:type_of% @Nat.lt_irrefl:=@Nat.lt_irrefl
theorem Ycg:type_of% @List.find?_cons:=@List.find?_cons
theorem Ych:type_of% @Nat.sub_self:=@Nat.sub_self
theorem Yci:type_of% @List.mem_append_left:=@List.mem_append_left
theorem Ycj:type_of% @wpS_modify:=@wpS_modify
theorem Yck:type_of% @PassesOwn.never:=@PassesOwn.never
theorem Ycl:type_of% @List.length_filter_le:=@List.length_filter_le
theorem Ycm:type_of% @Array.toList_append:=@Array.toList_append
theorem Ycn:type_of% @Array.size_push:=@Array.size_push
theorem Yco:type_of% @listItems_at:=@listItems_at
theorem Ycp:type_of% @PySem.F.slot_list_append:=@PySem.F.slot_list_append
theorem Ycq:type_of% @PySem.F.type_list_append:=@PySem.F.type_list_append
theorem Ycr:type_of% @Nat.le_of_lt:=@Nat.le_of_lt
theorem Ycs:type_of% @W.kia_one:=@W.kia_one
theorem Yct:type_of% @List.pairwise_map:=@List.pairwise_map
theorem Ycu:type_of% @PySem.boot_len:=@PySem.boot_len
theorem Ycv:type_of% @of_decide_eq_true:=@of_decide_eq_true
theorem Ycw:type_of% @List.map_map:=@List.map_map
theorem Ycx:type_of% @Heap.size_push:=@Heap.size_push
theorem Ycy:type_of% @List.take_append_drop:=@List.take_append_drop
theorem Ycz:type_of% @List.pairwise_cons:=@List.pairwise_cons
theorem Yda:type_of% @Nat.add_sub_cancel':=@Nat.add_sub_cancel'
theorem Ydb:type_of% @beq_eq_false_iff_ne:=@beq_eq_false_iff_ne
theorem Ydc:type_of% @wpAny_holding:=@wpAny_holding
theorem Ydd:type_of% @Nat.le_succ:=@Nat.le_succ
theorem Yde:type_of% @List.drop_eq_getElem_cons:=@List.drop_eq_getElem_cons
theorem Ydf:type_of% @List.pairwise_iff_getElem:=@List.pairwise_iff_getElem
theorem Ydg:type_of% @Option.map_eq_none_iff:=@Option.map_eq_none_iff
theorem Ydh:type_of% @List.filter_append:=@List.filter_append
theorem Ydi:type_of% @Paired.length:=@Paired.length
theorem Ydj:type_of% @wpAny_truthy_bool:=@wpAny_truthy_bool
theorem Ydk:type_of% @List.mem_filterMap:=@List.mem_filterMap
theorem Ydl:type_of% @wpAny_Call_Name_kw:=@wpAny_Call_Name_kw
theorem Ydm:type_of% @List.nodup_nil:=@List.nodup_nil
theorem Ydn:type_of% @Array.toList_reverse:=@Array.toList_reverse
theorem Ydo:type_of% @Nat.zero_add:=@Nat.zero_add
theorem Ydp:type_of% @List.Nodup.length_le_of_subset:=@List.Nodup.length_le_of_subset
theorem Ydq:type_of% @wpAny_passesOwn:=@wpAny_passesOwn
theorem Ydr:type_of% @List.length_drop:=@List.length_drop
theorem Yds:type_of% @Nat.min_eq_left:=@Nat.min_eq_left
theorem Ydt:type_of% @List.getElem?_drop:=@List.getElem?_drop
theorem Ydu:type_of% @List.mem_iff_getElem?:=@List.mem_iff_getElem?
theorem Ydv:type_of% @getElem?_mirror_all:=@getElem?_mirror_all
theorem Ydw:type_of% @listUpdate_at:=@listUpdate_at
theorem Ydx:type_of% @Heap.get?_update_other:=@Heap.get?_update_other
theorem Ydy:type_of% @Bool.eq_false_iff:=@Bool.eq_false_iff
theorem Ydz:type_of% @Array.toList_extract:=@Array.toList_extract
theorem Yea:type_of% @List.extract_eq_take_drop:=@List.extract_eq_take_drop
theorem Yeb:type_of% @Array.toList_push:=@Array.toList_push
theorem Yec:type_of% @List.getElem?_take:=@List.getElem?_take
theorem Yed:type_of% @Array.size_extract:=@Array.size_extract
theorem Yee:type_of% @Array.getElem?_eq_getElem:=@Array.getElem?_eq_getElem
theorem Yef:type_of% @of_decide_eq_false:=@of_decide_eq_false
theorem Yeg:type_of% @List.replicate_succ:=@List.replicate_succ
theorem Yeh:type_of% @List.take_of_length_le:=@List.take_of_length_le
theorem Yei:type_of% @List.drop_of_length_le:=@List.drop_of_length_le
theorem Yej:type_of% @List.mem_of_mem_take:=@List.mem_of_mem_take
theorem Yek:type_of% @wpAny_typeNameOfWhole_keyiter:=@wpAny_typeNameOfWhole_keyiter
theorem Yel:type_of% @F.slot_dict_keyiterator_next:=@F.slot_dict_keyiterator_next
end
namespace L2
open PySem PySem.Spec PyProof.Rows
noncomputable abbrev Key:=Sum Int Str
noncomputable def X4:Key->Value->Bool
 | .inl k,v=>Value.isInt k v
 | .inr x,v=>Value.isStrOf x v
noncomputable def ZgQ (w:World):Key->Int
 | .inl k=>hashInt k
 | .inr x=>hashStr w x
theorem GZ:∀{k:Key}{v:Value},X4 k v=true->(∃i t,k=Sum.inl i/\v=Value.int i t)\/(∃x t,k=Sum.inr x/\v=Value.str x t)
 | .inl i,v,h=>by
  obtain ⟨t,e⟩:=Value.isInt_shape (k:=i) (v:=v) h;exact .inl ⟨i,t,rfl,e⟩
 | .inr x,v,h=>by
  obtain ⟨t,e⟩:=Value.isStrOf_shape (x:=x) (v:=v) h;exact .inr ⟨x,t,rfl,e⟩
theorem YJ (i:Int)(t:Tok):X4 (.inl i) (.int i t)=true:=by simp [X4,Value.isInt]
theorem YK (x:Str)(t:Tok):X4 (.inr x) (.str x t)=true:=by simp [X4,Value.isStrOf]
theorem ZdF (a b:Int):decide ((Sum.inl a:Key)=Sum.inl b)=(a == b):=by
 by_cases e:a=b
 ·subst e;simp
 ·have h:¬ (Sum.inl a:Key)=Sum.inl b:=λq=>e (Sum.inl.inj q);rw [Ybx h];exact (Ydb.mpr e).symm
theorem ZdG (a b:Str):decide ((Sum.inr a:Key)=Sum.inr b)=decide (a=b):=by
 by_cases e:a=b
 ·subst e;simp
 ·have h:¬ (Sum.inr a:Key)=Sum.inr b:=λq=>e (Sum.inr.inj q);rw [Ybx h,Ybx e]
theorem ZdH (a:Int)(b:Str):decide ((Sum.inl a:Key)=Sum.inr b)=false:=Ybx (λq=>nomatch q)
theorem ZdI (a:Str)(b:Int):decide ((Sum.inr a:Key)=Sum.inl b)=false:=Ybx (λq=>nomatch q)
noncomputable def G9 (prog:Program)(w:World):PySem.KeyKind prog w Key where
 is:=X4
 hash:=ZgQ w
 inj:=λv a b ha hb=>by
  rcases GZ ha with ⟨i,t,rfl,rfl⟩ | ⟨x,t,rfl,rfl⟩
  ·rcases GZ hb with ⟨j,u,rfl,e⟩ | ⟨y,u,rfl,e⟩
   ·injection e with e1 _;rw [e1]
   ·exact nomatch e
  ·rcases GZ hb with ⟨j,u,rfl,e⟩ | ⟨y,u,rfl,e⟩
   ·exact nomatch e
   ·injection e with e1 _;rw [e1]
 byValue:=λk v h=>by
  rcases GZ h with ⟨i,t,rfl,rfl⟩ | ⟨x,t,rfl,rfl⟩ <;> rfl
 pyHash:=λhv h=>by
  rcases GZ hv with ⟨i,t,rfl,rfl⟩ | ⟨x,t,rfl,rfl⟩
  ·exact wpAny_pyHash_int h
  ·exact wpAny_pyHash_str h
 eqBool:=λhu hv h=>by
  rcases GZ hu with ⟨i,t,rfl,rfl⟩ | ⟨x,t,rfl,rfl⟩
  ·rcases GZ hv with ⟨j,u,rfl,rfl⟩ | ⟨y,u,rfl,rfl⟩
   ·rw [ZdF] at h;exact wpAny_eqBool_int h
   ·rw [ZdH] at h;exact SeqAt.EqAt.int_str i t y u _ _ _ _ h
  ·rcases GZ hv with ⟨j,u,rfl,rfl⟩ | ⟨y,u,rfl,rfl⟩
   ·rw [ZdI] at h;exact SeqAt.EqAt.str_int x t j u _ _ _ _ h
   ·rw [ZdG] at h;exact wpAny_eqBool_str h
 «strs»:=λk x t v h=>by
  rcases GZ h with ⟨i,u,rfl,e⟩ | ⟨y,u,rfl,e⟩
  ·exact nomatch e
  ·injection e with e1 _
   subst e1;cases v <;> rfl
theorem WK (prog:Program)(w:World)(i:Int)(t:Tok):(G9 prog w).is (.inl i) (.int i t)=true:=YJ i t
theorem WL (prog:Program)(w:World)(x:Str)(t:Tok):(G9 prog w).is (.inr x) (.str x t)=true:=YK x t
inductive V where
 | non | bl (b:Bool) | int (i:Int) | str (x:Str) | byt (b:Array UInt8) | flt (b:UInt64) | ref (a:Addr) | ty (n:String)
 deriving DecidableEq
noncomputable def RelV:V->Value->Prop
 | .non,u=>u=Value.none
 | .bl b,u=>u=Value.bool b
 | .int i,u=>∃t,u=Value.int i t
 | .str x,u=>∃t,u=Value.str x t
 | .byt b,u=>∃t,u=Value.bytes b t
 | .flt b,u=>∃t,u=Value.float b t
 | .ref a,u=>u=Value.ref a
 | .ty n,u=>u=Value.type n
noncomputable abbrev Vals:List V->List Value->Prop:=Paired RelV
theorem Vals.length {xs:List V}{us:List Value}(r:Vals xs us):xs.length=us.length:=Ydi r
theorem Vals.get:∀{xs:List V}{us:List Value}{i:Nat}{x:V},Vals xs us->xs[i]?=some x->∃u,us[i]?=some u/\RelV x u
 | _,_,_,_,.nil,e=>by simp at e
 | _,_,0,_,.cons r _,e=>by simp at e;subst e;exact ⟨_,rfl,r⟩
 | _,_,i+1,x,.cons _ t,e=>by
  obtain ⟨u,h1,h2⟩:=Vals.get (i:=i) (x:=x) t (by simpa using e);exact ⟨u,by simpa using h1,h2⟩
theorem Vals.set {x:V}{u:Value}(r:RelV x u):∀{xs:List V}{us:List Value}(i:Nat),Vals xs us->Vals (xs.set i x) (us.set i u)
 | _,_,_,.nil=>.nil
 | _,_,0,.cons _ t=>.cons r t
 | _,_,i+1,.cons q t=>.cons q (Vals.set r i t)
theorem Vals.append {xs ys:List V}{us j:List Value}(h:Vals xs us)(s:Vals ys j):Vals (xs++ys) (us++j):=by
 induction h with
 | nil=>exact s
 | cons r _ ih=>exact .cons r ih
theorem Vals.take:∀{xs:List V}{us:List Value}(n:Nat),Vals xs us->Vals (xs.take n) (us.take n)
 | _,_,0,_=>.nil
 | _,_,_+1,.nil=>.nil
 | _,_,n+1,.cons r t=>.cons r (Vals.take n t)
theorem Vals.drop:∀{xs:List V}{us:List Value}(n:Nat),Vals xs us->Vals (xs.drop n) (us.drop n)
 | _,_,0,r=>r
 | _,_,_+1,.nil=>.nil
 | _,_,n+1,.cons _ t=>Vals.drop n t
noncomputable def RelO:Option V->Option Value->Prop
 | some v,some u=>RelV v u
 | none,none=>True
 | _,_=>False
noncomputable def KV {κ:Type}:List (κ×V)->List (κ×Value)->Prop:=Paired λ(p:κ×V) (q:κ×Value)=>p.1=q.1/\RelV p.2 q.2
noncomputable def kV:Key->V
 | .inl i=>.int i
 | .inr x=>.str x
inductive HO where
  | lst (xs:List V)
  | tup (xs:List V)
  | dK (kvs:List (Key×V)) | dT (kvs:List (List Key×V))
  | set (S:Int->Bool) (n:Nat)
  | ins (C dx:Addr) (fs:List (Str×V))
  | own (x:Addr)
  | xd (fs:List (Str×V))
  | met (f x:Addr)
  | rng (lo hi:Int)
  | frz (o:Obj) (u:HO)
  | tbl (ps:Array Value)
  | ext (φ:Heap->Prop)
noncomputable abbrev Hp:=Addr->Option HO
noncomputable def upd (H:Hp)(a:Addr)(o:HO):Hp:=λb=>if b=a then some o else H b
theorem Gb {H:Hp}{a:Addr}{o:HO}:upd H a o a=some o:=by unfold upd;rw [if_pos rfl]
theorem Gn {H:Hp}{a b:Addr}{o:HO}(h:b≠a):upd H a o b=H b:=by unfold upd;rw [if_neg h]
theorem GV {H:Hp}{a b:Addr}{o u:HO}(h:H a=some o)(h':H b=some u)(d:o≠u):a≠b:=by
 intro e;subst e;rw [h] at h';exact d (Ybo h')
theorem Gf {H:Hp}{a b:Addr}{o:HO}(h:H a=some o)(h':H b=none):a≠b:=by
 intro e;subst e;rw [h] at h';cases h'
section
variable (P:Program)(w:World)
noncomputable def ObjOk (H:Hp)(h:Heap)(a:Addr):HO->Prop
 | .lst xs=>xs.length<=sizeLine/\∃(its:List Value)(n:Nat),Vals xs its/\h.get? a=some { cls:=.type "list", data:=.seq its.toArray n }
 | .tup xs=>xs.length<=sizeLine/\∃its:List Value,Vals xs its/\IsTup h a its.toArray
 | .dK kvs=>kvs.length<=sizeLine/\(a == sysModules)=false/\∃vs,KV kvs vs/\h.DictOf (G9 P w) a vs
 | .dT kvs=>kvs.length<=sizeLine/\(a == sysModules)=false/\∃xs:List (List Key×Addr×Value),
   Paired (λ(p:List Key×V) (q:List Key×Addr×Value)=>p.1=q.1/\H q.2.1=some (.tup (p.1.map kV))/\RelV p.2 q.2.2) kvs xs /\
   ∃o es ep,h.get? a=some o/\o.ExactDict/\o.data=.dict es ep/\es.toList=xs.map (entryOfKey (tupleKind (G9 P w)))/\(xs.map (·.1)).Nodup
 | .set S n=>h.SetOf (intKind P w) a S n
 | .ins C dx fs=>H dx=some (.own a)/\fs.length<=1000/\dx≠a/\h.get? a=some (W.instObj C dx) /\
   ∃mA,h.Ns1 dx mA/\(∀f,RelO (fs.lookup f) (mA f))/\PySem.Within mA (fs.map (·.1))
 | .own _=>∃o,h.get? a=some o
 | .xd fs=>∃mA,h.Ns1 a mA/\∀f,RelO (fs.lookup f) (mA f)
 | .rng lo hi=>∃t u v,h.get? a=some { cls:=.type "range", data:=.fields #[.int lo t,.int hi u,.int 1 v] }
 | .frz o u=>h.get? a=some o/\ObjOk H h a u
 | .tbl ps=>h.get? a=some { cls:=.none,data:=.fields ps }
 | .met f x=>h.get? a=some (W.methodObj (.ref f) (.ref x))
 | .ext φ=>φ h/\(∃o,h.get? a=some o)/\∀h1 h2:Heap,φ h1->(∀o,h1.get? a=some o->h2.get? a=some o)->φ h2
noncomputable def HOk (H:Hp)(h:Heap):Prop:=∀a o,H a=some o->ObjOk P w H h a o
end
section
variable {P:Program}{w:World}{H H':Hp}{h h':Heap}{a:Addr}{o:HO}
theorem ObjOk.lt (x:ObjOk P w H h a o):a<h.objs.size:=by
 cases o with
 | lst xs=>obtain ⟨_,_,_,_,e⟩:=x;exact Yal e
 | tup xs=>obtain ⟨_,_,_,p⟩:=x;exact p.lt
 | dK kvs=>obtain ⟨_,_,_,_,o,_,_,e,_⟩:=x;exact Yal e
 | dT kvs=>obtain ⟨_,_,_,_,o,_,_,e,_⟩:=x;exact Yal e
 | set S n=>obtain ⟨o,_,_,_,e,_⟩:=x;exact Yal e
 | ins C dx fs=>obtain ⟨_,_,_,e,_⟩:=x;exact Yal e
 | own y=>obtain ⟨_,e⟩:=x;exact Yal e
 | xd fs=>obtain ⟨_,⟨_,_,_,e,_⟩,_⟩:=x;exact Yal e
 | rng lo hi=>obtain ⟨_,_,_,e⟩:=x;exact Yal e
 | frz ob u=>obtain ⟨e,_⟩:=x;exact Yal e
 | tbl ps=>exact Yal (show h.get? a=some _ from x)
 | met f y=>exact Yal (show h.get? a=some _ from x)
 | ext φ=>obtain ⟨_,⟨_,e⟩,_⟩:=x;exact Yal e
theorem Paired.mapP {α β:Type}{F G:α->β->Prop}{l₁:List α}{l₂:List β}(h:Paired F l₁ l₂)(f:∀a b,F a b->G a b):Paired G l₁ l₂:=by
 induction h with
 | nil=>exact .nil
 | cons r _ ih=>exact .cons (f _ _ r) ih
theorem ObjOk.stay (x:ObjOk P w H h a o)(k:∀b u,(b=a\/H b=some (.own a))->h.get? b=some u->h'.get? b=some u)(D:∀b,H b=some (.own a)->H' b=some (.own a))(L:∀b xs,H b=some (.tup xs)->H' b=some (.tup xs)):ObjOk P w H' h' a o:=by
 induction o with
 | lst xs=>obtain ⟨z,its,n,r,e⟩:=x;exact ⟨z,its,n,r,k _ _ (.inl rfl) e⟩
 | tup xs=>obtain ⟨z,its,r,j,e,c⟩:=x;exact ⟨z,its,r,j,k _ _ (.inl rfl) e,c⟩
 | dK kvs=>obtain ⟨z,y,vs,r,j,es,ep,e,c⟩:=x;exact ⟨z,y,vs,r,j,es,ep,k _ _ (.inl rfl) e,c⟩
 | dT kvs=>
  obtain ⟨z,y,xs,r,j,es,ep,e,c⟩:=x;exact ⟨z,y,xs,Paired.mapP r λp q z=>⟨z.1,L _ _ z.2.1,z.2.2⟩,j,es,ep,k _ _ (.inl rfl) e,c⟩
 | set S n=>obtain ⟨j,es,ep,t,e,c⟩:=x;exact ⟨j,es,ep,t,k _ _ (.inl rfl) e,c⟩
 | ins C dx fs=>
  obtain ⟨d,z,ne,e,mA,⟨B,es,ep,O,c⟩,r⟩:=x;exact ⟨D _ d,z,ne,k _ _ (.inl rfl) e,mA,⟨B,es,ep,k _ _ (.inr d) O,c⟩,r⟩
 | own y=>obtain ⟨j,e⟩:=x;exact ⟨j,k _ _ (.inl rfl) e⟩
 | xd fs=>obtain ⟨mA,⟨B,es,ep,e,c⟩,r⟩:=x;exact ⟨mA,⟨B,es,ep,k _ _ (.inl rfl) e,c⟩,r⟩
 | rng lo hi=>obtain ⟨t,u,v,e⟩:=x;exact ⟨t,u,v,k _ _ (.inl rfl) e⟩
 | frz j u ih=>obtain ⟨e,q⟩:=x;exact ⟨k _ _ (.inl rfl) e,ih q⟩
 | tbl ps=>
  have e:h.get? a=some { cls:=.none,data:=.fields ps }:=x;show h'.get? a=some { cls:=.none,data:=.fields ps };exact k a _ (.inl rfl) e
 | met f y=>
  have e:h.get? a=some (W.methodObj (.ref f) (.ref y)):=x;show h'.get? a=some (W.methodObj (.ref f) (.ref y));exact k a _ (.inl rfl) e
 | ext φ=>obtain ⟨p,⟨o,e⟩,st⟩:=x;exact ⟨st _ _ p λo q=>k _ _ (.inl rfl) q,⟨o,k _ _ (.inl rfl) e⟩,st⟩
theorem HOk.lt (x:HOk P w H h)(e:H a=some o):a<h.objs.size:=(x a o e).lt
theorem HOk.fresh (x:HOk P w H h)(e:h.objs.size<=a):H a=none:=by
 cases q:H a with
 | none=>rfl
 | some u=>exact absurd (Yax (x.lt q) e) (Ycf _)
theorem HOk.kept (x:HOk P w H h)(k:∀b u,h.get? b=some u->h'.get? b=some u):HOk P w H h':=λa o e=>
 (x a o e).stay (λb u _ q=>k b u q) (λ_ q=>q) λ_ _ q=>q
theorem HOk.laid (x:HOk P w H h)(k:∀b u,h.get? b=some u->h'.get? b=some u)(D:h.objs.size<=a)(new:ObjOk P w (upd H a o) h' a o):HOk P w (upd H a o) h':=λb u e=>by
 have j:=x.fresh D;by_cases B:b=a
 ·subst B;rw [Gb] at e;cases e;exact new
 ·rw [Gn B] at e;exact (x b u e).stay (λc v _ q=>k c v q) (λc q=>by rw [Gn (Gf q j)];exact q) λc xs q=>by rw [Gn (Gf q j)];exact q
end
noncomputable def Rd (H:Hp)(a:Addr)(u:HO):Prop:=H a=some u\/∃o,H a=some (.frz o u)
theorem Rd.ok {P:Program}{w:World}{H:Hp}{h:Heap}{a:Addr}{u:HO}(r:Rd H a u)(x:HOk P w H h):ObjOk P w H h a u:=by
 rcases r with r | ⟨o,r⟩
 ·exact x a u r
 ·obtain ⟨_,q⟩:=x a _ r;exact q
noncomputable def Mut:Option HO->Prop
 | some (.lst _)=>True
 | some (.dK _)=>True
 | some (.dT _)=>True
 | some (.set _ _)=>True
 | some (.ins _ _ _)=>True
 | some (.ext _)=>True
 | _=>False
section
variable {P:Program}{w:World}{H:Hp}{h h':Heap}{x e:Addr}{o':HO}
theorem HOk.write (ok:HOk P w H h)(L:Mut (H x))(Z:e=x\/H e=some (.own x))(k:∀b u,b≠e->h.get? b=some u->h'.get? b=some u)(Y:∃u,h'.get? e=some u)(new:ObjOk P w (upd H x o') h' x o'):HOk P w (upd H x o') h':=λb u q=>by
 have B:∀c y,H c=some (.own y)->c≠x:=λc y r z=>by subst z;rw [r] at L;exact L
 have D:∀c xs,H c=some (.tup xs)->c≠x:=λc xs r z=>by subst z;rw [r] at L;exact L
 by_cases O:b=x
 ·subst O;rw [Gb] at q;cases q;exact new
 ·rw [Gn O] at q;by_cases j:b=e
  ·have q':H b=some (.own x):=by
    rcases Z with z | z
    ·exact absurd (j.trans z) O
    ·rw [j];exact z
   rw [q] at q';cases q';obtain ⟨v,hv⟩:=Y;exact ⟨v,by rw [j];exact hv⟩
  ·refine (ok b u q).stay (λc v U r=>k c v ?_ r) (λc r=>by rw [Gn (B c b r)];exact r) λc xs r=>by rw [Gn (D c xs r)];exact r
   rcases U with rfl | U
   ·exact j
   ·rintro rfl;rcases Z with z | z
    ·exact B c b U z
    ·rw [U] at z;cases z;exact O rfl
end
structure Un (fs ex:List Addr)(H H':Hp)(h h':Heap):Prop where
 keep:∀b o,h.get? b=some o->H b=none->b ∉ fs->b ∉ ex->h'.get? b=some o
 slot:∀b o,h.get? b=some o->H b=none->b∈fs->b ∉ ex->∃sl,h'.get? b=some { o with slots:=sl }
 free:∀b o,h.get? b=some o->H b=none->b ∉ ex->H' b=none
 there:∀b o,h.get? b=some o->b ∉ ex->∃o',h'.get? b=some o'
 tups:∀b xs,H b=some (.tup xs)->H' b=some (.tup xs)
 frzs:∀b o u,H b=some (.frz o u)->H' b=some (.frz o u)
 tbls:∀b ps,H b=some (.tbl ps)->∃more,H' b=some (.tbl (ps++more))
section
variable {fs fs' ex ex':List Addr}{H H1 H2:Hp}{h h1 h2 h':Heap}{a x e:Addr}{o:HO}
theorem Un.any (u:Un fs ex H H1 h h1){b:Addr}{j:Obj}(q:h.get? b=some j)(n:H b=none)(B:b ∉ ex):∃L,h1.get? b=some { j with slots:=L }:=by
 by_cases D:b∈fs
 ·exact u.slot b j q n D B
 ·exact ⟨j.slots,u.keep b j q n D B⟩
theorem Un.trans (a:Un fs ex H H1 h h1)(b:Un fs ex H1 H2 h1 h2):Un fs ex H H2 h h2 where
 keep:=λc ob q n hc hx=>b.keep c ob (a.keep c ob q n hc hx) (a.free c ob q n hx) hc hx
 slot:=λc ob q n hc hx=>by
  obtain ⟨sl,e1⟩:=a.slot c ob q n hc hx;obtain ⟨sl',e2⟩:=b.slot c _ e1 (a.free c ob q n hx) hc hx;exact ⟨sl',e2⟩
 free:=λc ob q n hx=>by
  obtain ⟨o',e1⟩:=a.there c ob q hx;exact b.free c o' e1 (a.free c ob q n hx) hx
 there:=λc ob q hx=>by
  obtain ⟨o',e1⟩:=a.there c ob q hx;exact b.there c o' e1 hx
 tups:=λc xs q=>b.tups c xs (a.tups c xs q)
 frzs:=λc ob xs q=>b.frzs c ob xs (a.frzs c ob xs q)
 tbls:=λc ps q=>by
  obtain ⟨m1,e1⟩:=a.tbls c ps q;obtain ⟨m2,e2⟩:=b.tbls c _ e1;exact ⟨m1++m2,by rw [e2,Array.append_assoc]⟩
theorem Un.kept (k:∀b u,h.get? b=some u->h'.get? b=some u):Un fs ex H H h h':=
 ⟨λb j q _ _ _=>k b j q,λb j q _ _ _=>⟨j.slots,k b j q⟩,λ_ _ _ n _=>n,λb j q _=>⟨j,k b j q⟩,λ_ _ q=>q,λ_ _ _ q=>q,λ_ ps q=>⟨#[],by rw [q];simp⟩⟩
theorem Un.refl:Un fs ex H H h h:=Un.kept λ_ _ q=>q
theorem Un.laid (k:∀b u,h.get? b=some u->h'.get? b=some u)(hp:h.objs.size<=a)(hn:H a=none):Un fs ex H (upd H a o) h h' where
 keep:=λb u q _ _ _=>k b u q
 slot:=λb u q _ _ _=>⟨u.slots,k b u q⟩
 free:=λb u q n _=>by rw [Gn (Yay (Yax (Yal q) hp))];exact n
 there:=λb u q _=>⟨u,k b u q⟩
 tups:=λb xs q=>by rw [Gn (Gf q hn)];exact q
 frzs:=λb u xs q=>by rw [Gn (Gf q hn)];exact q
 tbls:=λb ps q=>⟨#[],by rw [Gn (Gf q hn),q];simp⟩
theorem Un.write (B:Mut (H x))(Y:e=x\/H e=some (.own x))(k:∀b u,b≠e->h.get? b=some u->h'.get? b=some u)(D:∃u,h'.get? e=some u):Un fs ex H (upd H x o) h h':=by
 have O:∀b,H b=none->b≠x:=λb n z=>by subst z;rw [n] at B;exact B
 have U:∀b,H b=none->b≠e:=λb n z=>by
  subst z;rcases Y with r | r
  ·exact O b n r
  ·rw [n] at r;cases r
 have L:∀b u,H b=some u->¬ Mut (some u)->b≠x:=λb u q nm z=>by subst z;rw [q] at B;exact nm B
 refine ⟨λb u q n _ _=>k b u (U b n) q,λb u q n _ _=>⟨u.slots,k b u (U b n) q⟩,λb u q n _=>by rw [Gn (O b n)];exact n,λb u q _=>?_,
  λb xs q=>by rw [Gn (L b _ q λz=>z)];exact q,λb u xs q=>by rw [Gn (L b _ q λz=>z)];exact q,λb ps q=>⟨#[],by rw [Gn (L b _ q λz=>z),q];simp⟩⟩
 by_cases j:b=e
 ·subst j;exact D
 ·exact ⟨u,k b u j q⟩
theorem Un.mono (u:Un fs ex H H1 h h1)(L:∀b∈fs,b∈fs')(D:∀b∈ex,b∈ex'):Un fs' ex' H H1 h h1:=
 ⟨λb B q n O j=>u.keep b B q n (λz=>O (L b z)) λz=>j (D b z),λ_ _ q n _ j=>u.any q n λz=>j (D _ z),λb B q n j=>u.free b B q n λz=>j (D b z),λb B q j=>u.there b B q λz=>j (D b z),u.tups,u.frzs,u.tbls⟩
end
noncomputable def trk (h:Heap)(H:Hp):List Addr:=(List.range h.objs.size).filter λa=>(H a).isSome
noncomputable def YL (h:Heap)(H:Hp):Heap:=W.hideAll h (trk h H)
theorem YM (h:Heap)(H:Hp):(YL h H).objs.size=h.objs.size:=W.hideAll_size _ _
theorem ZaA {h:Heap}{H:Hp}{b:Addr}{o:Obj}(e:h.get? b=some o)(n:H b=none):(YL h H).get? b=some o:=
 W.hideAll_get _ e λj=>by
  have q:(H b).isSome=true:=(Yby.mp j).2;rw [n] at q;simp at q
theorem Zch {h:Heap}{H:Hp}{b:Addr}{o:Obj}(e:(YL h H).get? b=some o):h.get? b=some o/\H b=none:=by
 have j:h.get? b=some o:=W.of_hideAll (trk h H) e;refine ⟨j,?_⟩;cases q:H b with
 | none=>rfl
 | some x=>
  have B:b∈trk h H:=Yby.mpr ⟨List.mem_range.mpr (Yal j),by simp [q]⟩;have z:(YL h H).get? b=none:=W.hideAll_none (trk h H) B;rw [z] at e;cases e
structure Mod (K:W.Frag)(mg:Str->Option Value)(base:Heap):Prop where
 kin:K.In base
 glob:base.Ns mainGlobals mg
 blt:∃mb,base.Ns builtinsNs mb/\∀x:Str,x ≠ "__name__" -> mb x=bootBuiltins x
 nolimit:base.NoLimit
structure Cx where
 prog:Program
 w:World
 K:W.Frag
 mg:Str->Option Value
 base:Heap
 A:Around
 N:List Str
 s₀:Shared
 H₀:Hp
 env:Env
 outer:List Env
 stack:List Env
 ex:List Addr
 fn:Str->Bool
 calm:Bool
 pn:List (Addr×Obj)
 xe:EX
noncomputable def frs (l:List Env):List Addr:=l.filterMap (·.frame)
noncomputable abbrev Cx.fs (X:Cx):List Addr:=frs X.outer
noncomputable def Vis (j:Scope)(x:Str):Prop:=j.names.lookup x=some .local\/j.names.lookup x=some .cell\/j.names.lookup x=some .free
noncomputable def Loc (j:Scope)(x:Str):Prop:=j.names.lookup x=some .local\/j.names.lookup x=some .cell
noncomputable def ZgR (env:Env)(h:Heap)(m:Str->Option Value)(x:Str)(u:Value):Prop:=
 (env.kindOf x=some .local/\m x=some u)\/((env.kindOf x=some .cell\/env.kindOf x=some .free)/\∃c,env.cells.lookup x=some c/\h.IsCell c (some u))
structure Cx.Ok (X:Cx):Prop where
 mod:Mod X.K X.mg X.base
 kind:X.env.scope.kind=.function
 glob:X.env.globals=mainGlobals
 blt:X.env.builtins=builtinsNs
 above:X.s₀.heap.objs.size<=X.env.locals
 inj:∀x y c,X.env.cells.lookup x=some c->X.env.cells.lookup y=some c->x=y
 has:∀x,(X.env.kindOf x=some .cell\/X.env.kindOf x=some .free)->∃c,X.env.cells.lookup x=some c
 cab:∀x c,X.fn x=true->X.env.cells.lookup x=some c->X.s₀.heap.objs.size<=c
 hd:X.calm=true->X.A.handled=none
 frames:X.A.frames=some X.stack
 stk:X.stack=X.outer\/(X.stack=X.env::X.outer/\X.env.frame=some X.env.locals)
 exf:∀b∈X.ex,b≠X.env.locals/\∀x c,X.env.cells.lookup x=some c->c≠b
 bs:∀b o,X.base.get? b=some o->X.s₀.heap.get? b=some o/\X.H₀ b=none
 bsz:X.base.objs.size<=X.s₀.heap.objs.size
 noex:∀b o,X.base.get? b=some o->b ∉ X.ex
 exfs:∀b∈X.ex,b ∉ X.fs
 funs:X.s₀.heap.FunFrames X.base X.outer
 frf:∀b∈X.fs,X.H₀ b=none
structure Inv (X:Cx)(qQ:List (Addr×Obj))(σ:List (Option V))(H:Hp)(s:Shared):Prop where
 ok:X.Ok
 os:s.os=X.s₀.os
 bare:AllBare s.gens
 base:Un X.fs X.ex X.H₀ H X.s₀.heap s.heap
 loc:∃m,s.heap.Ns X.env.locals m/\∀(i:Nat)(x:Str)(v:V),X.N[i]?=some x->σ[i]?=some (some v)->Vis X.env.scope x->∃u,RelV v u/\ZgR X.env s.heap m x u
 cell:∀x c,X.env.cells.lookup x=some c->∃v,s.heap.IsCell c v
 free:H X.env.locals=none
 freeC:∀x c,X.env.cells.lookup x=some c->H c=none
 pin:∀p∈X.pn++qQ,s.heap.get? p.1=some p.2/\H p.1=none/\p.1≠X.env.locals/\p.1 ∉ X.fs/\∀v,p.2.data≠.cell v
 hok:HOk X.prog X.w H s.heap
 len:σ.length=X.N.length
section
variable {X:Cx}{qQ:List (Addr×Obj)}{σ:List (Option V)}{H H':Hp}{s:Shared}{h':Heap}
theorem Cx.Ok.nofr (ok:X.Ok){b:Addr}{o:Obj}(e:X.base.get? b=some o):b ∉ X.fs:=λj=>by
 have:=(ok.funs.mem j).1;rw [e] at this;cases this
theorem Inv.bs (I:Inv X qQ σ H s):∀b o,X.base.get? b=some o->s.heap.get? b=some o/\H b=none:=λb o e=>
 ⟨I.base.keep b o (I.ok.bs b o e).1 (I.ok.bs b o e).2 (I.ok.nofr e) (I.ok.noex b o e),I.base.free b o (I.ok.bs b o e).1 (I.ok.bs b o e).2 (I.ok.noex b o e)⟩
theorem Inv.bk (I:Inv X qQ σ H s):∀b o,X.base.get? b=some o->s.heap.get? b=some o:=λb o e=>(I.bs b o e).1
theorem Inv.mod (I:Inv X qQ σ H s):Mod X.K X.mg X.base:=I.ok.mod
theorem Inv.kIn (I:Inv X qQ σ H s):X.K.In s.heap:=I.ok.mod.kin.keeps I.bk
theorem Inv.lt (I:Inv X qQ σ H s):X.env.locals<s.heap.objs.size:=let ⟨_,hn,_⟩:=I.loc;hn.lt
theorem Inv.sz (I:Inv X qQ σ H s):X.s₀.heap.objs.size<=s.heap.objs.size:=Yca I.ok.above (Ycr I.lt)
theorem Inv.nofs (I:Inv X qQ σ H s){a:Addr}(h:s.heap.objs.size<=a):a ∉ X.fs:=λj=>by
 obtain ⟨_,o,B,_⟩:=I.ok.funs.mem j;exact absurd (Yax (Yal B) (Yca I.sz h)) (Ycf _)
theorem Inv.cne (I:Inv X qQ σ H s):∀x c,X.env.cells.lookup x=some c->c≠X.env.locals:=λx c e z=>by
 obtain ⟨v,o,D,hd⟩:=I.cell x c e;obtain ⟨m,⟨o',es,ep,j,B,_⟩,_⟩:=I.loc;rw [z,j] at D;cases D;rw [B] at hd;cases hd
theorem Inv.funs (I:Inv X qQ σ H s):s.heap.FunFrames X.base X.outer:=by
 have all:∀(l:List Env),(∀b∈frs l,b∈X.fs)->X.s₀.heap.FunFrames X.base l->s.heap.FunFrames X.base l:=by
  intro l
  induction l with
  | nil=>intro _ _;trivial
  | cons env r ih=>
   intro O U;obtain ⟨Y,⟨L,o,j,Z,ho,hd⟩,hr⟩:=U;have B:L∈X.fs:=O L (by unfold frs;rw [List.filterMap_cons,j];exact Yaw);obtain ⟨sl,e⟩:=I.base.slot L o ho (I.ok.frf L B) B λz=>I.ok.exfs L z B;exact ⟨Y,⟨L,_,j,Z,e,hd⟩,ih (λb D=>O b (by unfold frs;rw [List.filterMap_cons,j];exact Ybf _ D)) hr⟩
 exact all X.outer (λ_ D=>D) I.ok.funs
theorem Inv.stack (I:Inv X qQ σ H s):s.heap.FunFrames X.base X.stack:=by
 rcases I.ok.stk with e | ⟨e,j⟩
 ·rw [e];exact I.funs
 ·rw [e];obtain ⟨m,B,_⟩:=I.loc;refine .cons (by rw [I.ok.kind];decide) j B ?_ I.funs;exact Heap.get?_none_of_le (Yca I.ok.bsz I.ok.above)
theorem Inv.stkSub (I:Inv X qQ σ H s):∀b∈frs X.stack,b∈X.env.locals::X.fs:=λb j=>by
 rcases I.ok.stk with e | ⟨e,B⟩
 ·rw [e] at j;exact Ybf _ j
 ·rw [e] at j;unfold frs at j;rw [List.filterMap_cons,B] at j;exact j
theorem Inv.stkFree (I:Inv X qQ σ H s):∀b∈frs X.stack,H b=none:=λb j=>by
 rcases Yau.mp (I.stkSub b j) with e | j
 ·rw [e];exact I.free
 ·obtain ⟨_,o,B,_⟩:=I.ok.funs.mem j;exact I.base.free b o B (I.ok.frf b j) λz=>I.ok.exfs b z j
theorem Inv.step {g':Array GenState}{t':Nat}{d':Drawn}{ch:List Addr}(I:Inv X qQ σ H s)(B:∀b∈ch,(b∈X.ex\/X.s₀.heap.objs.size<=b)/\b≠X.env.locals/\(∀x c,X.env.cells.lookup x=some c->c≠b)/\∀p∈X.pn++qQ,p.1≠b)(keep:∀b o,b≠X.env.locals->b ∉ X.fs->b ∉ ch->s.heap.get? b=some o->H b=none->h'.get? b=some o)(Y:∀b o,b≠X.env.locals->b∈X.fs->b ∉ ch->s.heap.get? b=some o->H b=none->∃sl,h'.get? b=some { o with slots:=sl })(free:∀b o,b ∉ ch->s.heap.get? b=some o->H b=none->H' b=none)(there:∀b o,b ∉ ch->s.heap.get? b=some o->∃o',h'.get? b=some o')(aa:∀b xs,H b=some (.tup xs)->H' b=some (.tup xs))(ab:∀b o u,H b=some (.frz o u)->H' b=some (.frz o u))(ac:∀b ps,H b=some (.tbl ps)->∃more,H' b=some (.tbl (ps++more)))(ns:∀m,s.heap.Ns X.env.locals m->h'.Ns X.env.locals m)(ae:HOk X.prog X.w H' h')(hg:AllBare g') :
  Inv X qQ σ H' { s with heap:=h',gens:=g',drawn:=d',toks:=t' }:=by
 have ad:∀b o,X.s₀.heap.get? b=some o->b≠X.env.locals:=λb o e=>Yay (Yax (Yal e) I.ok.above);have O:∀b o,X.s₀.heap.get? b=some o->b ∉ X.ex->b ∉ ch:=λb o e j Z=>by
  rcases (B b Z).1 with z | z
  ·exact j z
  ·exact absurd (Yax (Yal e) z) (Ycf _)
 have D:∀x c,X.env.cells.lookup x=some c->∀v,s.heap.IsCell c v->h'.IsCell c v:=λx c e v ⟨o,ho,hd⟩=>by
  have L:c ∉ ch:=λz=>(B c z).2.2.1 x c e rfl;by_cases hc:c∈X.fs
  ·obtain ⟨sl,q⟩:=Y c o (I.cne x c e) hc L ho (I.freeC x c e);exact ⟨_,q,hd⟩
  ·exact ⟨o,keep c o (I.cne x c e) hc L ho (I.freeC x c e),hd⟩
 refine ⟨I.ok,I.os,hg,⟨λb o e n Z j=>?_,λb o e n Z j=>?_,λb o e n j=>?_,λb o e j=>?_,λb xs e=>aa b xs (I.base.tups b xs e),λb o xs e=>ab b o xs (I.base.frzs b o xs e),λb ps e=>?_⟩,?_,λx c e=>?_,?_,λx c e=>?_,λp hp=>?_,ae,I.len⟩
 ·exact keep b o (ad b o e) Z (O b o e j) (I.base.keep b o e n Z j) (I.base.free b o e n j)
 ·obtain ⟨sl,U⟩:=I.base.slot b o e n Z j;obtain ⟨af,e2⟩:=Y b _ (ad b o e) Z (O b o e j) U (I.base.free b o e n j);exact ⟨af,e2⟩
 ·obtain ⟨o',U⟩:=I.base.there b o e j;exact free b o' (O b o e j) U (I.base.free b o e n j)
 ·obtain ⟨o',U⟩:=I.base.there b o e j;exact there b o' (O b o e j) U
 ·obtain ⟨m1,U⟩:=I.base.tbls b ps e;obtain ⟨m2,e2⟩:=ac b _ U;exact ⟨m1++m2,by rw [e2,Array.append_assoc]⟩
 ·obtain ⟨m,hn,hl⟩:=I.loc;refine ⟨m,ns m hn,λi x v U e2 e3=>?_⟩;obtain ⟨u,r,l⟩:=hl i x v U e2 e3;refine ⟨u,r,?_⟩;rcases l with l | ⟨k,c,e,z⟩
  ·exact .inl l
  ·exact .inr ⟨k,c,e,D x c e _ z⟩
 ·obtain ⟨v,z⟩:=I.cell x c e;exact ⟨v,D x c e v z⟩
 ·obtain ⟨m,⟨o,_,_,ho,_⟩,_⟩:=I.loc;exact free _ o (λz=>(B _ z).2.1 rfl) ho I.free
 ·obtain ⟨v,o,ho,hd⟩:=I.cell x c e;exact free c o (λz=>(B c z).2.2.1 x c e rfl) ho (I.freeC x c e)
 ·obtain ⟨e,n,ne,nf,d⟩:=I.pin p hp;have L:p.1 ∉ ch:=λz=>(B p.1 z).2.2.2 p hp rfl;exact ⟨keep p.1 p.2 ne nf L e n,free p.1 p.2 L e n,ne,nf,d⟩
theorem Inv.un {t':Nat}(I:Inv X qQ σ H s)(u:Un X.fs [] H H' s.heap h')(B:HOk X.prog X.w H' h'):Inv X qQ σ H' { s with heap:=h',toks:=t' }:=by
 obtain ⟨m,⟨o,es,ep,U,r⟩,_⟩:=id I.loc;obtain ⟨sl,Y⟩:=u.any U I.free (by simp);exact I.step (g':=s.gens) (d':=s.drawn) (ch:=[]) (λ_ z=>nomatch z) (λb o _ D _ e n=>u.keep b o e n D (by simp)) (λb o _ D _ e n=>u.slot b o e n D (by simp)) (λb o _ e n=>u.free b o e n (by simp)) (λb o _ e=>u.there b o e (by simp)) u.tups u.frzs u.tbls (λm' Z=>by
  obtain ⟨o',L,O,j,r'⟩:=Z;rw [U] at j;cases j;exact ⟨_,L,O,Y,r'⟩) B I.bare
theorem Inv.call {g':Array GenState}{t':Nat}{d':Drawn}{ch:List Addr}(I:Inv X qQ σ H s)(u:Un (frs X.stack) ch H H' s.heap h')(L:HOk X.prog X.w H' h')(hg:AllBare g')(B:∀b∈ch,(b∈X.ex\/X.s₀.heap.objs.size<=b)/\b≠X.env.locals/\(∀x c,X.env.cells.lookup x=some c->c≠b)/\∀p∈X.pn++qQ,p.1≠b) :
  Inv X qQ σ H' { s with heap:=h',gens:=g',drawn:=d',toks:=t' }:=by
 obtain ⟨m,⟨o,es,ep,Z,r⟩,_⟩:=id I.loc;obtain ⟨sl,O⟩:=u.any Z I.free λz=>(B _ z).2.1 rfl;exact I.step (ch:=ch) B (λb o O hb j e n=>u.keep b o e n (λz=>(Yau.mp (I.stkSub b z)).elim O hb) j) (λb o _ _ j e n=>u.any e n j) (λb o j e n=>u.free b o e n j) (λb o j e=>u.there b o e j) u.tups u.frzs u.tbls (λm' hm=>by
  obtain ⟨o',U,Y,D,r'⟩:=hm;rw [Z] at D;cases D;exact ⟨_,U,Y,O,r'⟩) L hg
theorem Inv.turned {t':Nat}{j:Addr}(I:Inv X qQ σ H s)(k:∀b o,b≠j->s.heap.get? b=some o->h'.get? b=some o)(O:H j=none)(L:j≠X.env.locals)(h1:j∈X.ex\/X.s₀.heap.objs.size<=j)(h2:∀x c,X.env.cells.lookup x=some c->c≠j)(U:∀p∈X.pn++qQ,p.1≠j):Inv X qQ σ H { s with heap:=h',toks:=t' }:=by
 have D:∀b u,H b=some u->b≠j:=λb u e z=>by rw [z,O] at e;cases e
 refine I.step (g':=s.gens) (d':=s.drawn) (ch:=[j]) (λb Y=>?_) (λb o _ _ B e _=>k b o (λz=>B (by simp [z])) e) (λb o _ _ B e _=>⟨o.slots,k b o (λz=>B (by simp [z])) e⟩) (λ_ _ _ _ n=>n)
  (λb o B e=>⟨o,k b o (λz=>B (by simp [z])) e⟩) (λ_ _ e=>e) (λ_ _ _ e=>e) (λb ps e=>⟨#[],by rw [e];simp⟩) (λm Z=>?_) (λb u e=>?_) I.bare
 ·have e:b=j:=by simpa using Y
  subst e;exact ⟨h1,L,h2,U⟩
 ·obtain ⟨o,es,ep,ho,r⟩:=Z;exact ⟨o,es,ep,k _ o (Ne.symm L) ho,r⟩
 ·refine (I.hok b u e).stay (λc v B q=>k c v ?_ q) (λ_ q=>q) λ_ _ q=>q;rcases B with z | z
  ·rw [z];exact D b u e
  ·exact D c _ z
theorem Inv.tok (I:Inv X qQ σ H s)(t:Nat):Inv X qQ σ H { s with toks:=t }:=I.un (h':=s.heap) (t':=t) Un.refl I.hok
theorem Inv.kept {t':Nat}(I:Inv X qQ σ H s)(k:∀b u,s.heap.get? b=some u->h'.get? b=some u):Inv X qQ σ H { s with heap:=h',toks:=t' }:=I.un (Un.kept k) (I.hok.kept k)
theorem Inv.laid {a:Addr}{o:HO}{t':Nat}(I:Inv X qQ σ H s)(k:∀b u,s.heap.get? b=some u->h'.get? b=some u)(j:s.heap.objs.size<=a)(new:ObjOk X.prog X.w (upd H a o) h' a o) :
  Inv X qQ σ (upd H a o) { s with heap:=h',toks:=t' }:=I.un (Un.laid k j (I.hok.fresh j)) (I.hok.laid k j new)
theorem Inv.write {x e:Addr}{o:HO}{t':Nat}(I:Inv X qQ σ H s)(B:Mut (H x))(D:e=x\/H e=some (.own x))(k:∀b u,b≠e->s.heap.get? b=some u->h'.get? b=some u)(j:∃u,h'.get? e=some u)(new:ObjOk X.prog X.w (upd H x o) h' x o):Inv X qQ σ (upd H x o) { s with heap:=h',toks:=t' }:=I.un (Un.write B D k j) (I.hok.write B D k j new)
theorem Inv.weak {j:List (Option V)}(I:Inv X qQ σ H s)(B:j.length=σ.length)(w:∀(i:Nat) v,j[i]?=some (some v)->σ[i]?=some (some v)):Inv X qQ j H s:=
 ⟨I.ok,I.os,I.bare,I.base,let ⟨m,hn,hl'⟩:=I.loc;⟨m,hn,λi x v D L O=>hl' i x v D (w i v L) O⟩,I.cell,I.free,I.freeC,I.pin,I.hok,B.trans I.len⟩
theorem Inv.pins_of {j:List (Addr×Obj)}(I:Inv X qQ σ H s)(h:∀p∈j,s.heap.get? p.1=some p.2/\H p.1=none/\p.1≠X.env.locals/\p.1 ∉ X.fs/\∀v,p.2.data≠.cell v):Inv X j σ H s:=
 ⟨I.ok,I.os,I.bare,I.base,I.loc,I.cell,I.free,I.freeC,λp B=>(Yag.mp B).elim (λz=>I.pin p (Yci _ z)) (h p),I.hok,I.len⟩
theorem Xe {N:List Str}(B:N.Nodup){i j:Nat}{x:Str}(a:N[i]?=some x)(b:N[j]?=some x):i=j:=by
 obtain ⟨h1,D⟩:=Yaj.mp a;obtain ⟨h2,L⟩:=Yaj.mp b;exact (List.getElem_inj B).mp (D.trans L.symm)
theorem V0 {M:Model}{A:Around}{E:EX}{i:Nat}{x:Str}{v:V}{u:Value}{Q:Unit->Shared->Prop}(I:Inv X qQ σ H s)(hN:X.N.Nodup)(hi:X.N[i]?=some x)(U:Loc X.env.scope x)(r:RelV v u)(h:∀s',Inv X qQ (σ.set i (some v)) H s'->(∃a,Heap.SameBut a s.heap s'.heap/\(a=X.env.locals\/X.env.cells.lookup x=some a))->Q () s')(hf:X.fn x=true\/X.env.scope.names.lookup x=some .local:=by first | exact .inl rfl | exact .inr rfl | assumption):wpAny M A (storeName X.env x u) Q E s:=by
 obtain ⟨m,hn,hl⟩:=id I.loc;have ab:(X.env.scope.kind == .class || (X.env.scope.kind == .module && X.env.locals != X.env.globals))=false:=by rw [I.ok.kind];rfl
 have ac:i<σ.length:=by rw [I.len];exact (Yaj.mp hi).1
 have cne:=I.cne;have D:∀{a:Addr}{h':Heap},(∃o,s.heap.get? a=some o/\H a=none)->Heap.SameBut a s.heap h'->HOk X.prog X.w H h':=λ{a h'} ha B b ob e=>by
  obtain ⟨_,_,Y⟩:=ha;refine (I.hok b ob e).stay (λc w' O q=>(B.2 c ?_).trans q) (λ_ q=>q) λ_ _ q=>q;rintro rfl;rcases O with rfl | O
  ·rw [Y] at e;cases e
  ·rw [Y] at O;cases O
 rcases U with hk | hk
 ·refine wpAny_storeName_local hk hn (λh' ah B=>?_) ab;obtain ⟨oL,_,_,ai,_⟩:=id hn;refine h _ ⟨I.ok,I.os,I.bare,⟨λb o e n hb U=>?_,λb o e n hb U=>?_,I.base.free,λb o e U=>?_,I.base.tups,I.base.frzs,I.base.tbls⟩,⟨_,ah,λj y v' L Z e3=>?_⟩,λy c e=>?_,I.free,I.freeC,λp hp=>?_,D ⟨oL,ai,I.free⟩ B,by simpa using I.len⟩ ⟨_,B,.inl rfl⟩
  ·exact (B.2 b (Yay (Yax (Yal e) I.ok.above))).trans (I.base.keep b o e n hb U)
  ·obtain ⟨sl,L⟩:=I.base.slot b o e n hb U;exact ⟨sl,(B.2 b (Yay (Yax (Yal e) I.ok.above))).trans L⟩
  ·obtain ⟨o',L⟩:=I.base.there b o e U;exact ⟨o',(B.2 b (Yay (Yax (Yal e) I.ok.above))).trans L⟩
  ·by_cases hj:j=i
   ·subst hj;rw [hi] at L;cases L;rw [List.getElem?_set_self ac] at Z;cases Z;exact ⟨u,r,.inl ⟨hk,by simp⟩⟩
   ·rw [List.getElem?_set_ne (Ne.symm hj)] at Z;obtain ⟨u',r',q⟩:=hl j y v' L Z e3;refine ⟨u',r',?_⟩;rcases q with ⟨k,e⟩ | ⟨k,c,e,z⟩
    ·refine .inl ⟨k,?_⟩;have:y≠x:=λe=>hj (Xe hN L (e▸hi));simp [this,e]
    ·exact .inr ⟨k,c,e,z.sameBut B (cne y c e)⟩
  ·obtain ⟨w',z⟩:=I.cell y c e;exact ⟨w',z.sameBut B (cne y c e)⟩
  ·obtain ⟨e,n,ne,nf,d⟩:=I.pin p hp;exact ⟨(B.2 p.1 ne).trans e,n,ne,nf,d⟩
 ·have aa:X.fn x=true:=by
   rcases hf with z | z
   ·exact z
   ·rw [z] at hk;cases hk
  obtain ⟨c,O⟩:=I.ok.has x (.inl hk);obtain ⟨w',z⟩:=I.cell x c O;refine wpAny_storeName_cell I.ok.kind hk O z (λh' ad B=>?_);obtain ⟨oc,ae,af⟩:=id z;refine h { s with heap:=h' } ⟨I.ok,I.os,I.bare,⟨λb o e n hb U=>?_,λb o e n hb U=>?_,I.base.free,λb o e U=>?_,I.base.tups,I.base.frzs,I.base.tbls⟩,⟨m,hn.sameBut B (Ne.symm (cne x c O)),λj y v' L Z e3=>?_⟩,λy c' e=>?_,I.free,I.freeC,λp hp=>?_,D ⟨oc,ae,I.freeC x c O⟩ B,by simpa using I.len⟩ ⟨c,B,.inr O⟩
  ·exact (B.2 b (Yay (Yax (Yal e) (I.ok.cab x c aa O)))).trans (I.base.keep b o e n hb U)
  ·obtain ⟨sl,L⟩:=I.base.slot b o e n hb U;exact ⟨sl,(B.2 b (Yay (Yax (Yal e) (I.ok.cab x c aa O)))).trans L⟩
  ·obtain ⟨o',L⟩:=I.base.there b o e U;exact ⟨o',(B.2 b (Yay (Yax (Yal e) (I.ok.cab x c aa O)))).trans L⟩
  ·by_cases hj:j=i
   ·subst hj;rw [hi] at L;cases L;rw [List.getElem?_set_self ac] at Z;cases Z;exact ⟨u,r,.inr ⟨.inl hk,c,O,ad⟩⟩
   ·rw [List.getElem?_set_ne (Ne.symm hj)] at Z;obtain ⟨u',r',q⟩:=hl j y v' L Z e3;refine ⟨u',r',?_⟩;rcases q with q | ⟨k,c',e,z'⟩
    ·exact .inl q
    ·refine .inr ⟨k,c',e,z'.sameBut B ?_⟩;rintro rfl;exact hj (Xe hN L (I.ok.inj _ _ _ e O▸hi))
  ·by_cases ag:c'=c
   ·subst ag;exact ⟨_,ad⟩
   ·obtain ⟨w2,z2⟩:=I.cell y c' e;exact ⟨w2,z2.sameBut B ag⟩
  ·obtain ⟨e,n,ne,nf,d⟩:=I.pin p hp;refine ⟨(B.2 p.1 ?_).trans e,n,ne,nf,d⟩;intro q;rw [q,ae] at e;have q':oc=p.2:=Ybo e;exact d w' (by rw [<-q'];exact af)
theorem Ue {M:Model}{A:Around}{E:EX}{i:Nat}{x:Str}{v:V}{u:Value}{Q:Unit->Shared->Prop}(I:Inv X qQ σ H s)(j:X.N.Nodup)(hi:X.N[i]?=some x)(B:Loc X.env.scope x)(r:RelV v u)(h:∀s',Inv X qQ (σ.set i (some v)) H s'->Q () s')(D:X.fn x=true\/X.env.scope.names.lookup x=some .local:=by first | exact .inl rfl | exact .inr rfl | assumption):wpAny M A (storeName X.env x u) Q E s:=
 V0 I j hi B r (λs' L _=>h s' L) D
theorem Inv.call' {s':Shared}{ch:List Addr}(I:Inv X qQ σ H s)(D:s'.os=s.os)(u:Un (frs X.stack) ch H H' s.heap s'.heap)(j:HOk X.prog X.w H' s'.heap)(L:AllBare s'.gens)(B:∀b∈ch,(b∈X.ex\/X.s₀.heap.objs.size<=b)/\b≠X.env.locals/\(∀x c,X.env.cells.lookup x=some c->c≠b)/\∀p∈X.pn++qQ,p.1≠b):Inv X qQ σ H' s':=by
 obtain ⟨h',g',d',t',o'⟩:=s';have e:o'=s.os:=D;subst e;exact I.call (g':=g') (t':=t') (d':=d') u j L B
end
noncomputable abbrev XK:=Value->Option Addr->Hp->Prop
noncomputable abbrev St:=List (Option V)
noncomputable abbrev VK:=V->Hp->Prop
noncomputable abbrev TE:=St->Hp->VK->Prop
noncomputable abbrev TT:=St->Hp->(Bool->Hp->Prop)->Prop
noncomputable abbrev TA:=St->Hp->(List V->Hp->Prop)->Prop
structure YH where
 nx:St->Hp->Prop
 rt:VK
 bk:St->Hp->Prop:=λ_ _=>False
 ct:St->Hp->Prop:=λ_ _=>False
noncomputable abbrev TS:=YH->St->Hp->Prop
noncomputable def EP (X:Cx)(qQ:List (Addr×Obj))(σ:St)(Q:VK)(u:Value)(s':Shared):Prop:=∃v H',Inv X qQ σ H' s'/\RelV v u/\Q v H'
noncomputable def TP (X:Cx)(qQ:List (Addr×Obj))(σ:St)(Q:Bool->Hp->Prop)(b:Bool)(s':Shared):Prop:=∃H',Inv X qQ σ H' s'/\Q b H'
noncomputable def AP (X:Cx)(qQ:List (Addr×Obj))(σ:St)(Q:List V->Hp->Prop)(us:List Value)(s':Shared):Prop:=∃vs H',Inv X qQ σ H' s'/\Vals vs us/\Q vs H'
noncomputable def SP (X:Cx)(qQ:List (Addr×Obj))(D:YH)(f:Flow)(s':Shared):Prop:=
 match f with
 | .next=>∃ j H',Inv X qQ j H' s'/\D.nx j H'
 | .brk=>∃ j H',Inv X qQ j H' s'/\D.bk j H'
 | .cont=>∃ j H',Inv X qQ j H' s'/\D.ct j H'
 | .ret u=>∃v j H',Inv X qQ j H' s'/\RelV v u/\D.rt v H'
noncomputable def PE (X:Cx)(e:Expr)(t:TE):Prop:=
 ∀(qQ:List (Addr×Obj))(s:Shared)(σ:St)(H:Hp)(Q:VK),Inv X qQ σ H s->t σ H Q->wpAny (model X.prog X.w) X.A (eval e X.env) (EP X qQ σ Q) X.xe s
noncomputable def PT (X:Cx)(e:Expr)(t:TT):Prop:=
 ∀(qQ:List (Addr×Obj))(s:Shared)(σ:St)(H:Hp)(Q:Bool->Hp->Prop),Inv X qQ σ H s->t σ H Q->wpAny (model X.prog X.w) X.A (isTrue e X.env (eval e X.env)) (TP X qQ σ Q) X.xe s
noncomputable def PW (X:Cx)(e:Expr)(t:TT):Prop:=
 ∀(j:Sem Value)(qQ:List (Addr×Obj))(s:Shared)(σ:St)(H:Hp)(Q:Bool->Hp->Prop),Inv X qQ σ H s->t σ H Q->wpAny (model X.prog X.w) X.A (isTrue e X.env j) (TP X qQ σ Q) X.xe s
theorem PW.pt {X:Cx}{e:Expr}{t:TT}(h:PW X e t):PT X e t:=h _
noncomputable def PA (X:Cx)(es:List Expr)(t:TA):Prop:=
 ∀(pos:Pos)(qQ:List (Addr×Obj))(s:Shared)(σ:St)(H:Hp)(Q:List V->Hp->Prop),Inv X qQ σ H s->t σ H Q->wpAny (model X.prog X.w) X.A (spliced (backTo pos (starEach es X.env))) (AP X qQ σ Q) X.xe s
noncomputable def PS (X:Cx)(st:Stmt)(t:TS):Prop:=
 ∀(qQ:List (Addr×Obj))(s:Shared)(σ:St)(H:Hp)(D:YH),Inv X qQ σ H s->t D σ H->wpAny (model X.prog X.w) X.A (exec st X.env) (SP X qQ D) X.xe s
noncomputable def PSs (X:Cx)(st:List Stmt)(t:TS):Prop:=
 ∀(qQ:List (Addr×Obj))(s:Shared)(σ:St)(H:Hp)(D:YH),Inv X qQ σ H s->t D σ H->wpAny (model X.prog X.w) X.A (execs st X.env) (SP X qQ D) X.xe s
theorem thn {α:Type}{t:Sem α}{Q j:α->Shared->Prop}{M:Model}{A:Around}{E:EX}{s:Shared}(h:wpAny M A t Q E s)(B:∀a s,Q a s->j a s):wpAny M A t j E s:=Ybp h B λ_ _ x=>x
theorem thG {α β:Type}{t:Sem α}{J:Hp->Shared->Prop}{R:β->α->Prop}{C:β->Hp->Prop}{j:α->Shared->Prop}{M:Model}{A:Around}{E:EX}{s:Shared}(h:wpAny M A t (λa s'=>∃v H',J H' s'/\R v a/\C v H') E s)(k:∀a s' v H',J H' s'->R v a->C v H'->j a s'):wpAny M A t j E s:=thn h λa s' h=>by
 obtain ⟨v,H',h1,h2,B⟩:=h;exact k a s' v H' h1 h2 B
theorem thT {α:Type}{t:Sem α}{J:Hp->Shared->Prop}{C:α->Hp->Prop}{j:α->Shared->Prop}{M:Model}{A:Around}{E:EX}{s:Shared}(h:wpAny M A t (λa s'=>∃H',J H' s'/\C a H') E s)(k:∀a s' H',J H' s'->C a H'->j a s'):wpAny M A t j E s:=thn h λa s' h=>by
 obtain ⟨H',h1,B⟩:=h;exact k a s' H' h1 B
section
variable {X:Cx}
noncomputable def Zfr (i:Nat):TE:=λσ H Q=>∃v,σ[i]?=some (some v)/\Q v H
noncomputable def tC (v:V):TE:=λ_ H Q=>Q v H
theorem ZdJ {i:Nat}{x:Str}{pos:Pos}(O:X.N[i]?=some x)(U:Vis X.env.scope x)(hd:(x == ("__debug__" : Str))=false:=by decide)(B:(x == ("__classdict__" : Str))=false:=by decide):PE X (.Name x pos) (Zfr i):=by
 intro qQ s σ H Q I h;obtain ⟨v,e,h⟩:=h;obtain ⟨m,Y,Z⟩:=I.loc;obtain ⟨u,r,l⟩:=Z i x v O e U;have fin:EP X qQ σ Q u s:=⟨v,H,I,r,h⟩;rcases l with ⟨j,hm⟩ | ⟨j,c,D,L⟩
 ·exact wpAny_Name (wpAny_loadName_local I.ok.kind j Y hm fin) hd
 ·rcases j with j | j
  ·exact wpAny_Name (wpAny_loadName_cell I.ok.kind j D L fin) hd
  ·exact wpAny_Name (wpAny_loadName_free I.ok.kind j D L fin B) hd
theorem Gg {i j pos}:PE X (.Constant (.int i) j pos) (tC (.int i)):=λ_ _ _ H _ I h=>wpAny_Constant_int ⟨.int i,H,I.tok _,⟨_,rfl⟩,h⟩
theorem UN {b j pos}:PE X (.Constant (.bool b) j pos) (tC (.bl b)):=λ_ _ _ H _ I h=>Constant_bool ⟨.bl b,H,I,rfl,h⟩
theorem ZdK {j pos}:PE X (.Constant .none j pos) (tC .non):=λ_ _ _ H _ I h=>Constant_none ⟨.non,H,I,rfl,h⟩
theorem ZdL {x j pos}:PE X (.Constant (.str x) j pos) (tC (.str x)):=λ_ _ _ H _ I h=>Calls.Constant_str ⟨.str x,H,I.tok _,⟨_,rfl⟩,h⟩
noncomputable def Gl (X:Cx)(x:Str):Prop:=X.env.kindOf x=some .globalImplicit
theorem Uq {E:EX}{qQ:List (Addr×Obj)}{s:Shared}{σ:St}{H:Hp}{x:Str}{u:Value}{pos:Pos}{Q:EX}(I:Inv X qQ σ H s)(j:Gl X x)(B:X.mg x=some u)(h:Q u s)(hd:(x == ("__debug__" : Str))=false:=by decide):wpAny (model X.prog X.w) X.A (eval (.Name x pos) X.env) Q E s:=
 Calls.Name_function_global I.ok.kind j (Calls.loadGlobal_global (by rw [I.ok.glob];exact I.mod.glob.keeps I.bk) B h) hd
theorem UT {E:EX}{qQ:List (Addr×Obj)}{s:Shared}{σ:St}{H:Hp}{x:Str}{u:Value}{pos:Pos}{Q:EX}(I:Inv X qQ σ H s)(j:Gl X x)(B:X.mg x=none)(D:bootBuiltins x=some u)(h:Q u s)(L:x ≠ "__name__" := by decide)(hd:(x == ("__debug__" : Str))=false:=by decide):wpAny (model X.prog X.w) X.A (eval (.Name x pos) X.env) Q E s:=by
 obtain ⟨O,h1,h2⟩:=I.mod.blt;exact Calls.Name_function_global I.ok.kind j (Calls.loadGlobal_builtin (by rw [I.ok.glob];exact I.mod.glob.keeps I.bk) B (by rw [I.ok.blt];exact h1.keeps I.bk) ((h2 x L).trans D) h) hd
theorem JK {x:Str}{v:V}{u:Value}{pos:Pos}(j:Gl X x)(B:X.mg x=some u)(r:RelV v u)(hd:(x == ("__debug__" : Str))=false:=by decide):PE X (.Name x pos) (tC v):=
 λ_ _ _ H _ I h=>Uq I j B ⟨v,H,I,r,h⟩ hd
theorem Zci {x:Str}{v:V}{u:Value}{pos:Pos}(j:Gl X x)(B:X.mg x=none)(D:bootBuiltins x=some u)(r:RelV v u)(L:x ≠ "__name__" := by decide)(hd:(x == ("__debug__" : Str))=false:=by decide):PE X (.Name x pos) (tC v):=
 λ_ _ _ H _ I h=>UT I j B D ⟨v,H,I,r,h⟩ L hd
variable {a b:Expr}{ta tb:TE}{pos:Pos}
noncomputable def PC (X:Cx)(j:CmpOp)(a b:Expr)(t:TE):Prop:=
 ∀(qQ:List (Addr×Obj))(s:Shared)(σ:St)(H:Hp)(Q:VK),Inv X qQ σ H s->t σ H Q ->
  wpAny (model X.prog X.w) X.A (eval a X.env) (λv B=>wpAny (model X.prog X.w) X.A (eval b X.env) (λu D=>wpAny (model X.prog X.w) X.A (compareOp j v u) (EP X qQ σ Q) X.xe D) X.xe B) X.xe s
noncomputable def tB (t:TE):TT:=λσ H Q=>t σ H λx H1=>∃c,x=.bl c/\Q c H1
theorem Xf {j:CmpOp}{t:TE}(h:PC X j a b t)(h1:behindInMarks j b=false:=by first | exact nobehind _ (by decide) (by decide) | rfl):PT X (.Compare a [j] [b] pos) (tB t):=by
 intro qQ s σ H Q I B;refine wpAny_isTrue_Compare1 (thn (h qQ s σ H _ I B) λv U h1=>thn h1 λu Y h2=>thn h2 λc Z ⟨x,H1,D,L,O⟩=>?_) h1;obtain ⟨d,rfl,q⟩:=O;cases L;exact Ydj ⟨H1,D,q⟩
theorem Ju {e:Expr}{t:TE}(h:PE X e t)(B:∀j,isTrue e X.env j=(do let v <- j;standAt e.pos;holding [v] (truthy v)):=by intro _;rfl):PT X e (tB t):=by
 intro qQ s σ H Q I D;refine isTrue_plain (thG (h qQ s σ H _ I D) λv Y x H1 L O U=>?_) (B _);obtain ⟨d,rfl,q⟩:=U;cases O;exact Ydj ⟨H1,L,q⟩
variable {tA tB':TT}{rest:List Expr}
noncomputable def ZgS (t u:TT):TT:=λσ H Q=>t σ H λc H1=>if c=true then u σ H1 Q else Q false H1
noncomputable def tOr (t u:TT):TT:=λσ H Q=>t σ H λc H1=>if c=true then Q true H1 else u σ H1 Q
noncomputable def ZgT (t:TT):TT:=λσ H Q=>t σ H λc H1=>Q (!c) H1
theorem Vl (ha:PT X a tA):PW X (.BoolOp .And [a] pos) tA:=by
 intro j qQ s σ H Q I h;refine isTrue_and (thn (ha qQ s σ H Q I h) λc B e=>?_);cases c with
 | true=>exact isTrue_and_nil e
 | false=>exact e
theorem Ov (ha:PT X a tA):PW X (.BoolOp .Or [a] pos) tA:=by
 intro j qQ s σ H Q I h;refine isTrue_or (thn (ha qQ s σ H Q I h) λc B e=>?_);cases c with
 | false=>exact isTrue_or_nil e
 | true=>exact e
theorem V1 (ha:PT X a tA)(D:PW X (.BoolOp .And (b::rest) pos) tB'):PW X (.BoolOp .And (a::b::rest) pos) (ZgS tA tB'):=by
 intro L qQ s σ H Q I h;refine isTrue_and (thT (ha qQ s σ H _ I h) λc O H1 j B=>?_);cases c with
 | true=>exact D L qQ O σ H1 Q j B
 | false=>exact ⟨H1,j,B⟩
theorem UO (ha:PT X a tA)(D:PW X (.BoolOp .Or (b::rest) pos) tB'):PW X (.BoolOp .Or (a::b::rest) pos) (tOr tA tB'):=by
 intro L qQ s σ H Q I h;refine isTrue_or (thT (ha qQ s σ H _ I h) λc O H1 j B=>?_);cases c with
 | true=>exact ⟨H1,j,B⟩
 | false=>exact D L qQ O σ H1 Q j B
theorem JY (ha:PT X a tA):PT X (.UnaryOp .Not a pos) (ZgT tA):=by
 intro qQ s σ H Q I h;exact isTrue_not (ha qQ s σ H (λc H1=>Q (!c) H1) I h)
noncomputable def ZfJ (ta tb:TE):TE:=λσ H Q=>ta σ H λx H1=>∃c,x=.bl c/\if c=true then tb σ H1 Q else Q (.bl false) H1
noncomputable def ZgU (ta tb:TE):TE:=λσ H Q=>ta σ H λx H1=>∃c,x=.bl c/\if c=true then Q (.bl true) H1 else tb σ H1 Q
noncomputable def ZfK (ta:TE):TE:=λσ H Q=>ta σ H λx H1=>∃c,x=.bl c/\Q (.bl (!c)) H1
theorem YN {op}{t:TE}(h:PE X a t):PE X (.BoolOp op [a] pos) t:=λqQ s σ H Q I j=>BoolOp_one (h qQ s σ H Q I j)
theorem ZbI (ha:PE X a ta)(D:PE X (.BoolOp .And (b::rest) pos) tb):PE X (.BoolOp .And (a::b::rest) pos) (ZfJ ta tb):=by
 intro qQ s σ H Q I h;refine BoolOp_and (thG (ha qQ s σ H _ I h) λv L x H1 B O j=>?_);obtain ⟨c,rfl,j⟩:=j;cases O;refine Ydj ?_;cases c with
 | true=>exact D qQ L σ H1 Q B j
 | false=>exact ⟨.bl false,H1,B,rfl,j⟩
theorem ZfL (ha:PE X a ta)(D:PE X (.BoolOp .Or (b::rest) pos) tb):PE X (.BoolOp .Or (a::b::rest) pos) (ZgU ta tb):=by
 intro qQ s σ H Q I h;refine BoolOp_or (thG (ha qQ s σ H _ I h) λv L x H1 B O j=>?_);obtain ⟨c,rfl,j⟩:=j;cases O;refine Ydj ?_;cases c with
 | false=>exact D qQ L σ H1 Q B j
 | true=>exact ⟨.bl true,H1,B,rfl,j⟩
theorem ZdM (ha:PE X a ta):PE X (.UnaryOp .Not a pos) (ZfK ta):=by
 intro qQ s σ H Q I h;refine UnaryOp_ (thG (ha qQ s σ H _ I h) λv L x H1 B D j=>?_);obtain ⟨c,rfl,j⟩:=j;cases D;exact not_of (Ydj ⟨.bl (!c),H1,B,rfl,j⟩)
noncomputable def tIf (t:TT)(ta tb:TE):TE:=λσ H Q=>t σ H λc H1=>if c=true then ta σ H1 Q else tb σ H1 Q
theorem Xg {c:Expr}(L:PT X c tA)(ha:PE X a ta)(O:PE X b tb):PE X (.IfExp c a b pos) (tIf tA ta tb):=by
 intro qQ s σ H Q I h;refine wpAny_IfExp (thT (L qQ s σ H _ I h) λd j H1 B D=>?_);cases d with
 | true=>exact ha qQ j σ H1 Q B D
 | false=>exact O qQ j σ H1 Q B D
end
noncomputable def SqL (K:W.Frag)(H:Hp)(a:Addr)(xs:List V):Prop:=
 Rd H a (.lst xs) \/
  ∃(o:Obj)(its:Array Value)(n:Nat),K.lookup a=some o/\o.cls=.type "list" /\ o.dict=none/\o.data=.seq its n/\its.size<=sizeLine/\Vals xs its.toList
noncomputable def SqT (K:W.Frag)(H:Hp)(a:Addr)(xs:List V):Prop:=
 Rd H a (.tup xs) \/
  ∃(o:Obj)(its:Array Value)(n:Nat),K.lookup a=some o/\o.cls=.type "tuple" /\ o.data=.seq its n/\its.size<=sizeLine/\Vals xs its.toList
noncomputable def ZgV:Value->Option V
 | .none=>some .non
 | .bool b=>some (.bl b)
 | .int i _=>some (.int i)
 | .str x _=>some (.str x)
 | .bytes b _=>some (.byt b)
 | .float b _=>some (.flt b)
 | .ref a=>some (.ref a)
 | .type n=>some (.ty n)
 | _=>none
theorem RelV.abs {x:V}{u:Value}(r:RelV x u):ZgV u=some x:=by
 cases x with
 | non=>cases r;rfl
 | bl _=>cases r;rfl
 | int _=>obtain ⟨t,rfl⟩:=r;rfl
 | str _=>obtain ⟨t,rfl⟩:=r;rfl
 | byt _=>obtain ⟨t,rfl⟩:=r;rfl
 | flt _=>obtain ⟨t,rfl⟩:=r;rfl
 | ref _=>cases r;rfl
 | ty _=>cases r;rfl
theorem RelV.inj {x y:V}{u:Value}(r:RelV x u)(q:RelV y u):x=y:=Ybo (r.abs.symm.trans q.abs)
theorem Vals.inj {xs ys:List V}{us:List Value}(h:Vals xs us)(g:Vals ys us):xs=ys:=by
 induction h generalizing ys with
 | nil=>cases g;rfl
 | cons r t ih=>cases g with
  | cons r' t'=>rw [r.inj r',ih t']
section
variable {X:Cx}{qQ:List (Addr×Obj)}{σ:St}{H:Hp}{s:Shared}{a:Addr}{xs ys:List V}
theorem SqL.of {K:W.Frag}(h:H a=some (.lst xs)):SqL K H a xs:=.inl (.inl h)
theorem SqT.of {K:W.Frag}(h:H a=some (.tup xs)):SqT K H a xs:=.inl (.inl h)
theorem Inv.list (I:Inv X qQ σ H s)(h:SqL X.K H a xs):∃its:List Value,Vals xs its/\PlainL s.heap a its.toArray/\xs.length<=sizeLine:=by
 rcases h with h | ⟨o,its,n,j,B,hd,D,L,r⟩
 ·obtain ⟨z,its,n,r,e⟩:=h.ok I.hok;exact ⟨its,r,⟨_,n,e,rfl,rfl,rfl⟩,z⟩
 ·refine ⟨its.toList,r,⟨o,n,I.kIn a o j,B,hd,by simpa using D⟩,?_⟩;have e:=r.length;simp only [Ybd] at e
  lia
theorem Inv.tuple (I:Inv X qQ σ H s)(h:SqT X.K H a xs):∃its:List Value,Vals xs its/\IsTup s.heap a its.toArray/\xs.length<=sizeLine:=by
 rcases h with h | ⟨o,its,n,j,B,D,L,r⟩
 ·obtain ⟨z,its,r,p⟩:=h.ok I.hok;exact ⟨its,r,p,z⟩
 ·refine ⟨its.toList,r,⟨o,I.kIn a o j,B,n,by simpa using D⟩,?_⟩;have e:=r.length;simp only [Ybd] at e
  lia
theorem Inv.list_inj (I:Inv X qQ σ H s)(h:SqL X.K H a xs)(h':SqL X.K H a ys):xs=ys:=by
 obtain ⟨its,r,⟨o,n,e,_,_,d⟩,_⟩:=I.list h;obtain ⟨j,r',⟨o',L,B,_,_,D⟩,_⟩:=I.list h';rw [e] at B;cases B;rw [d] at D;injection D with d1 _
 have:its=j:=by simpa using Ybh Array.toList d1
 subst this;exact r.inj r'
end
noncomputable abbrev Cx.wish (X:Cx)(E:EX):Cx:={ X with xe:=E }
noncomputable abbrev Cx.nox (X:Cx):Cx:=X.wish λ_ _=>False
theorem Cx.Ok.wish {X:Cx}(ok:X.Ok)(E:EX):(X.wish E).Ok:=
 ⟨ok.mod,ok.kind,ok.glob,ok.blt,ok.above,ok.inj,ok.has,ok.cab,ok.hd,ok.frames,ok.stk,ok.exf,ok.bs,ok.bsz,ok.noex,ok.exfs,ok.funs,ok.frf⟩
theorem Cx.Ok.unwish {X:Cx}{E:EX}(ok:(X.wish E).Ok):X.Ok:=
 ⟨ok.mod,ok.kind,ok.glob,ok.blt,ok.above,ok.inj,ok.has,ok.cab,ok.hd,ok.frames,ok.stk,ok.exf,ok.bs,ok.bsz,ok.noex,ok.exfs,ok.funs,ok.frf⟩
section
variable {X:Cx}{qQ:List (Addr×Obj)}{σ:St}{H:Hp}{s:Shared}{E:EX}
theorem Inv.wish (I:Inv X qQ σ H s)(E:EX):Inv (X.wish E) qQ σ H s:=⟨I.ok.wish E,I.os,I.bare,I.base,I.loc,I.cell,I.free,I.freeC,I.pin,I.hok,I.len⟩
theorem Inv.unwish (I:Inv (X.wish E) qQ σ H s):Inv X qQ σ H s:=⟨I.ok.unwish,I.os,I.bare,I.base,I.loc,I.cell,I.free,I.freeC,I.pin,I.hok,I.len⟩
theorem SP.unwish {D:YH}{f:Flow}{s':Shared}(h:SP (X.wish E) qQ D f s'):SP X qQ D f s':=by
 cases f with
 | next=>obtain ⟨j,H',I,q⟩:=h;exact ⟨j,H',I.unwish,q⟩
 | brk=>obtain ⟨j,H',I,q⟩:=h;exact ⟨j,H',I.unwish,q⟩
 | cont=>obtain ⟨j,H',I,q⟩:=h;exact ⟨j,H',I.unwish,q⟩
 | ret u=>obtain ⟨v,j,H',I,r,q⟩:=h;exact ⟨v,j,H',I.unwish,r,q⟩
theorem PSs.nox {st:List Stmt}{t:TS}(h:PSs X.nox st t):PSs X st t:=λqQ s σ H D I j=>
 Ybp (h qQ s σ H D (I.wish _) j) (λ_ _ q=>q.unwish) λ_ _ z=>False.elim z
end
section
variable {X:Cx}{st:Stmt}{rest:List Stmt}{t u:TS}{e:Expr}{te:TE}{pos:Pos}
noncomputable def JZ:TS:=λD σ H=>D.nx σ H
noncomputable def Zfs (t u:TS):TS:=λD σ H=>t { D with nx:=u D } σ H
theorem GC:PSs X [] JZ:=λ_ _ σ H _ I h=>wpAny_execs_nil ⟨σ,H,I,h⟩
theorem Ge (h1:PS X st t)(h2:PSs X rest u):PSs X (st::rest) (Zfs t u):=by
 intro qQ s σ H D I h;refine wpAny_execs_cons (thn (h1 qQ s σ H { D with nx:=u D } I h) λf j q=>?_);cases f with
 | next=>
  obtain ⟨B,H',L,q⟩:=q;exact h2 qQ j B H' D L q
 | ret v=>exact q
 | brk=>exact q
 | cont=>exact q
theorem Gj (h1:PS X st t):PSs X [st] t:=by
 intro qQ s σ H D I h;refine wpAny_execs_cons (thn (h1 qQ s σ H D I h) λf j q=>?_);cases f with
 | next=>exact wpAny_execs_nil q
 | ret v=>exact q
 | brk=>exact q
 | cont=>exact q
theorem Inv.quiet {qQ:List (Addr×Obj)}{σ:St}{H:Hp}{s:Shared}(I:Inv X qQ σ H s):interactive X.env=false:=by simp [interactive,I.ok.kind]
noncomputable def ZfM (te:TE):TS:=λD σ H=>te σ H λ_ H1=>D.nx σ H1
theorem Jc (j:PE X e te)(B:swapsWith e none pos.line X.env=pure false:=by rfl):PS X (.Expr e pos) (ZfM te):=by
 intro qQ s σ H D I h;exact wpAny_Expr_any (thG (j qQ s σ H _ I h) λv U x H1 L Y O=>⟨σ,H1,L,O⟩) I.quiet B
noncomputable def ZgW (te:TE):TS:=λD σ H=>te σ H D.rt
theorem Gx (j:PE X e te):PS X (.Return (some e) pos) (ZgW te):=by
 intro qQ s σ H D I h;exact wpAny_Return_some (thG (j qQ s σ H _ I h) λv U x H1 B L O=>⟨x,σ,H1,B,L,O⟩)
noncomputable def ZgA (c:TT)(t u:TS):TS:=λD σ H=>c σ H λb H1=>if b=true then t D σ H1 else u D σ H1
theorem Jl {c:Expr}{a b:List Stmt}{tc:TT}(O:PT X c tc)(ha:PSs X a t)(U:PSs X b u):PS X (.If c a b pos) (ZgA tc t u):=by
 intro qQ s σ H D I h;refine wpAny_If (thT (O qQ s σ H _ I h) λd j H1 B L=>?_);cases d with
 | true=>exact ha qQ j σ H1 D B L
 | false=>exact U qQ j σ H1 D B L
end
noncomputable abbrev TG:=V->St->Hp->(St->Hp->Prop)->Prop
noncomputable abbrev TGs:=List V->St->Hp->(St->Hp->Prop)->Prop
noncomputable def PG (X:Cx)(qU:Expr)(t:TG):Prop:=
 ∀(qQ:List (Addr×Obj))(s:Shared)(σ:St)(H:Hp)(v:V)(u:Value)(Q:St->Hp->Prop),Inv X qQ σ H s->RelV v u->t v σ H Q ->
  wpAny (model X.prog X.w) X.A (assign qU X.env u) (λ_ s'=>∃ j H',Inv X qQ j H' s'/\Q j H') X.xe s
noncomputable def PGs (X:Cx)(ts:List Expr)(t:TGs):Prop:=
 ∀(qQ:List (Addr×Obj))(s:Shared)(σ:St)(H:Hp)(vs:List V)(us:List Value)(Q:St->Hp->Prop),Inv X qQ σ H s->Vals vs us->t vs σ H Q ->
  wpAny (model X.prog X.w) X.A (assignInOrder ((assignEach ts X.env).map (·.2)) us) (λ_ s'=>∃ j H',Inv X qQ j H' s'/\Q j H') X.xe s
noncomputable abbrev ZfN:=V->V->V->Hp->(Hp->Prop)->Prop
noncomputable def ZgB (X:Cx)(t:ZfN):Prop:=
 ∀(qQ:List (Addr×Obj))(s:Shared)(σ:St)(H:Hp)(o i v:V)(ov iv u:Value)(Q:Hp->Prop),Inv X qQ σ H s->RelV o ov->RelV i iv->RelV v u->t o i v H Q ->
  wpAny (model X.prog X.w) X.A (setItem ov iv u) (λ_ s'=>∃H',Inv X qQ σ H' s'/\Q H') X.xe s
section
variable {X:Cx}{pos:Pos}
noncomputable def GW (i:Nat):TG:=λv σ H Q=>Q (σ.set i (some v)) H
theorem Go {i:Nat}{x:Str}(j:X.N.Nodup)(hi:X.N[i]?=some x)(B:Loc X.env.scope x)(D:X.fn x=true\/X.env.scope.names.lookup x=some .local:=by first | exact .inl rfl | exact .inr rfl | assumption):PG X (.Name x pos) (GW i):=by
 intro qQ s σ H v u Q I r h;exact wpAny_assign_Name (Ue I j hi B r (λs' L=>⟨_,H,L,h⟩) D)
noncomputable def ZgX:TGs:=λvs σ H Q=>vs=[]/\Q σ H
noncomputable def ZfO (t:TG)(u:TGs):TGs:=λvs σ H Q=>∃v r,vs=v::r/\t v σ H λj H'=>u r j H' Q
theorem OS:PGs X [] ZgX:=by
 intro qQ s σ H vs us Q I r h;obtain ⟨e,h⟩:=h;subst e;cases r;exact assignInOrder_nil ⟨σ,H,I,h⟩
theorem G0 {e:Expr}{es:List Expr}{t:TG}{u:TGs}(h1:PG X e t)(h2:PGs X es u)(j:(assignEach (e::es) X.env).map (·.2)=assign e X.env::(assignEach es X.env).map (·.2):=by rfl):PGs X (e::es) (ZfO t u):=by
 intro qQ s σ H vs us Q I r h;obtain ⟨v,Y,B,h⟩:=h;subst B;cases r with
 | cons r rr=>
  rw [j];refine assignInOrder_cons (thn (h1 qQ s σ H _ _ _ I r h) λ_ D ⟨L,H1,O,U⟩=>?_);exact h2 qQ D L H1 _ _ Q O rr U
noncomputable def ZgC (K:W.Frag)(n:Nat)(t:TGs):TG:=λv σ H Q=>∃a xs,v=.ref a/\SqT K H a xs/\xs.length=n/\t xs σ H Q
theorem ZdN {es:List Expr}{k:Nat}{t:TGs}{n:Nat}(L:X.calm=true)(h:PGs X es t)(O:(assignEach es X.env).length=n:=by rfl)(j:(assignEach es X.env).findIdx? (·.1)=none:=by rfl):PG X (.Tuple es k pos) (ZgC X.K n t):=by
 intro qQ s σ H v u Q I r B;obtain ⟨a,xs,U,Y,Z,B⟩:=B;subst U;cases r;obtain ⟨its,D,ht,hz⟩:=I.tuple Y;refine assign_Tuple_tuple (I.ok.hd L) ht (by simp [O,<-Z,D.length]) j λh' hx=>?_;have I1:Inv X qQ σ H { s with heap:=h' }:=I.kept (t':=s.toks) λb o e=>hx b o (Yay (Yal e)) e;exact h qQ _ σ H xs _ Q I1 (by simpa using D) B
noncomputable def ZgY (to j:TE)(t:ZfN):TG:=λv σ H Q=>to σ H λo H1=>j σ H1 λi H2=>t o i v H2 λB=>Q σ B
theorem ZbJ {o i:Expr}{to j:TE}{t:ZfN}(B:PE X o to)(hi:PE X i j)(D:ZgB X t)(ha:∀v,assign (.Subscript o i pos) X.env v=(do
   let ov <- holding [v] (eval o X.env)
   let iv <- holding [v,ov] (eval i X.env)
   standAt pos
   holding [v,ov,iv] (setItem ov iv v)
   release [v,ov,iv] []):=by intro _;rfl):PG X (.Subscript o i pos) (ZgY to j t):=by
 intro qQ s σ H v u Q I r h;rw [ha];refine Yaa (Ydc (thG (B qQ s σ H _ I h) λov L x H1 O U Y=>?_));refine Yaa (Ydc (thG (hi qQ L σ H1 _ O Y) λiv Z y H2 I2 r2 q2=>?_));refine Yaa (wpAny_standAt (Yaa (Ydc (thT (D qQ Z σ H2 x y v ov iv u _ I2 U r2 r q2) λ_ s3 H3 I3 q3=>?_))));exact wpAny_release ⟨σ,H3,I3,q3⟩
noncomputable def ZfP (te:TE)(g:TG):TS:=λD σ H=>te σ H λx H1=>g x σ H1 D.nx
theorem UU {tg e:Expr}{te:TE}{g:TG}(j:PE X e te)(B:PG X tg g)(L:swapsWithSole [tg] e pos.line X.env=pure false:=by rfl)(O:swappedStores [tg] e X.env=pure none:=by rfl)(h1:(assignEach [tg] X.env).map (·.2)=[assign tg X.env]:=by rfl):PS X (.Assign [tg] e pos) (ZfP te g):=by
 intro qQ s σ H D I h;refine wpAny_Assign_stores (thG (j qQ s σ H _ I h) λv U x H1 Y Z q1=>?_) L O;rw [h1];exact thn (B qQ U σ H1 x v _ Y Z q1) λ_ s2 q=>q
theorem Gp {i:Nat}{x:Str}{e:Expr}{te:TE}{pos':Pos}(j:X.N.Nodup)(hi:X.N[i]?=some x)(B:Loc X.env.scope x)(L:PE X e te)(O:swapsWith e (some (.Name x pos')) pos.line X.env=pure false:=by rfl)(U:X.fn x=true\/X.env.scope.names.lookup x=some .local:=by first | exact .inl rfl | exact .inr rfl | assumption) :
  PS X (.Assign [.Name x pos'] e pos) (ZfP te (GW i)):=by
 intro qQ s σ H D I h;refine wpAny_Assign_Name (thG (L qQ s σ H _ I h) λv s1 y H1 Y Z q1=>?_) O;exact Ue Y j hi B Z (λs2 I2=>⟨_,H1,I2,q1⟩) U
noncomputable def ZdO (c:TT)(tb:TS):TS:=λD σ H=>∃W:Nat->St->Hp->Prop,(∃m,W m σ H)/\∀m σ H,W m σ H ->
 c σ H λb H1=>if b=true then ∃N:St->Hp->Prop,(∀ j H',N j H'->∃B,B<m/\W B j H')/\tb { D with nx:=N,ct:=N,bk:=D.nx } σ H1 else D.nx σ H1
theorem Vm {c:Expr}{body:List Stmt}{tc:TT}{tb:TS}(hp:PassesOwn (model X.prog X.w) X.A X.env X.xe)(hc:PT X c tc)(hb:PSs X body tb):PS X (.While c body [] pos) (ZdO tc tb):=by
 intro qQ s σ H D I h;obtain ⟨W,⟨m0,w0⟩,j⟩:=h;refine wpAny_While (codeAny_whileLoop (λn s'=>∃ σ' H',Inv X qQ σ' H' s'/\W n σ' H') ?_ m0 ⟨σ,H,I,w0⟩);rintro n s1 ⟨O,H1,I1,w1⟩;refine Ydq hp (thT (hc qQ s1 O H1 _ I1 (j n O H1 w1)) λb s2 H2 I2 U=>?_);cases b with
 | true=>
  obtain ⟨N,hN,U⟩:=U;rw [if_pos rfl];refine Ydq hp (thn (hb qQ s2 O H2 _ I2 U) λf s3 Y=>?_);cases f with
  | next=>
   obtain ⟨B,L,Z,n3⟩:=Y;obtain ⟨m',hm,w3⟩:=hN B L n3;exact ⟨m',hm,B,L,Z,w3⟩
  | cont=>
   obtain ⟨B,L,Z,n3⟩:=Y;obtain ⟨m',hm,w3⟩:=hN B L n3;exact ⟨m',hm,B,L,Z,w3⟩
  | brk=>exact Y
  | ret v=>exact Y
 | false=>
  rw [if_neg Yar];exact wpAny_execs_nil ⟨O,H2,I2,U⟩
end
structure It where
 go:Nat->Hp->Prop
 yld:Nat->Hp->V->Hp->Prop
 stop:Nat->Hp->Prop
noncomputable def Zas (X:Cx)(qQ:List (Addr×Obj))(H:Hp)(b:Addr):Prop:=
 H b=none/\b≠X.env.locals/\b ∉ X.fs/\(b∈X.ex\/X.s₀.heap.objs.size<=b)/\(∀x c,X.env.cells.lookup x=some c->c≠b)/\∀p∈X.pn++qQ,p.1≠b
theorem Inv.fpOk {X:Cx}{qQ:List (Addr×Obj)}{σ:St}{H H':Hp}{s:Shared}{b:Addr}(I:Inv X qQ σ H s)(j:s.heap.objs.size<=b)(B:H' b=none):Zas X qQ H' b:=by
 refine ⟨B,Nat.ne_of_gt (Yax I.lt j),I.nofs j,.inr (Yca I.sz j),λx c e z=>?_,λp D z=>?_⟩
 ·obtain ⟨v,q⟩:=I.cell x c e;exact absurd (Yax q.lt (by rw [z];exact j)) (Ycf _)
 ·exact absurd (Yax (Yal (I.pin p D).1) (by rw [z];exact j)) (Ycf _)
structure Zdx (P:Program)(w:World)(K:W.Frag)(tg:Expr)(J:It)(fp:List Addr)(it:Addr)(tn:Nat->Heap->Prop):Prop where
 mem:it∈fp
 obj:∀i h,tn i h->∀b∈fp,∃o,h.get? b=some o/\∀v,o.data≠.cell v
 keep:∀i h h',tn i h->(∀b∈fp,∀o,h.get? b=some o->h'.get? b=some o)->tn i h'
 item:∀(X:Cx),X.prog=P->X.w=w->X.K=K->X.calm=true->∀(i:Nat)(qQ:List (Addr×Obj))(s:Shared)(σ:St)(H:Hp)(E:EX),Inv X qQ σ H s->(∀b∈fp,Zas X qQ H b)->tn i s.heap->J.go i H ->
  wpAny (model P w) X.A (pyNext (.ref it)) (λr s1=>∃u,r=some u /\
   wpAny (model P w) X.A (letOwnedTupleGo tg (.ref it) u) (λ_ s2=>∃x H',Inv X qQ σ H' s2/\RelV x u/\J.yld i H x H'/\tn (i+1) s2.heap/\∀b∈fp,H' b=none) E s1) E s
 done:∀(X:Cx),X.prog=P->X.w=w->X.K=K->X.calm=true->∀(i:Nat)(qQ:List (Addr×Obj))(s:Shared)(σ:St)(H:Hp)(E:EX),Inv X qQ σ H s->(∀b∈fp,Zas X qQ H b)->tn i s.heap->J.stop i H ->
  wpAny (model P w) X.A (pyNext (.ref it)) (λr s1=>r=none/\Inv X qQ σ H s1) E s
 self:∀(A:Around)(i:Nat)(s:Shared)(Q:EX)(E:EX),tn i s.heap->Q (.ref it) s->wpAny (model P w) A (pyIter (.ref it)) Q E s
noncomputable abbrev TI:=St->Hp->(It->Hp->Prop)->Prop
noncomputable def PIE (X:Cx)(qQ:List (Addr×Obj))(σ:St)(tg:Expr)(R:It->Hp->Prop)(j:Value)(B:Shared):Prop:=
 ∃(D:Addr)(fp:List Addr)(tn:Nat->Heap->Prop)(J:It)(H':Hp),j=.ref D/\Inv X qQ σ H' B/\Zdx X.prog X.w X.K tg J fp D tn/\tn 0 B.heap/\(∀b∈fp,Zas X qQ H' b)/\R J H'
noncomputable def PI (X:Cx)(tg iter:Expr)(wi:TI):Prop:=
 ∀(qQ:List (Addr×Obj))(s:Shared)(σ:St)(H:Hp)(R:It->Hp->Prop),Inv X qQ σ H s->wi σ H R ->
  wpAny (model X.prog X.w) X.A (eval iter X.env) (λv j=>wpAny (model X.prog X.w) X.A (pyIter v) (PIE X qQ σ tg R) X.xe j) X.xe s
theorem Zcj {M:Model}{A:Around}{E:EX}{s:Shared}{tg:Expr}{B:Addr}{u:Value}{o:Obj}{n:String}{vs:Array Value}{Q:Unit->Shared->Prop}(D:s.heap.get? B=some o)(L:o.cls=.type n)(hd:o.data=.fields vs)(O:["enumerate", "zip", "dict_itemiterator", "dict_reverseitemiterator", "odict_iterator", "itertools.zip_longest", "itertools.pairwise"].contains n=false)(j:Q () s):wpAny M A (letOwnedTupleGo tg (.ref B) u) Q E s:=by
 unfold letOwnedTupleGo;cases tg <;> first
  | exact Yah j
  | (cases u <;> first
    | exact Yah j
    | (refine Yaa (wpAny_load D ?_)
       rw [L,hd];show wpAny M A (if (["enumerate", "zip", "dict_itemiterator", "dict_reverseitemiterator", "odict_iterator", "itertools.zip_longest", "itertools.pairwise"].contains n && vs[0]? == some (rawInt _))=true then _ else _) Q E s;rw [if_neg (by intro h;rw [O,Bool.false_and] at h;cases h)];exact Yah j))
noncomputable def Itl (K:W.Frag)(a:Addr):It:=
 ⟨λi H=>∃xs x,SqL K H a xs/\xs[i]?=some x,λi H x H'=>H'=H/\∀xs,SqL K H a xs->xs[i]?=some x,λi H=>∃xs,SqL K H a xs/\xs.length<=i⟩
noncomputable def Itr (lo:Int)(n:Nat):It:=⟨λi _=>i<n,λi H x H'=>H'=H/\x=.int (lo+i),λi _=>n<=i⟩
theorem YO {P:Program}{w:World}{K:W.Frag}{tg:Expr}(a it:Addr):Zdx P w K tg (Itl K a) [it] it (λi h=>h.IsListIter it a i) where
 mem:=by simp
 obj:=λi h st b hb=>by
  have e:b=it:=by simpa using hb
  subst e;obtain ⟨o,e,c,d⟩:=st;exact ⟨o,e,λv z=>by rw [d] at z;cases z⟩
 keep:=λi h h' st k=>st.at λo e=>k it (by simp) o e
 item:=by
  intro X hP hw hK hc i qQ s σ H E I hf st hg;subst hP hw hK;obtain ⟨xs,x,hq,hx⟩:=hg;obtain ⟨its,rv,p,hz⟩:=I.list hq;obtain ⟨u,hu,ru⟩:=rv.get hx;obtain ⟨f0,f1,f2,f3,f4,f5⟩:=hf it (by simp);refine wpAny_pyNext_list_item st p.isList (x:=u) (by simpa using hu) λh' st' sb=>?_;have I1:Inv X qQ σ H { s with heap:=h' }:=I.turned (t':=s.toks) (λb o hb e=>(sb.2 b hb).trans e) f0 f1 f3 f4 f5;obtain ⟨o,e,c,d⟩:=id st';exact ⟨u,rfl,Zcj (s:={ s with heap:=h' }) e c d (by decide) ⟨x,H,I1,ru,⟨rfl,λys hy=>by rw [I.list_inj hy hq];exact hx⟩,st',λb hb=>(hf b hb).1⟩⟩
 done:=by
  intro X hP hw hK hc i qQ s σ H E I hf st hg;subst hP hw hK;obtain ⟨xs,hq,hx⟩:=hg;obtain ⟨its,rv,p,hz⟩:=I.list hq;obtain ⟨f0,f1,f2,f3,f4,f5⟩:=hf it (by simp);have hl:=rv.length;exact wpAny_pyNext_list_end (I.ok.hd hc) st p.isList (by simp;lia) λh' eb=>⟨rfl,I.turned (t':=s.toks) (λb o hb e=>eb b o hb e) f0 f1 f3 f4 f5⟩
 self:=λ_ _ _ _ _ st h=>wpAny_pyIter_listiter st h
theorem X5 {P:Program}{w:World}{K:PySem.W.Frag}{tg:Expr}(it:Addr)(lo:Int)(n:Nat):Zdx P w K tg (Itr lo n) [it] it (λi h=>IsRangeIter h it (lo+(i:Nat) * 1) ((n:Int)-(i:Nat)) 1) where
 mem:=by simp
 obj:=λi h st b hb=>by
  have e:b=it:=by simpa using hb
  subst e;exact ⟨_,st,λv z=>by
   have z':Data.fields _=Data.cell v:=z;cases z'⟩
 keep:=λi h h' st k=>k it (by simp) _ st
 item:=by
  intro X hP hw hK hc i qQ s σ H E I hf st hg;subst hP hw hK;obtain ⟨f0,f1,f2,f3,f4,f5⟩:=hf it (by simp);have W:=Walks.range (prog:=X.prog) (w:=X.w) (I.ok.hd hc) it lo 1 n;refine W.item i s _ _ hg st λv h' tk hv st' kk=>?_;obtain ⟨t,rfl⟩:=hv;have I1:Inv X qQ σ H { s with heap:=h',toks:=tk }:=I.turned (λb o hb e=>kk b o (by simpa using hb) e) f0 f1 f3 f4 f5;refine ⟨_,rfl,Zcj (s:={ s with heap:=h',toks:=tk }) (n := "range_iterator") st' rfl rfl (by decide) ⟨.int (lo+i),H,I1,⟨t,?_⟩,⟨rfl,rfl⟩,st',λb hb=>(hf b hb).1⟩⟩;rw [Int.mul_one]
 done:=by
  intro X hP hw hK hc i qQ s σ H E I hf st hg;subst hP hw hK;obtain ⟨f0,f1,f2,f3,f4,f5⟩:=hf it (by simp);exact wpAny_pyNext_range_end (I.ok.hd hc) st (by have:n<=i:=hg;lia) λh' eb=>⟨rfl,I.turned (t':=s.toks) (λb o hb e=>eb b o hb e) f0 f1 f3 f4 f5⟩
 self:=λ_ _ _ _ _ st h=>wpAny_pyIter_rangeiter st h
section
variable {X:Cx}{tg:Expr}
noncomputable def ZdP (K:W.Frag)(tl:TE):TI:=λσ H R=>tl σ H λx H1=>∃a,x=.ref a/\(∃xs,SqL K H1 a xs)/\R (Itl K a) H1
theorem Zck {l:Expr}{tl:TE}(D:PE X l tl):PI X tg l (ZdP X.K tl):=by
 intro qQ s σ H R I h;refine thG (D qQ s σ H _ I h) λv j x H1 B L O=>?_;obtain ⟨a,e,⟨xs,U⟩,q⟩:=O;subst e;cases L;obtain ⟨its,Z,p,hz⟩:=B.list U;refine wpAny_pyIter_list p.isList ?_;refine ⟨j.heap.objs.size,[j.heap.objs.size],_,_,H1,rfl,B.kept (t':=j.toks) λb o e=>Yan _ e,YO a _,⟨_,Ybj _ rfl,rfl,rfl⟩,λb Y=>?_,q⟩;have e:b=j.heap.objs.size:=by simpa using Y
 subst e;exact B.fpOk (Yad _) (B.hok.fresh (Yad _))
theorem ZaB {qQ:List (Addr×Obj)}{σ:St}{H:Hp}{s:Shared}{R:It->Hp->Prop}{E:EX}{lo hi:Int}{t u v:Tok}{tk:Nat}(I:Inv X qQ σ H s)(h1:-(2 ^ 62)<=lo)(h2:lo<2 ^ 62)(B:-(2 ^ 62)<=hi)(D:hi<2 ^ 62)(q:R (Itr lo (hi-lo).toNat) H):wpAny (model X.prog X.w) X.A (pyIter (.ref s.heap.objs.size)) (PIE X qQ σ tg R) E { s with heap:=s.heap.push { cls:=.type "range", data:=.fields #[.int lo t,.int hi u,.int 1 v] },toks:=tk }:=by
 refine wpAny_pyIter_range (IsRange.new ..) (small_one h1 h2 B D) ?_;have j:Inv X qQ σ H { s with heap:=s.heap.push { cls:=.type "range", data:=.fields #[.int lo t,.int hi u,.int 1 v] },toks:=tk }:=I.kept λb o e=>Yan _ e;refine ⟨(s.heap.push { cls:=.type "range", data:=.fields #[.int lo t,.int hi u,.int 1 v] }).objs.size,[(s.heap.push { cls:=.type "range", data:=.fields #[.int lo t,.int hi u,.int 1 v] }).objs.size],_,_,H,rfl,
  j.kept (t':=tk) λb o e=>Yan _ e,X5 _ lo (hi-lo).toNat,?_,λb L=>?_,q⟩
 ·have O:lo+((0:Nat):Int) * 1=lo:=by simp
  have U:(((hi-lo).toNat:Nat):Int)-((0:Nat):Int)=Builtin.Range.rangeSize lo hi 1:=by rw [rangeSize_one];split <;> lia
  show IsRangeIter _ _ (lo+((0:Nat):Int) * 1) ((((hi-lo).toNat:Nat):Int)-((0:Nat):Int)) 1;rw [O,U];exact Ybj _ rfl
 ·have e:b=(s.heap.push { cls:=.type "range", data:=.fields #[.int lo t,.int hi u,.int 1 v] }).objs.size:=by simpa using L
  subst e;exact j.fpOk (Yad _) (j.hok.fresh (Yad _))
noncomputable def ZfQ (ta:TA):TI:=λσ H R=>ta σ H λvs H1=>∃j:Int,vs=[.int j]/\-(2 ^ 62)<=j/\j<2 ^ 62/\R (Itr 0 j.toNat) H1
theorem J0 {a:Expr}{ta:TA}{p pos:Pos}(D:Gl X "range")(L:X.mg "range" = none)(ha:PA X [a] ta)(O:starEach [a] X.env=[(false,eval a X.env)]:=by rfl):PI X tg (.Call (.Name "range" p) [a] [] pos) (ZfQ ta):=by
 intro qQ s σ H R I h;refine Call_ (UT I D L boot_range (PyProof.Rows.callWith_type1 (thG (ha pos qQ s σ H _ I h) λus s1 vs H1 U Y B=>?_) O rfl));obtain ⟨j,e,B,Z,q⟩:=B;subst e;cases Y with
 | cons r rr=>
  cases rr;obtain ⟨t,rfl⟩:=r;exact call_range_1 (ZaB U (by lia) (by lia) B Z (by simpa using q))
noncomputable def ZgZ (wi:TI)(g:TG)(tb:TS):TS:=λD σ H=>wi σ H λJ H1=>∃W:Nat->Nat->St->Hp->Prop,(∃m,W 0 m σ H1)/\∀i m σ H,W i m σ H ->
 (J.stop i H/\D.nx σ H)\/(J.go i H/\∃N:St->Hp->Prop,(∀ j H',N j H'->∃B,B<m/\W (i+1) B j H')/\∀x H',J.yld i H x H'->g x σ H' λL H2=>tb { D with nx:=N,ct:=N,bk:=D.nx } L H2)
noncomputable def V2 (fp:List Addr)(h:Heap):List (Addr×Obj):=fp.filterMap λb=>(h.get? b).map λo=>(b,o)
theorem J7 {fp:List Addr}{h:Heap}{b:Addr}{o:Obj}(j:b∈fp)(e:h.get? b=some o):(b,o)∈V2 fp h:=Ydk.mpr ⟨b,j,by rw [e];rfl⟩
theorem YQ {fp:List Addr}{h:Heap}{p:Addr×Obj}(j:p∈V2 fp h):p.1∈fp/\h.get? p.1=some p.2:=by
 obtain ⟨b,B,e⟩:=Ydk.mp j;cases q:h.get? b with
 | none=>rw [q] at e;cases e
 | some o=>
  rw [q] at e;have D:(b,o)=p:=Ybo e;subst D;exact ⟨B,q⟩
theorem Inv.pinned {qQ:List (Addr×Obj)}{σ:St}{H:Hp}{s:Shared}{fp:List Addr}(I:Inv X qQ σ H s)(D:∀b∈fp,Zas X qQ H b)(L:∀b∈fp,∃o,s.heap.get? b=some o/\∀v,o.data≠.cell v):Inv X (qQ++V2 fp s.heap) σ H s:=
 I.pins_of λp O=>(Yag.mp O).elim (λz=>I.pin p (Ybs _ z)) λz=>by
  obtain ⟨j,e⟩:=YQ z;obtain ⟨U,Y,Z,_⟩:=D p.1 j;obtain ⟨o,B,d⟩:=L p.1 j;rw [e] at B;cases B;exact ⟨e,U,Y,Z,d⟩
theorem Inv.unpinned {qQ pl:List (Addr×Obj)}{σ:St}{H:Hp}{s:Shared}(I:Inv X (qQ++pl) σ H s):Inv X qQ σ H s:=I.pins_of λp j=>I.pin p (Ybs _ (Yci _ j))
theorem JE {iter:Expr}{body:List Stmt}{wi:TI}{g:TG}{tb:TS}{pos:Pos}(hp:PassesOwn (model X.prog X.w) X.A X.env X.xe)(hc:X.calm=true)(hi:PI X tg iter wi)(hg:PG X tg g)(j:PSs X body tb)(hs:∀x,foldedSetIterable iter X.env x=pure x:=by intro _;rfl):PS X (.For tg iter body [] pos) (ZgZ wi g tb):=by
 intro qQ s σ H D I h;refine wpAny_For (thn (hi qQ s σ H _ I h) λv s1 h1=>thn h1 λai s2 h2=>?_) hs;obtain ⟨it,fp,tn,J,H2,e,I2,T,af,f2,W,⟨m0,w0⟩,ab⟩:=h2;subst e;have B:∀{H':Hp},(∀b∈fp,H' b=none)->∀b∈fp,Zas X qQ H' b:=λhn b j=>⟨hn b j,(f2 b j).2⟩;refine codeAny_forLoop_any (λn s'=>∃i σ' H',Inv X qQ σ' H' s'/\tn i s'.heap/\(∀b∈fp,H' b=none)/\W i n σ' H') ?_ m0 ⟨0,σ,H2,I2,af,λb j=>(f2 b j).1,w0⟩;rintro n s3 ⟨i,σ3,H3,I3,ac,ad,w3⟩;rcases ab i n σ3 H3 w3 with ⟨ae,qn⟩ | ⟨go,N,hN,step⟩
 ·refine Ydq hp (thn (T.done X rfl rfl rfl hc i qQ s3 σ3 H3 X.xe I3 (B ad) ac ae) λr s4 ⟨hr,I4⟩=>?_);subst hr;exact wpAny_execs_nil ⟨σ3,H3,I4,qn⟩
 ·refine Ydq hp (thn (T.item X rfl rfl rfl hc i qQ s3 σ3 H3 X.xe I3 (B ad) ac go) λr s4 ⟨u,hr,h4⟩=>?_);subst hr;refine Ydq hp (thn h4 λ_ s5 ⟨x,H5,I5,r5,y5,aa,ag⟩=>?_);have ah:=I5.pinned (B ag) (T.obj _ _ aa);refine Ydq hp (thn (hg _ s5 σ3 H5 x u _ ah r5 (step x H5 y5)) λ_ s6 ⟨σ6,H6,I6,q6⟩=>?_);refine Ydq hp (thn (j _ s6 σ6 H6 _ I6 q6) λf s7 Z=>?_);have L:∀{O:St}{U:Hp},Inv X (qQ++V2 fp s5.heap) O U s7->N O U->∃m,m<n/\∃i σ' H',Inv X qQ σ' H' s7/\tn i s7.heap/\(∀b∈fp,H' b=none)/\W i m σ' H':=λ{O U} Y n7=>by
   obtain ⟨m',hm,w7⟩:=hN O U n7;refine ⟨m',hm,i+1,O,U,Y.unpinned,T.keep _ _ _ aa λb j o e=>(Y.pin (b,o) (Ybs _ (Ybs _ (J7 j e)))).1,λb j=>?_,w7⟩;obtain ⟨o,e,d⟩:=T.obj _ _ aa b j;exact (Y.pin (b,o) (Ybs _ (Ybs _ (J7 j e)))).2.1
  cases f with
  | next=>obtain ⟨O,U,Y,n7⟩:=Z;exact L Y n7
  | cont=>obtain ⟨O,U,Y,n7⟩:=Z;exact L Y n7
  | brk=>obtain ⟨O,U,Y,Z⟩:=Z;exact ⟨O,U,Y.unpinned,Z⟩
  | ret v=>obtain ⟨x7,O,U,Y,r7,Z⟩:=Z;exact ⟨x7,O,U,Y.unpinned,r7,Z⟩
end
noncomputable abbrev YR (J:It)(g:TG)(tb:TS)(D:YH)(σ:St)(H:Hp):Prop:=∃W:Nat->Nat->St->Hp->Prop,(∃m,W 0 m σ H)/\∀i m σ H,W i m σ H ->
   (J.stop i H/\D.nx σ H)\/(J.go i H/\∃N:St->Hp->Prop,(∀ j H',N j H'->∃B,B<m/\W (i+1) B j H')/\∀x H',J.yld i H x H'->g x σ H' λL H2=>tb { D with nx:=N,ct:=N,bk:=D.nx } L H2)
theorem Vn {J:It}{n:Nat}{g:TG}{tb:TS}{D:YH}{σ:St}{H:Hp}(j:Nat->St->Hp->Prop)(h0:j 0 σ H)(L:∀i σ H,i<=n->j i σ H->(i<n->J.go i H)/\(i=n->J.stop i H))(O:∀i σ H x H',i<n->j i σ H->J.yld i H x H'->g x σ H' λU H2=>tb { D with nx:=j (i+1),ct:=j (i+1),bk:=D.nx } U H2)(hd:∀ σ H,j n σ H->D.nx σ H):YR J g tb D σ H:=by
 refine ⟨λi m σ H=>m=n-i/\i<=n/\j i σ H,⟨_,rfl,Yao _,h0⟩,?_⟩;rintro i m σ H ⟨rfl,hi,p⟩;have q:=L i σ H hi p;by_cases B:i<n
 ·exact .inr ⟨q.1 B,j (i+1),λZ H' Y=>⟨n-(i+1),by lia,rfl,B,Y⟩,λx H' y=>O i σ H x H' B p y⟩
 ·have e:i=n:=by lia
  subst e;exact .inl ⟨q.2 rfl,hd σ H p⟩
theorem JL {K:W.Frag}{a:Addr}{xs:List V}{g:TG}{tb:TS}{D:YH}{σ:St}{H:Hp}(j:Nat->St->Hp->Prop)(h0:j 0 σ H)(B:∀i σ H,i<=xs.length->j i σ H->SqL K H a xs)(L:∀i x σ H,xs[i]?=some x->j i σ H->g x σ H λO H2=>tb { D with nx:=j (i+1),ct:=j (i+1),bk:=D.nx } O H2)(hd:∀ σ H,j xs.length σ H->D.nx σ H) :
  YR (Itl K a) g tb D σ H:=Vn j h0 (λi s H hi p=>⟨λz=>⟨xs,xs[i],B i s H hi p,by simp [z]⟩,λe=>⟨xs,B i s H hi p,by lia⟩⟩) (λi s H x H' z p y=>by obtain ⟨rfl,y⟩:=y;exact L i x s _ (y xs (B i s _ (Ycr z) p)) p) hd
theorem Ow {lo:Int}{n:Nat}{g:TG}{tb:TS}{D:YH}{σ:St}{H:Hp}(j:Nat->St->Hp->Prop)(h0:j 0 σ H)(B:∀i σ H,i<n->j i σ H->g (.int (lo+i)) σ H λL H2=>tb { D with nx:=j (i+1),ct:=j (i+1),bk:=D.nx } L H2)(hd:∀ σ H,j n σ H->D.nx σ H) :
  YR (Itr lo n) g tb D σ H:=Vn j h0 (λi s H hi p=>⟨id,λe=>Nat.le_of_eq e.symm⟩) (λi s H x H' z p y=>by obtain ⟨rfl,rfl⟩:=y;exact B i s _ z p) hd
noncomputable abbrev R2:=V->V->Hp->VK->Prop
noncomputable def OpR (X:Cx)(f:Value->Value->Sem Value)(r:R2):Prop:=
 ∀(qQ:List (Addr×Obj))(s:Shared)(σ:St)(H:Hp)(x y:V)(v u:Value)(Q:VK),Inv X qQ σ H s->RelV x v->RelV y u->r x y H Q ->
  wpAny (model X.prog X.w) X.A (f v u) (EP X qQ σ Q) X.xe s
noncomputable def UnR (X:Cx)(f:Value->Sem Value)(r:V->Hp->VK->Prop):Prop:=
 ∀(qQ:List (Addr×Obj))(s:Shared)(σ:St)(H:Hp)(x:V)(v:Value)(Q:VK),Inv X qQ σ H s->RelV x v->r x H Q ->
  wpAny (model X.prog X.w) X.A (f v) (EP X qQ σ Q) X.xe s
noncomputable def Oi (X:Cx)(f:Value)(r:List V->Hp->VK->Prop):Prop:=
 ∀(qQ:List (Addr×Obj))(s:Shared)(σ:St)(H:Hp)(xs:List V)(us:List Value)(Q:VK),Inv X qQ σ H s->Vals xs us->r xs H Q ->
  wpAny (model X.prog X.w) X.A (call f us) (EP X qQ σ Q) X.xe s
noncomputable def Zg0 (X:Cx)(r:V->Hp->(Bool->Hp->Prop)->Prop):Prop:=
 ∀(qQ:List (Addr×Obj))(s:Shared)(σ:St)(H:Hp)(x:V)(v:Value)(Q:Bool->Hp->Prop),Inv X qQ σ H s->RelV x v->r x H Q ->
  wpAny (model X.prog X.w) X.A (truthy v) (TP X qQ σ Q) X.xe s
noncomputable def tOp (r:R2)(ta tb:TE):TE:=λσ H Q=>ta σ H λx H1=>tb σ H1 λy H2=>r x y H2 Q
noncomputable def tUn (r:V->Hp->VK->Prop)(ta:TE):TE:=λσ H Q=>ta σ H λx H1=>r x H1 Q
noncomputable def rI (C:Int->Int->Prop)(g:Int->Int->V):R2:=λx y H Q=>∃i j,x=.int i/\y=.int j/\C i j/\Q (g i j) H
noncomputable def rI0 (g:Int->Int->V):R2:=λx y H Q=>∃i j,x=.int i/\y=.int j/\Q (g i j) H
noncomputable def rU (g:Int->V):V->Hp->VK->Prop:=λx H Q=>∃i,x=.int i/\Q (g i) H
section
variable {X:Cx}{a b c:Expr}{ta tb tc:TE}{pos:Pos}
theorem ZfR (ha:PE X a ta)(B:PE X b tb){qQ:List (Addr×Obj)}{s:Shared}{σ:St}{H:Hp}{R:V->V->Hp->Prop}(I:Inv X qQ σ H s)(h:ta σ H λx H1=>tb σ H1 λy H2=>R x y H2){Q:EX}{f:Value->Value->Sem Value}(D:∀v u j x y H2,Inv X qQ σ H2 j->RelV x v->RelV y u->R x y H2->wpAny (model X.prog X.w) X.A (f v u) Q X.xe j) :
  wpAny (model X.prog X.w) X.A (eval a X.env) (λv L=>wpAny (model X.prog X.w) X.A (eval b X.env) (λu O=>wpAny (model X.prog X.w) X.A (f v u) Q X.xe O) X.xe L) X.xe s:=by
 refine thG (ha qQ s σ H _ I h) λv U x H1 Y Z q1=>?_;refine thG (B qQ U σ H1 _ Y q1) λu j y H2 I2 r2 q2=>?_;exact D v u j x y H2 I2 Z r2 q2
theorem GE {j:Operator}{r:R2}(B:OpR X (binaryOp j) r)(ha:PE X a ta)(D:PE X b tb):PE X (.BinOp a j b pos) (tOp r ta tb):=by
 intro qQ s σ H Q I h;exact wpAny_BinOp (ZfR ha D I h λv u L x y H2 O U Y q=>B qQ L σ H2 x y v u Q O U Y q)
theorem ZfS {j:UnaryOp}{r:V->Hp->VK->Prop}(B:UnR X (unaryOp j) r)(ha:PE X a ta):PE X (.UnaryOp j a pos) (tUn r ta):=by
 intro qQ s σ H Q I h;exact UnaryOp_ (thG (ha qQ s σ H _ I h) λv D x H1 L O U=>B qQ D σ H1 x v Q L O U)
theorem opI {f:Value->Value->Sem Value}{C:Int->Int->Prop}{g:Int->Int->Int}(rule:∀(i j:Int)(t u:Tok)(s:Shared)(Q:EX)(E:EX),C i j->Q (.int (g i j) s.toks) { s with toks:=s.toks+1 }->wpAny (model X.prog X.w) X.A (f (.int i t) (.int j u)) Q E s) :
  OpR X f (rI C λi j=>.int (g i j)):=by
 intro qQ s σ H x y v u Q I B D h;obtain ⟨i,j,rfl,rfl,L,q⟩:=h;obtain ⟨t,rfl⟩:=B;obtain ⟨O,rfl⟩:=D;exact rule i j t O s _ _ L ⟨.int (g i j),H,I.tok _,⟨_,rfl⟩,q⟩
theorem ZgD {f:Value->Value->Sem Value}{g:Int->Int->Int}(rule:∀(i j:Int)(t u:Tok)(s:Shared)(Q:EX)(E:EX),Q (.int (g i j) s.toks) { s with toks:=s.toks+1 }->wpAny (model X.prog X.w) X.A (f (.int i t) (.int j u)) Q E s) :
  OpR X f (rI0 λi j=>.int (g i j)):=by
 intro qQ s σ H x y v u Q I B D h;obtain ⟨i,j,rfl,rfl,q⟩:=h;obtain ⟨t,rfl⟩:=B;obtain ⟨L,rfl⟩:=D;exact rule i j t L s _ _ ⟨.int (g i j),H,I.tok _,⟨_,rfl⟩,q⟩
theorem ZfT {f:Value->Value->Sem Value}{g:Int->Int->Bool}(rule:∀(i j:Int)(t u:Tok)(s:Shared)(Q:EX)(E:EX),Q (.bool (g i j)) s->wpAny (model X.prog X.w) X.A (f (.int i t) (.int j u)) Q E s) :
  OpR X f (rI0 λi j=>.bl (g i j)):=by
 intro qQ s σ H x y v u Q I B D h;obtain ⟨i,j,rfl,rfl,q⟩:=h;obtain ⟨t,rfl⟩:=B;obtain ⟨L,rfl⟩:=D;exact rule i j t L s _ _ ⟨.bl (g i j),H,I,rfl,q⟩
noncomputable def Zg1 (i j:Int):Prop:=0<=j/\j<=1000000/\i.natAbs<2 ^ 64
noncomputable def CMul (i j:Int):Prop:=(-(2 ^ 64)<i/\i<2 ^ 64)\/(-(2 ^ 64)<j/\j<2 ^ 64)
theorem CMul.ok {i j:Int}(h:CMul i j):IntMulOk i j:=by
 rcases h with ⟨h1,h2⟩ | ⟨h1,h2⟩
 ·exact .of_left (intBits_le_64 h1 h2)
 ·exact .of_right (intBits_le_64 h1 h2)
theorem Jv:OpR X (binaryOp .Add) (rI0 λi j=>.int (i+j)):=ZgD λ_ _ _ _ _ _ _ q=>add_int q
theorem Ur:OpR X (binaryOp .Sub) (rI0 λi j=>.int (i-j)):=ZgD λ_ _ _ _ _ _ _ q=>sub_int q
theorem O5:OpR X (binaryOp .Mult) (rI CMul λi j=>.int (i * j)):=opI λ_ _ _ _ _ _ _ B q=>mul_int q B.ok
theorem V3:OpR X (binaryOp .Mod) (rI (λ_ j=>0<j) λi j=>.int (i % j)):=opI λi j _ _ _ _ _ B q=>by
 have h1:(0:Int)<j:=B;exact mod_int' (by lia) (by rw [Int.fmod_eq_emod_of_nonneg i (by lia)];exact q)
theorem ZbK:OpR X (binaryOp .Pow) (rI Zg1 λi j=>.int (i ^ j.toNat)):=opI λ_ _ _ _ _ _ _ B q=>pow_int_small B.1 B.2.1 B.2.2 q
noncomputable def ZgE:V->V->Bool
 | .non,.non=>true | .non,.int _=>true | .int _,.non=>true | .non,.bl _=>true | .bl _,.non=>true | .non,.str _=>true | .str _,.non=>true
 | .int _,.int _=>true | .bl _,.bl _=>true | .str _,.str _=>true | .byt _,.byt _=>true
 | .int _,.str _=>true | .str _,.int _=>true | .bl _,.str _=>true | .str _,.bl _=>true
 | _,_=>false
noncomputable def rEq:R2:=λx y H Q=>ZgE x y=true/\Q (.bl (decide (x=y))) H
noncomputable def rNe:R2:=λx y H Q=>ZgE x y=true/\Q (.bl (!decide (x=y))) H
theorem YS {i j:Int}:decide (V.int i=V.int j)=(i == j):=by
 rw [Bool.eq_iff_iff];simp
theorem ZbL {i j:Bool}:decide (V.bl i=V.bl j)=(i == j):=by
 rw [Bool.eq_iff_iff];simp
theorem YT {i j:Str}:decide (V.str i=V.str j)=(i == j):=by
 rw [Bool.eq_iff_iff];simp
theorem YU {i j:Array UInt8}:decide (V.byt i=V.byt j)=(i.toList == j.toList):=by
 rw [Bool.eq_iff_iff];cases i;cases j;simp
theorem GH {qQ:List (Addr×Obj)}{σ:St}{H:Hp}{s:Shared}{Q:VK}{k j:Bool}(I:Inv X qQ σ H s)(q:Q (.bl k) H)(e:k=j):EP X qQ σ Q (.bool j) s:=by
 subst e;exact ⟨.bl k,H,I,rfl,q⟩
theorem Ox:OpR X (compareOp .Eq) rEq:=by
 intro qQ s σ H x y v u Q I O B h;obtain ⟨L,q⟩:=h;cases x with
 | non=>
  cases O;cases y with
  | non=>cases B;exact PySem.EqNone.eq_none_none (GH I q (by simp))
  | bl j=>cases B;exact PySem.EqNone.eq_none_bool (GH I q (by simp))
  | int j=>obtain ⟨D,rfl⟩:=B;exact PySem.EqNone.eq_none_int (GH I q (by simp))
  | str j=>obtain ⟨D,rfl⟩:=B;exact PySem.EqNone.eq_none_str (GH I q (by simp))
  | _=>exact absurd (show false=true from L) Yar
 | bl i=>
  cases O;cases y with
  | non=>cases B;exact PySem.EqNone.eq_bool_none (GH I q (by simp))
  | bl j=>cases B;exact eq_bool (GH I q ZbL)
  | str j=>obtain ⟨D,rfl⟩:=B;exact PySem.EqMixed.eq_bool_str (GH I q (by simp))
  | _=>exact absurd (show false=true from L) Yar
 | int i=>
  obtain ⟨t,rfl⟩:=O;cases y with
  | non=>cases B;exact PySem.EqNone.eq_int_none (GH I q (by simp))
  | int j=>obtain ⟨D,rfl⟩:=B;exact eq_int (GH I q YS)
  | str j=>obtain ⟨D,rfl⟩:=B;exact PySem.EqMixed.eq_int_str (GH I q (by simp))
  | _=>exact absurd (show false=true from L) Yar
 | str i=>
  obtain ⟨t,rfl⟩:=O;cases y with
  | non=>cases B;exact PySem.EqNone.eq_str_none (GH I q (by simp))
  | bl j=>cases B;exact PySem.EqMixed.eq_str_bool (GH I q (by simp))
  | int j=>obtain ⟨D,rfl⟩:=B;exact PySem.EqMixed.eq_str_int (GH I q (by simp))
  | str j=>obtain ⟨D,rfl⟩:=B;exact eq_str (GH I q YT)
  | _=>exact absurd (show false=true from L) Yar
 | byt i=>
  obtain ⟨t,rfl⟩:=O;cases y with
  | byt j=>obtain ⟨D,rfl⟩:=B;exact W.eq_bytes (GH I q YU)
  | _=>exact absurd (show false=true from L) Yar
 | _=>cases y <;> exact absurd (show false=true from L) Yar
theorem ZdQ:OpR X (compareOp .NotEq) rNe:=by
 intro qQ s σ H x y v u Q I O B h;obtain ⟨L,q⟩:=h;cases x with
 | non=>
  cases O;cases y with
  | non=>cases B;exact PySem.EqNone.ne_none_none (GH I q (by simp))
  | bl j=>cases B;exact PySem.EqNone.ne_none_bool (GH I q (by simp))
  | int j=>obtain ⟨D,rfl⟩:=B;exact PySem.EqNone.ne_none_int (GH I q (by simp))
  | str j=>obtain ⟨D,rfl⟩:=B;exact PySem.EqNone.ne_none_str (GH I q (by simp))
  | _=>exact absurd (show false=true from L) Yar
 | bl i=>
  cases O;cases y with
  | non=>cases B;exact PySem.EqNone.ne_bool_none (GH I q (by simp))
  | bl j=>cases B;exact ne_bool (GH I q (Ybh not ZbL))
  | str j=>obtain ⟨D,rfl⟩:=B;exact PySem.EqMixed.ne_bool_str (GH I q (by simp))
  | _=>exact absurd (show false=true from L) Yar
 | int i=>
  obtain ⟨t,rfl⟩:=O;cases y with
  | non=>cases B;exact PySem.EqNone.ne_int_none (GH I q (by simp))
  | int j=>obtain ⟨D,rfl⟩:=B;exact ne_int (GH I q (Ybh not YS))
  | str j=>obtain ⟨D,rfl⟩:=B;exact PySem.EqMixed.ne_int_str (GH I q (by simp))
  | _=>exact absurd (show false=true from L) Yar
 | str i=>
  obtain ⟨t,rfl⟩:=O;cases y with
  | non=>cases B;exact PySem.EqNone.ne_str_none (GH I q (by simp))
  | bl j=>cases B;exact PySem.EqMixed.ne_str_bool (GH I q (by simp))
  | int j=>obtain ⟨D,rfl⟩:=B;exact PySem.EqMixed.ne_str_int (GH I q (by simp))
  | str j=>obtain ⟨D,rfl⟩:=B;exact ne_str (GH I q (Ybh not YT))
  | _=>exact absurd (show false=true from L) Yar
 | byt i=>
  obtain ⟨t,rfl⟩:=O;cases y with
  | byt j=>obtain ⟨D,rfl⟩:=B;exact W.ne_bytes (GH I q (Ybh not YU))
  | _=>exact absurd (show false=true from L) Yar
 | _=>cases y <;> exact absurd (show false=true from L) Yar
theorem ZdR:OpR X (compareOp .Lt) (rI0 λi j=>.bl (decide (i<j))):=ZfT λ_ _ _ _ _ _ _ q=>lt_int q
theorem ZaC:OpR X (compareOp .Gt) (rI0 λi j=>.bl (decide (j<i))):=ZfT λ_ _ _ _ _ _ _ q=>gt_int q
theorem ZdS:OpR X (compareOp .GtE) (rI0 λi j=>.bl (decide (j<=i))):=ZfT λ_ _ _ _ _ _ _ q=>ge_int q
theorem Zcl:OpR X (compareOp .IsNot) (λx y H Q=>y=.non/\Q (.bl (!decide (x=.non))) H):=by
 intro qQ s σ H x y v u Q I j B h;obtain ⟨rfl,q⟩:=h;cases B;refine isnot_none_gen (GH I q ?_);cases x <;> first
  | (cases j;rfl)
  | (obtain ⟨t,rfl⟩:=j;rfl)
theorem GA (b:Expr){j:CmpOp}(h:j≠.In:=by decide)(h2:j≠.NotIn:=by decide):behindInMarks j b=false:=by
 have B:(j == CmpOp.In)=false:=by cases j <;> first | rfl | exact absurd rfl h
 have D:(j == CmpOp.NotIn)=false:=by cases j <;> first | rfl | exact absurd rfl h2
 cases b <;> simp [behindInMarks,B,D]
theorem OT {j:CmpOp}{r:R2}(B:OpR X (compareOp j) r)(ha:PE X a ta)(D:PE X b tb)(L:behindInMarks j b=false):PE X (.Compare a [j] [b] pos) (tOp r ta tb):=by
 intro qQ s σ H Q I h;exact wpAny_Compare1 (ZfR ha D I h λv u O x y H2 U Y Z q=>B qQ O σ H2 x y v u Q U Y Z q) L
noncomputable def ZfU (t:TE):TT:=λσ H Q=>t σ H λx H'=>∃k,x=.bl k/\Q k H'
theorem Gr {j:CmpOp}{r:R2}(B:OpR X (compareOp j) r)(ha:PE X a ta)(D:PE X b tb)(L:behindInMarks j b=false):PT X (.Compare a [j] [b] pos) (ZfU (tOp r ta tb)):=by
 intro qQ s σ H Q I h;refine wpAny_isTrue_Compare1 (thG (ha qQ s σ H _ I h) λv O x H1 U Y Z=>thG (D qQ O σ H1 _ U Z) λu s2 y H2 I2 r2 q2=>
  thG (B qQ s2 σ H2 x y v u _ I2 Y r2 q2) λc s3 z H3 I3 r3 ⟨k,e,q3⟩=>?_) L
 subst e;cases r3;exact Ydj ⟨H3,I3,q3⟩
noncomputable def ZgF (K:W.Frag)(x:V)(H:Hp)(k:Bool):Prop:=
 match x with
 | .non=>k=false
 | .bl b=>k=b
 | .int i=>k=(i != 0)
 | .str y=>y.length<=sizeLine/\k=((y.length:Int) != 0)
 | .byt y=>y.size<=sizeLine/\k=((y.size:Int) != 0)
 | .ref p=>(∃xs,SqL K H p xs/\k=!xs.isEmpty)\/(∃xs,SqT K H p xs/\k=!xs.isEmpty)\/∃kvs,H p=some (.dK kvs)/\k=!kvs.isEmpty
 | _=>False
theorem X6 {κ:Type}{kvs:List (κ×V)}{vs:List (κ×Value)}(r:KV kvs vs):(!vs.isEmpty)=!kvs.isEmpty:=by
 cases r <;> rfl
theorem UV {xs:List V}{its:List Value}(r:Vals xs its):(!its.toArray.isEmpty)=!xs.isEmpty:=by
 cases r <;> simp
theorem V4:(sizeLine:Nat)<2 ^ 63:=by rw [Ybi];decide
theorem ZdT:Zg0 X (λx H Q=>∃k,ZgF X.K x H k/\Q k H):=by
 intro qQ s σ H x v Q I B h;obtain ⟨k,e,q⟩:=h;have Z:=V4;have hs:sizeLine=16777216:=Ybi;cases x with
 | non=>
  cases B;have j:k=false:=e;subst j;exact truthy_none ⟨H,I,q⟩
 | bl b=>
  cases B;have j:k=b:=e;subst j;exact Ydj ⟨H,I,q⟩
 | int i=>
  obtain ⟨t,rfl⟩:=B;have j:k=(i != 0):=e;subst j;exact PySem.P.truthy_int ⟨H,I,q⟩
 | str y=>
  obtain ⟨t,rfl⟩:=B;obtain ⟨U,j⟩:y.length<=sizeLine/\k=((y.length:Int) != 0):=e;subst j;exact PySem.P.truthy_str (by lia) ⟨H,I.tok _,q⟩
 | byt y=>
  obtain ⟨t,rfl⟩:=B;obtain ⟨U,j⟩:y.size<=sizeLine/\k=((y.size:Int) != 0):=e;subst j;exact W.truthy_bytes (by lia) ⟨H,I.tok _,q⟩
 | ref p=>
  cases B;have j:(∃xs,SqL X.K H p xs/\k=!xs.isEmpty)\/(∃xs,SqT X.K H p xs/\k=!xs.isEmpty)\/∃kvs,H p=some (.dK kvs)/\k=!kvs.isEmpty:=e;rcases j with ⟨xs,D,j⟩ | ⟨xs,D,j⟩ | ⟨kvs,D,j⟩
  ·subst j;obtain ⟨its,r,pl,L⟩:=I.list D;have O:=r.length;exact wpAny_truthy_list pl.isList (by simp only [Yas];lia) ⟨H,I.tok _,by rw [UV r];exact q⟩
  ·subst j;obtain ⟨its,r,pl,L⟩:=I.tuple D;have O:=r.length;exact truthy_tuple pl (by simp only [Yas];lia) ⟨H,I.tok _,by rw [UV r];exact q⟩
  ·subst j;obtain ⟨L,Y,vs,r,m⟩:kvs.length<=sizeLine/\(p == sysModules)=false/\∃vs,KV kvs vs/\s.heap.DictOf (G9 X.prog X.w) p vs:=I.hok p _ D;have O:kvs.length=vs.length:=Ydi r;exact wpAny_truthy_dict Y m (by lia) ⟨H,I.tok _,by rw [X6 r];exact q⟩
 | _=>exact (show False from e).elim
theorem Vo (ha:PE X a ta)(B:∀j,isTrue a X.env j=(do let v <- j;standAt a.pos;holding [v] (truthy v))) :
  PT X a (λσ H Q=>ta σ H λx H'=>∃k,ZgF X.K x H' k/\Q k H'):=by
 intro qQ s σ H Q I h;exact isTrue_plain (thG (ha qQ s σ H _ I h) λv D x H1 L O U=>ZdT qQ D σ H1 x v Q L O U) (B _)
theorem YV {x:V}{us:List Value}(r:Vals [x] us):∃u,us=[u]/\RelV x u:=by
 cases r with
 | cons r1 r2=>cases r2;exact ⟨_,rfl,r1⟩
theorem ZdU {x y:V}{us:List Value}(r:Vals [x,y] us):∃u j,us=[u,j]/\RelV x u/\RelV y j:=by
 cases r with
 | cons r1 r2=>
  cases r2 with
  | cons r3 r4=>cases r4;exact ⟨_,_,rfl,r1,r3⟩
theorem YW (D:X.calm=true):Oi X (.builtin "max") (λxs H Q=>∃i j,xs=[.int i,.int j]/\Q (.int (if j > i then j else i)) H):=by
 intro qQ s σ H xs us Q I r h;obtain ⟨i,j,rfl,q⟩:=h;obtain ⟨u,L,rfl,⟨t,rfl⟩,⟨O,rfl⟩⟩:=ZdU r;refine max_two_ints (I.ok.hd D) λh' tk k=>⟨_,H,I.kept k,?_,q⟩;by_cases B:j > i
 ·rw [if_pos B,if_pos B];exact ⟨_,rfl⟩
 ·rw [if_neg B,if_neg B];exact ⟨_,rfl⟩
theorem YX (D:X.calm=true):Oi X (.builtin "min") (λxs H Q=>∃i j,xs=[.int i,.int j]/\Q (.int (if j<i then j else i)) H):=by
 intro qQ s σ H xs us Q I r h;obtain ⟨i,j,rfl,q⟩:=h;obtain ⟨u,L,rfl,⟨t,rfl⟩,⟨O,rfl⟩⟩:=ZdU r;refine min_two_ints (I.ok.hd D) λh' tk k=>⟨_,H,I.kept k,?_,q⟩;by_cases B:j<i
 ·rw [if_pos B,if_pos B];exact ⟨_,rfl⟩
 ·rw [if_neg B,if_neg B];exact ⟨_,rfl⟩
theorem V5:Oi X (.type "int") (λxs H Q=>(∃i,xs=[.int i]/\Q (.int i) H)\/∃k,xs=[.bl k]/\Q (.int (if k then 1 else 0)) H):=by
 intro qQ s σ H xs us Q I r h;rcases h with ⟨i,rfl,q⟩ | ⟨k,rfl,q⟩
 ·obtain ⟨u,rfl,t,rfl⟩:=YV r;exact call_int_int ⟨.int i,H,I,⟨_,rfl⟩,q⟩
 ·obtain ⟨u,rfl,j⟩:=YV r;cases j;exact call_int_bool ⟨.int (if k then 1 else 0),H,I.tok _,⟨_,rfl⟩,q⟩
end
structure ObjM (h:Heap)(x dx C:Addr)(mA:Str->Option Value):Prop where
 obj:h.get? x=some (W.instObj C dx)
 ns:h.Ns1 dx mA
 ne:dx≠x
theorem YY {h:Heap}{dx:Addr}{mA:Str->Option Value}(n:h.Ns1 dx mA):∃B,h.get? dx=some B/\∀name,W.lookIn name B=some (mA name):=by
 obtain ⟨o,es,ep,D,hd,L,_,O⟩:=n;refine ⟨o,D,λname=>?_⟩;have e:=O name;unfold nsFind findBy at e;rw [<-Array.find?_toList] at e;unfold W.lookIn;rw [hd];dsimp only;split
 ·rename_i y q;rw [q] at e;exact Ybh some e
 ·rename_i q;rw [q] at e;have a:es.toList.any (·.refKey)=false:=by
   rw [List.any_eq_false];intro y U;obtain ⟨z,t,j⟩:=L y (Array.mem_toList_iff.mp U);simp [DictEntry.refKey,j]
  have Y:¬ es.toList.any (·.refKey)=true:=by rw [a];exact Yar
  rw [if_neg Y];exact Ybh some e
theorem ObjM.look {h:Heap}{x dx C:Addr}{mA:Str->Option Value}(I:ObjM h x dx C mA):∃j,W.InstAt h x (W.instObj C dx) C (some j)/\∀name,W.lookIn name j=some (mA name):=
 let ⟨j,ho,hl⟩:=YY I.ns
 ⟨j,⟨I.obj,rfl,rfl,ho⟩,hl⟩
section
variable {prog:Program}{w:World}{A:Around}{E:EX}{s:Shared}{K:W.Frag}{x dx C f:Addr}{mA:Str->Option Value}{name:Str}{v:Value}
theorem Zcm {j:Bool}{Q:EX}(X:K.In s.heap)(I:ObjM s.heap x dx C mA)(D:W.plainGet K C name=true)(L:W.hasDictIn K C=true)(ha:W.findIn K (.ref C) name=some none)(O:mA name=some v)(B:W.handedIn v=true)(h:Q v { s with toks:=s.toks+1 }) :
  wpAny (model prog w) A (getAttr (.ref x) name j) Q E s:=by
 obtain ⟨Y,J,U⟩:=I.look;exact W.get_value X J (W.plainGet_of D).1 (W.findObj_own L ha rfl (by rw [U,O])) B h
theorem ZaD {pl:Sem Bool}{Q:Value×List Value->Shared->Prop}(X:K.In s.heap)(I:ObjM s.heap x dx C mA)(j:W.plainGet K C name=true)(B:W.findIn K (.ref C) name=some (some (.ref f)))(D:W.isFn K (.ref f)=true)(L:mA name=none)(h:Q (.ref f,[.ref x]) s) :
  wpAny (model prog w) A (getMethod (.ref x) name pl) Q E s:=by
 obtain ⟨O,J,U⟩:=I.look;exact W.method_fn X J (W.plainGet_of j).1 (W.plainGet_of j).2 B (Ybe.mp D) (by show (W.lookIn name O).map (·.isSome)=some false;rw [U,L];rfl) h
theorem Zcn {ns:List Str}{Q:Unit->Shared->Prop}(X:K.In s.heap)(I:ObjM s.heap x dx C mA)(Y:W.findIn K (.ref C) "__setattr__" = some (some (.builtin "object.__setattr__")))(Z:W.plainOver K C=true)(ht:W.takerIn K C name=some none)(hh:W.hasDictIn K C=true)(hw:PySem.Within mA ns)(hsz:ns.length<=sizeLine)(h:∀h',ObjM h' x dx C (λy=>if y=name then some v else mA y)->Heap.SameBut dx s.heap h'->Q () { s with heap:=h',toks:=s.toks+2 }) :
  wpAny (model prog w) A (setAttr (.ref x) name v) Q E s:=by
 obtain ⟨od,J,hl⟩:=I.look;refine W.set_plain X J Y (W.osa_open (s:={ s with toks:=s.toks+1 }) (r:=none) X J Z ht λb=>?_);obtain ⟨cd,hc,D⟩:=W.any_some hh;have hx:s.heap.get? x=some ⟨.ref C,some dx,.plain,#[]⟩:=I.obj;refine Yaa (Yah (Yaa (Yaa (wpAny_loadPart hx (Yaa (W.Looks.here (s:={ s with toks:=s.toks+1 }) (W.looks_clsIn X hc) ?_))))));rw [D];refine Yah (a:=some dx) (Yaa (Yah (Yaa ?_)));refine wpAny_nsSet1 (s:={ s with toks:=s.toks+1 }) I.ns λh' j B=>?_;obtain ⟨oD,aa,ab,L,O,U⟩:=j.count (PySem.Within.cons name v hw);refine Yaa (wpAny_lookBehind L (by rw [O];exact pastItsLine_dict (Yca U (by rw [Ybq];lia))) ?_);exact Yah (h _ ⟨(B.2 _ (Ne.symm I.ne)).trans I.obj,j,I.ne⟩ B)
theorem ZaE {R:Result->Shared->Prop}{vs:List Value}{kw:List (Str×Value)}(X:K.In s.heap)(j:W.makesIn K C=true)(hi:W.findIn K (.ref C) "__init__" = some (some (.ref f)))(B:W.typeIn K (.ref f)=some (.type "function"))(h:codeAny (model prog w) (A.under (.builtin "type.__call__" ⟨.ref C::vs,kw⟩)) (.call (.ref f) ⟨.ref (s.heap.objs.size+1)::vs,kw⟩) (W.InitBack (s.heap.objs.size+1) R)
   { s with heap:=(s.heap.push W.emptyDict).push (W.instObj C s.heap.objs.size) }) :
  codeAny (model prog w) A (.call (.ref C) ⟨vs,kw⟩) R s:=by
 obtain ⟨D,g,d,t,L⟩:=s;exact W.make_core (W.makes_of X j) (W.looks_findIn X hi) (λself=>W.bind_fn X self B) (.inl rfl) h
end
noncomputable def O6 (f:Str)(v:V):List (Str×V)->List (Str×V)
 | []=>[(f,v)]
 | (g,x)::r=>if g=f then (g,v)::r else (g,x)::O6 f v r
theorem GJ (f g:Str)(v:V):∀fs:List (Str×V),(O6 f v fs).lookup g=if g=f then some v else fs.lookup g
 | []=>by
  show List.lookup g [(f,v)]=_;by_cases h:g=f
  ·have hb:(g == f)=true:=Ybe.mpr h;simp only [List.lookup,hb,if_pos h]
  ·have hb:(g == f)=false:=Ydb.mpr h;simp only [List.lookup,hb,if_neg h]
 | (k,x)::r=>by
  have B:=GJ f g v r;rw [show O6 f v ((k,x)::r)=(if k=f then (k,v)::r else (k,x)::O6 f v r) from rfl];by_cases j:k=f
  ·rw [if_pos j];by_cases h:g=k
   ·have hb:(g == k)=true:=Ybe.mpr h;simp only [List.lookup,hb,if_pos (h.trans j)]
   ·have hb:(g == k)=false:=Ydb.mpr h;simp only [List.lookup,hb,if_neg (λe:g=f=>h (e.trans j.symm))]
  ·rw [if_neg j];by_cases h:g=k
   ·have hb:(g == k)=true:=Ybe.mpr h;simp only [List.lookup,hb,if_neg (λe:g=f=>j (h.symm.trans e))]
   ·have hb:(g == k)=false:=Ydb.mpr h;simp only [List.lookup,hb];exact B
theorem Us (f:Str)(v:V):∀fs:List (Str×V),f∈(O6 f v fs).map (·.1)/\∀g,g∈fs.map (·.1)->g∈(O6 f v fs).map (·.1)
 | []=>⟨by simp [O6],λg h=>by simp at h⟩
 | (k,x)::r=>by
  obtain ⟨i1,i2⟩:=Us f v r;rw [show O6 f v ((k,x)::r)=(if k=f then (k,v)::r else (k,x)::O6 f v r) from rfl];by_cases j:k=f
  ·rw [if_pos j];subst j;exact ⟨by simp,λg h=>by simpa using h⟩
  ·rw [if_neg j];refine ⟨?_,λg h=>?_⟩
   ·rw [Yaq];exact Ybf _ i1
   ·rw [Yaq] at h ⊢;rcases Yau.mp h with e | e
    ·exact Yau.mpr (.inl e)
    ·exact Ybf _ (i2 g e)
theorem Ut (f:Str)(v:V):∀fs:List (Str×V),(O6 f v fs).length<=fs.length+1
 | []=>by simp [O6]
 | (k,x)::r=>by
  have ih:=Ut f v r;rw [show O6 f v ((k,x)::r)=(if k=f then (k,v)::r else (k,x)::O6 f v r) from rfl];by_cases j:k=f
  ·rw [if_pos j,Ybq,Ybq];lia
  ·rw [if_neg j,Ybq,Ybq];lia
theorem RelO.some_of {v:V}{o:Option Value}(r:RelO (some v) o):∃u,o=some u/\RelV v u:=by
 cases o with
 | none=>exact (show False from r).elim
 | some u=>exact ⟨u,rfl,r⟩
theorem RelO.none_of {o:Option Value}(r:RelO none o):o=none:=by
 cases o with
 | none=>rfl
 | some u=>exact (show False from r).elim
theorem YZ {v:V}{u:Value}(r:RelV v u):W.handedIn u=true:=by
 cases v with
 | non=>cases (show u=Value.none from r);rfl
 | bl b=>cases (show u=Value.bool b from r);rfl
 | int i=>obtain ⟨t,e⟩:=(show ∃t,u=Value.int i t from r);cases e;rfl
 | str x=>obtain ⟨t,e⟩:=(show ∃t,u=Value.str x t from r);cases e;rfl
 | byt b=>obtain ⟨t,e⟩:=(show ∃t,u=Value.bytes b t from r);cases e;rfl
 | flt b=>obtain ⟨t,e⟩:=(show ∃t,u=Value.float b t from r);cases e;rfl
 | ref a=>cases (show u=Value.ref a from r);rfl
 | ty n=>cases (show u=Value.type n from r);rfl
section
variable {P:Program}{w:World}{H H':Hp}{h h':Heap}{a C dx:Addr}{fs fs':List (Str×V)}
theorem Vp (j:HOk P w H h)(e:H a=some (.ins C dx fs)):∃mA,ObjM h a dx C mA/\(∀f,RelO (fs.lookup f) (mA f))/\PySem.Within mA (fs.map (·.1))/\fs.length<=1000/\H dx=some (.own a):=by
 obtain ⟨d,z,ne,B,mA,n,r,q⟩:=(show ObjOk P w H h a (.ins C dx fs) from j a _ e);exact ⟨mA,⟨B,n,ne⟩,r,q,z,d⟩
end
structure Cls (K:W.Frag)(C:Addr):Prop where
 pg:W.plainGet K C Str.empty=true
 hd:W.hasDictIn K C=true
 po:W.plainOver K C=true
 sa:W.findIn K (.ref C) "__setattr__" = some (some (.builtin "object.__setattr__"))
theorem Cls.get {K:W.Frag}{C:Addr}(c:Cls K C)(f:Str):W.plainGet K C f=true:=c.pg
noncomputable def NoAttr (K:W.Frag)(C:Addr)(f:Str):Prop:=W.findIn K (.ref C) f=some none
theorem NoAttr.taker {K:W.Frag}{C:Addr}{f:Str}(n:NoAttr K C f):W.takerIn K C f=some none:=by
 unfold W.takerIn;rw [show W.findIn K (.ref C) f=some none from n]
 rfl
structure ZfV (K:W.Frag)(C:Addr)(m:Str)(f:Addr):Prop where
 at_:W.findIn K (.ref C) m=some (some (.ref f))
 fn:W.isFn K (.ref f)=true
 kp:W.keepIn K (.ref f)=true
section
variable {X:Cx}{qQ:List (Addr×Obj)}{σ:St}{H:Hp}{s:Shared}{a C dx:Addr}{fs:List (Str×V)}{f:Str}{v:V}{A:Around}{E:EX}
theorem X7 {b:Bool}{Q:EX}(I:Inv X qQ σ H s)(e:H a=some (.ins C dx fs))(c:Cls X.K C)(n:NoAttr X.K C f)(l:fs.lookup f=some v)(h:∀u s',Inv X qQ σ H s'->RelV v u->Q u s'):wpAny (model X.prog X.w) A (getAttr (.ref a) f b) Q E s:=by
 obtain ⟨mA,O,r,_,_,_⟩:=Vp I.hok e;obtain ⟨u,j,ru⟩:=RelO.some_of (v:=v) (o:=mA f) (by rw [<-l];exact r f);exact Zcm I.kIn O (c.get f) c.hd n j (YZ ru) (h u _ (I.tok _) ru)
theorem X8 {m:Str}{g:Addr}{pl:Sem Bool}{Q:Value×List Value->Shared->Prop}(I:Inv X qQ σ H s)(e:H a=some (.ins C dx fs))(c:Cls X.K C)(k:ZfV X.K C m g)(l:fs.lookup m=none)(h:Q (.ref g,[.ref a]) s):wpAny (model X.prog X.w) A (getMethod (.ref a) m pl) Q E s:=by
 obtain ⟨mA,O,r,_,_,_⟩:=Vp I.hok e;have j:mA m=none:=RelO.none_of (by rw [<-l];exact r m);exact ZaD I.kIn O (c.get m) k.at_ k.fn j h
theorem X9 {y:V}{u:Value}{Q:Unit->Shared->Prop}(I:Inv X qQ σ H s)(e:H a=some (.ins C dx fs))(c:Cls X.K C)(n:NoAttr X.K C f)(hl:fs.length<1000)(D:RelV y u)(h:∀s',Inv X qQ σ (upd H a (.ins C dx (O6 f y fs))) s'->Q () s'):wpAny (model X.prog X.w) A (setAttr (.ref a) f u) Q E s:=by
 obtain ⟨mA,O,r,wi,_,B⟩:=Vp I.hok e;have L:(fs.map (·.1)).length<=sizeLine:=by rw [Yab,Ybi];lia
 refine Zcn I.kIn O c.sa c.po n.taker c.hd wi L λh' j U=>h _ ?_;have hd:∃o,h'.get? dx=some o:=let ⟨o,_,_,e',_⟩:=j.ns;⟨o,e'⟩;refine I.write (x:=a) (e:=dx) (by rw [e];exact True.intro) (.inr B) (λb q Y z=>(U.2 b Y).trans z) hd ?_;refine ⟨by rw [Gn O.ne];exact B,?_,O.ne,j.obj,_,j.ns,λg=>?_,λg Z=>?_⟩
 ·have:=Ut f y fs;lia
 ·show RelO ((O6 f y fs).lookup g) (if g=f then some u else mA g);rw [GJ];by_cases q:g=f
  ·rw [if_pos q,if_pos q];exact D
  ·rw [if_neg q,if_neg q];exact r g
 ·by_cases q:g=f
  ·rw [q];exact (Us f y fs).1
  ·refine (Us f y fs).2 g (wi g λz=>Z ?_);show (if g=f then some u else mA g)=none;rw [if_neg q];exact z
theorem Inv.made (I:Inv X qQ σ H s):Inv X qQ σ (upd (upd H s.heap.objs.size (.own (s.heap.objs.size+1))) (s.heap.objs.size+1) (.ins C s.heap.objs.size []))
  { s with heap:=(s.heap.push W.emptyDict).push (W.instObj C s.heap.objs.size) }:=by
 have j:(s.heap.push W.emptyDict).get? s.heap.objs.size=some W.emptyDict:=Ybj s.heap rfl;have B:((s.heap.push W.emptyDict).push (W.instObj C s.heap.objs.size)).get? (s.heap.objs.size+1)=some (W.instObj C s.heap.objs.size):=by
  have:=Ybj (s.heap.push W.emptyDict) (o:=W.instObj C s.heap.objs.size) rfl
  rwa [Ycx] at this
 have D:(s.heap.push W.emptyDict).Ns s.heap.objs.size (λ_=>none):=⟨W.emptyDict,#[],_,j,rfl,(λe L=>absurd L (by simp)),λ_=>rfl⟩;have O:=I.laid (a:=s.heap.objs.size) (o:=.own (s.heap.objs.size+1)) (h':=s.heap.push W.emptyDict) (t':=s.toks) (λb u q=>Yan _ q) (Yad _) ⟨_,j⟩;refine O.laid (a:=s.heap.objs.size+1) (o:=.ins C s.heap.objs.size []) (t':=s.toks) (λb u q=>Yan _ q) (Nat.le_of_eq (Ycx _ _)) ?_;have ne:s.heap.objs.size≠s.heap.objs.size+1:=Yay (Nat.lt_succ_self _);refine ⟨by rw [Gn ne,Gb],Yao _,ne,B,λ_=>none,(Heap.Ns1.of_empty D).at λo q=>Yan _ q,λ_=>True.intro,λy U=>absurd rfl U⟩
theorem Zco {prog:Program}{w:World}{env:Env}{e:Expr}{f:Str}{pos:Pos}{s:Shared}{Q:EX}(j:attributeBase e f env (eval e env)=eval e env)(h:wpAny (model prog w) A (eval e env) (λo B=>wpAny (model prog w) A (getAttr o f true) Q E B) E s):wpAny (model prog w) A (eval (.Attribute e f pos) env) Q E s:=
 Attribute_any_ h (by rw [arm_eval_Attribute,j])
end
noncomputable def Zg2 (K:W.Frag)(ta:TE)(f:Str):TE:=λσ H Q=>ta σ H λx H1=>∃a C dx fs v,x=.ref a/\H1 a=some (.ins C dx fs)/\Cls K C/\NoAttr K C f/\fs.lookup f=some v/\Q v H1
noncomputable def Zg3 (K:W.Frag)(ta tv:TE)(f:Str):TS:=λD σ H=>tv σ H λy H1=>ta σ H1 λx H2=>∃a C dx fs,x=.ref a/\H2 a=some (.ins C dx fs)/\Cls K C/\NoAttr K C f/\fs.length<1000 /\
 D.nx σ (upd H2 a (.ins C dx (O6 f y fs)))
section
variable {X:Cx}{o e value:Expr}{f:Str}{pos pos' tpos:Pos}{ta tv:TE}
theorem Oy (j:PE X e ta)(B:attributeBase e f X.env (eval e X.env)=eval e X.env):PE X (.Attribute e f pos) (Zg2 X.K ta f):=by
 intro qQ s σ H Q I h;refine Zco B (thG (j qQ s σ H _ I h) λu Y x H1 D L ⟨a,C,dx,fs,v,ex,O,c,n,l,q⟩=>?_);subst ex;obtain rfl:u=Value.ref a:=L;exact X7 D O c n l λZ s2 U ru=>⟨v,H1,U,ru,q⟩
theorem Y0 (ha:PE X o ta)(j:PE X value tv)(B:swapsWith value (some (.Attribute o f pos')) pos.line X.env=pure false):PS X (.Assign [.Attribute o f pos'] value pos) (Zg3 X.K ta tv f):=by
 intro qQ s σ H D I h;refine plainObj_wpAny_Assign_Attribute (thG (j qQ s σ H _ I h) λu L y H1 O U q=>thG (ha qQ L σ H1 _ O q) λY s2 x H2 Z rx ⟨a,C,dx,fs,ex,ea,c,n,l,q2⟩=>?_) B;subst ex;obtain rfl:Y=Value.ref a:=rx;exact X9 Z ea c n l U λs3 I3=>⟨σ,_,I3,q2⟩
end
section
variable {X:Cx}{qQ:List (Addr×Obj)}{σ:St}{H:Hp}{s:Shared}{A:Around}{E:EX}{Q:EX}{c:Value}{b:Bool}
inductive Yb (K:W.Frag)(H:Hp):V->Value->Prop where
 | non:Yb K H .non (.type "NoneType")
 | bl (x:Bool):Yb K H (.bl x) (.type "bool")
 | int (i:Int):Yb K H (.int i) (.type "int")
 | str (x:Str):Yb K H (.str x) (.type "str")
 | flt (x:UInt64):Yb K H (.flt x) (.type "float")
 | lst {a:Addr} {xs:List V} (e:H a=some (.lst xs)):Yb K H (.ref a) (.type "list")
 | frz {a:Addr} {o:Obj} {xs:List V} (e:H a=some (.frz o (.lst xs))):Yb K H (.ref a) (.type "list")
 | tup {a:Addr} {xs:List V} (e:H a=some (.tup xs)):Yb K H (.ref a) (.type "tuple")
 | dK {a:Addr} {kvs:List (Key×V)} (e:H a=some (.dK kvs)):Yb K H (.ref a) (.type "dict")
 | dT {a:Addr} {kvs:List (List Key×V)} (e:H a=some (.dT kvs)):Yb K H (.ref a) (.type "dict")
 | ins {a C dx:Addr} {fs:List (Str×V)} (e:H a=some (.ins C dx fs)) (cl:Cls K C) (ha:W.findIn K (.ref C) "__class__" = some (some (.builtin "object.__class__")))
   (hn:W.specialIn K (.builtin "object.__class__") "__get__" = some (some (.builtin "getset_descriptor.__get__"))) (htk:W.takesIn K (.builtin "object.__class__")=some true)
   (hm:W.mroIn K C (.type "object")=some true):Yb K H (.ref a) (.ref C)
theorem Y1 {x:V}{u t:Value}(I:Inv X qQ σ H s)(j:RelV x u)(ty:Yb X.K H x t)(e:W.kitOne X.K t c=some b)(h:∀tk,Q (.bool b) { s with toks:=tk }) :
  wpAny (model X.prog X.w) A (call (.builtin "isinstance") [u,c]) Q E s:=by
 cases ty with
 | non=>cases (show u=Value.none from j);exact Ycs W.kitx_none I.kIn True.intro e (λz=>nomatch z) h
 | bl y=>cases (show u=Value.bool y from j);exact Ycs W.kitx_bool I.kIn True.intro e (λz=>nomatch z) h
 | int i=>obtain ⟨t,q⟩:=(show ∃t,u=Value.int i t from j);cases q;exact Ycs W.kitx_int I.kIn True.intro e (λz=>nomatch z) h
 | str y=>obtain ⟨t,q⟩:=(show ∃t,u=Value.str y t from j);cases q;exact Ycs W.kitx_str I.kIn True.intro e (λz=>nomatch z) h
 | flt y=>obtain ⟨t,q⟩:=(show ∃t,u=Value.float y t from j);cases q;exact Ycs W.kitx_float I.kIn True.intro e (λz=>nomatch z) h
 | @lst a xs ea=>
  cases (show u=Value.ref a from j);obtain ⟨_,_,n,_,h1⟩:=(show ObjOk X.prog X.w H s.heap a (.lst xs) from I.hok a _ ea);exact Ycs W.kitx_list I.kIn ⟨_,h1,rfl⟩ e (λz=>nomatch z) h
 | @frz a ob xs ea=>
  cases (show u=Value.ref a from j);obtain ⟨_,_,_,n,_,h1⟩:=(show ObjOk X.prog X.w H s.heap a (.frz ob (.lst xs)) from I.hok a _ ea);exact Ycs W.kitx_list I.kIn ⟨_,h1,rfl⟩ e (λz=>nomatch z) h
 | @tup a xs ea=>
  cases (show u=Value.ref a from j);obtain ⟨_,_,_,p⟩:=(show ObjOk X.prog X.w H s.heap a (.tup xs) from I.hok a _ ea);obtain ⟨o,h1,h2,_⟩:=p;exact Ycs W.kitx_tuple I.kIn ⟨o,h1,h2⟩ e (λz=>nomatch z) h
 | @dK a kvs ea=>
  cases (show u=Value.ref a from j);obtain ⟨_,_,vs,_,p⟩:=(show ObjOk X.prog X.w H s.heap a (.dK kvs) from I.hok a _ ea);obtain ⟨o,es,ep,h1,h2,_⟩:=p;exact Ycs W.kitx_dict I.kIn ⟨o,h1,h2.1⟩ e (λz=>nomatch z) h
 | @dT a kvs ea=>
  cases (show u=Value.ref a from j);obtain ⟨_,_,xs,_,o,es,ep,h1,h2,_⟩:=(show ObjOk X.prog X.w H s.heap a (.dT kvs) from I.hok a _ ea);exact Ycs W.kitx_dict I.kIn ⟨o,h1,h2.1⟩ e (λz=>nomatch z) h
 | @ins a C dx fs ea cl ha hn htk hm=>
  cases (show u=Value.ref a from j);obtain ⟨mA,O,_⟩:=Vp I.hok ea;obtain ⟨B,J,_⟩:=O.look;exact Ycs (W.kitx_own (cl.get _) cl.hd ha hn htk hm) I.kIn J e (λz=>nomatch z) h
end
structure Room (k:Nat)(A:Around):Prop where
 hd:A.handled=none
 dp:A.depth+3 * k+5<recursionLimit
 un:A.units+16 * k+200<cLine
theorem Room.mono {j k:Nat}{A:Around}(r:Room k A)(h:j<=k):Room j A:=⟨r.hd,by have:=r.dp;lia,by have:=r.un;lia⟩
theorem Room.deeper {k:Nat}{A:Around}(r:Room (k+1) A)(env:Env):Room k (A.deeper env):=
 ⟨r.hd,by have:=r.dp;show A.depth+1+3 * k+5<_;lia,by have:=r.un;show A.units+3+16 * k+200<_;lia⟩
theorem Yc {A:Around}{C:Addr}{us:List Value}{kw:List (Str×Value)}:(A.under (.builtin "type.__call__" ⟨.ref C::us,kw⟩)).depth=A.depth+1:=by
 first | rfl | simp [Around.under,Code.weight,Code.isCreation,Code.isGuard,Code.isCaller,Code.frames,Code.isFrame,guardIds]
theorem Yd {A:Around}{C:Addr}{us:List Value}{kw:List (Str×Value)}:(A.under (.builtin "type.__call__" ⟨.ref C::us,kw⟩)).units=A.units+1:=by
 first | rfl | simp [Around.under,Code.cUnits,Code.frames,Code.isFrame]
theorem Room.make {k:Nat}{A:Around}(r:Room (k+1) A)(C:Addr)(us:List Value)(kw:List (Str×Value)):Room k (A.under (.builtin "type.__call__" ⟨.ref C::us,kw⟩)):=
 ⟨r.hd,by have:=r.dp;rw [Yc];lia,by have:=r.un;rw [Yd];lia⟩
theorem Room.depth {k:Nat}{A:Around}(r:Room k A):A.depth<recursionLimit:=by have:=r.dp;lia
theorem Room.units {k:Nat}{A:Around}(r:Room k A):A.units+64<cLine:=by have:=r.un;lia
noncomputable def ZgG:TA:=λ_ H Q=>Q [] H
noncomputable def ZdV (ta:TE)(j:TA):TA:=λσ H Q=>ta σ H λx H1=>j σ H1 λxs H2=>Q (x::xs) H2
section
variable {X:Cx}{e:Expr}{es:List Expr}{te:TE}{t:TA}{pos:Pos}
theorem Gc:PA X [] ZgG:=λ_ _ _ _ H Q I h=>Calls.spliced_nil ⟨[],H,I,.nil,h⟩
theorem Ga (ha:PE X e te)(j:PA X es t)(B:starEach (e::es) X.env=(false,eval e X.env)::starEach es X.env:=by rfl):PA X (e::es) (ZdV te t):=by
 intro pos qQ s σ H Q I h;rw [B];show wpAny _ _ (spliced ((false,eval e X.env)::backTo pos (starEach es X.env))) _ _ s;refine Calls.spliced_cons (thG (ha qQ s σ H _ I h) λu D x H1 L O U=>?_);exact thG (j pos qQ D σ H1 _ L U) λus s2 xs H2 Y Z q2=>⟨x::xs,H2,Y,.cons O Z,q2⟩
noncomputable def Zg4 (t:TA):TE:=λσ H Q=>t σ H λxs H1=>xs.length<=sizeLine/\∀p,H1 p=none->Q (.ref p) (upd H1 p (.tup xs))
noncomputable def Zg5 (t:TA):TE:=λσ H Q=>t σ H λxs H1=>xs.length<=sizeLine/\∀p,H1 p=none->Q (.ref p) (upd H1 p (.lst xs))
theorem Je {x1}(h:PA X es t):PE X (.Tuple es x1 pos) (Zg4 t):=by
 intro qQ s σ H Q I D;refine wpAny_Tuple_spliced (thG (h pos qQ s σ H _ I D) λus j xs H1 B r ⟨z,q⟩=>⟨by rw [<-r.length];exact z,?_⟩);have L:H1 j.heap.objs.size=none:=B.hok.fresh (Yad _);refine ⟨.ref j.heap.objs.size,upd H1 j.heap.objs.size (.tup xs),B.laid (t':=j.toks) (λb u e=>Yan _ e) (Yad _) ?_,rfl,q _ L⟩;exact ⟨z,us,r,⟨_,Ybj _ rfl,rfl,_,rfl⟩⟩
theorem Gy (h:PA X es t):PE X (.List es pos) (Zg5 t):=by
 intro qQ s σ H Q I D;refine wpAny_List_spliced (thG (h pos qQ s σ H _ I D) λus j xs H1 B r ⟨z,q⟩=>⟨by rw [<-r.length];exact z,?_⟩);have L:H1 j.heap.objs.size=none:=B.hok.fresh (Yad _);refine ⟨.ref j.heap.objs.size,upd H1 j.heap.objs.size (.lst xs),B.laid (t':=j.toks) (λb u e=>Yan _ e) (Yad _) ?_,rfl,q _ L⟩;exact ⟨z,us,0,r,Ybj _ rfl⟩
end
noncomputable abbrev Sp:=List V->Hp->VK->XK->Prop
noncomputable abbrev CXT:=List Env->Hp->Shared->XK->Value->Shared->Prop
structure Env0 (P:Program)(w:World)(K:W.Frag)(mg:Str->Option Value)(base:Heap)(A:Around)(outer:List Env)(s:Shared)(H:Hp):Prop where
 frames:A.frames=some outer
 mod:Mod K mg base
 bs:∀b o,base.get? b=some o->s.heap.get? b=some o/\H b=none
 bsz:base.objs.size<=s.heap.objs.size
 funs:s.heap.FunFrames base outer
 frf:∀b∈frs outer,H b=none
 hok:HOk P w H s.heap
 bare:AllBare s.gens
noncomputable def CE (outer:List Env)(P:Program)(w:World)(H:Hp)(s:Shared)(Q:VK)(u:Value)(s':Shared):Prop:=
 ∃v H',s'.os=s.os/\AllBare s'.gens/\Un (frs outer) [] H H' s.heap s'.heap/\HOk P w H' s'.heap/\RelV v u/\Q v H'
noncomputable def CR (CX:CXT)(outer:List Env)(P:Program)(w:World)(H:Hp)(s:Shared)(Q:VK)(E:XK)(r:Result)(s':Shared):Prop:=
 match r with
 | .ok (.ret u)=>CE outer P w H s Q u s'
 | .ok _=>False
 | .error e=>CX outer H s E e s'
structure FnOk (P:Program)(w:World)(K:W.Frag)(mg:Str->Option Value)(base:Heap)(CX:CXT)(k:Nat)(f:Addr)(fd:FuncData)(ps:List Str)(sp:Sp):Prop where
 len:∀vs H Q E,sp vs H Q E->vs.length=ps.length
 run:∀(A:Around)(outer:List Env)(s:Shared)(H:Hp)(args:Args)(us:List Value)(vs:List V)(Q:VK)(E:XK),Room k A->Env0 P w K mg base A outer s H->BindsTo s fd args (ps.zip us)->Vals vs us->sp vs H Q E ->
  codeAny (model P w) A (.call (.ref f) args) (CR CX outer P w H s Q E) s
theorem Env0.make {P:Program}{w:World}{K:W.Frag}{mg:Str->Option Value}{base:Heap}{A:Around}{outer:List Env}{s:Shared}{H:Hp}(e:Env0 P w K mg base A outer s H)(C:Addr)(us:List Value)(kw:List (Str×Value)) :
  Env0 P w K mg base (A.under (.builtin "type.__call__" ⟨.ref C::us,kw⟩)) outer s H:=⟨by first | exact e.frames | (simpa [Around.under,Code.envs,Code.isFrame,pushEnvs] using e.frames),e.mod,e.bs,e.bsz,e.funs,e.frf,e.hok,e.bare⟩
section
variable {X:Cx}{qQ:List (Addr×Obj)}{σ:St}{H:Hp}{s s':Shared}
theorem Inv.env0 (I:Inv X qQ σ H s):Env0 X.prog X.w X.K X.mg X.base X.A X.stack s H:=
 ⟨I.ok.frames,I.ok.mod,I.bs,Yca I.ok.bsz I.sz,I.stack,I.stkFree,I.hok,I.bare⟩
theorem Inv.after {Q:VK}{u:Value}(I:Inv X qQ σ H s)(h:CE X.stack X.prog X.w H s Q u s'):EP X qQ σ Q u s':=by
 obtain ⟨v,H',L,j,un,B,r,q⟩:=h;obtain ⟨O,g,d,t,D⟩:=s';obtain rfl:D=s.os:=L;exact ⟨v,H',I.call (h':=O) (g':=g) (d':=d) (t':=t) (ch:=[]) un B j (λb z=>absurd z (by simp)),r,q⟩
end
noncomputable def Zcp (sp:Sp)(dvs:List V)(E:XK)(t:TA):TE:=λσ H Q=>t σ H λvs H1=>sp (vs++dvs) H1 Q E
noncomputable def ZfW (C:Addr)(m:Str)(sp:Sp)(dvs:List V)(E:XK)(ta:TE)(t:TA):TE:=λσ H Q=>ta σ H λx H1=>∃a dx fs,x=.ref a/\H1 a=some (.ins C dx fs)/\fs.lookup m=none /\
 t σ H1 λvs H2=>sp (x::(vs++dvs)) H2 Q E
noncomputable def ZfX (C:Addr)(sp:Sp)(dvs:List V)(E:XK)(t:TA):TE:=λσ H Q=>t σ H λvs H1=>∀x dx,H1 x=none->H1 dx=none->dx≠x ->
 sp (.ref x::(vs++dvs)) (upd (upd H1 dx (.own x)) x (.ins C dx [])) (λv H2=>v=.non/\Q (.ref x) H2) E
noncomputable def Binds (K:W.Frag)(fd:FuncData)(ps:List Str)(ds:List Value):Prop:=
 ∀(s:Shared)(us:List Value),K.In s.heap->(us++ds).length=ps.length->BindsTo s fd ⟨us,[]⟩ (ps.zip (us++ds))
theorem Binds.all {K:W.Frag}{fd:FuncData}{ps:List Str}(h:∀us:List Value,us.length=ps.length->bindArgs fd ⟨us,[]⟩=pure (ps.zip us)):Binds K fd ps []:=λs us _ j=>by
 rw [Ybv] at j ⊢;exact .of_eq (h us j)
noncomputable def Ol (CX:CXT)(X:Cx)(E:XK):Prop:=∀(qQ:List (Addr×Obj))(σ:St)(H:Hp)(s:Shared)(e:Value)(s':Shared),Inv X qQ σ H s->CX X.stack H s E e s'->X.xe e s'
section
variable {X:Cx}{CX:CXT}{k:Nat}{f C:Addr}{fd:FuncData}{ps:List Str}{sp:Sp}{dvs:List V}{ds:List Value}{E:XK}{x m:Str}{p pos apos:Pos}{e o:Expr}{es:List Expr}{ta:TE}{t:TA}
theorem V6 {qQ:List (Addr×Obj)}{σ:St}{H:Hp}{s:Shared}{Q:VK}{us:List Value}{vs:List V}(F:FnOk X.prog X.w X.K X.mg X.base CX k f fd ps sp)(D:Room k X.A)(L:Binds X.K fd ps ds)(hd:Vals dvs ds)(O:Ol CX X E)(I:Inv X qQ σ H s)(r:Vals vs us)(h:sp (vs++dvs) H Q E):wpAny (model X.prog X.w) X.A (call (.ref f) us) (EP X qQ σ Q) X.xe s:=by
 have B:Vals (vs++dvs) (us++ds):=r.append hd;have U:(us++ds).length=ps.length:=by rw [<-B.length];exact F.len _ _ _ _ h
 refine wpAny_call (codeAny_mono (F.run X.A X.stack s H ⟨us,[]⟩ (us++ds) (vs++dvs) Q E D I.env0 (L s us I.kIn U) B h) λr s' j=>?_);cases r with
 | error e=>exact O qQ σ H s e s' I j
 | ok fl=>
  cases fl with
  | ret u=>exact I.after j
  | next=>exact False.elim j
  | brk=>exact False.elim j
  | cont=>exact False.elim j
theorem Gk (F:FnOk X.prog X.w X.K X.mg X.base CX k f fd ps sp)(L:Room k X.A)(O:Gl X x)(U:X.mg x=some (.ref f))(Y:W.keepIn X.K (.ref f)=true)(Z:Binds X.K fd ps ds)(hd:Vals dvs ds)(hx:Ol CX X E)(ha:PA X (e::es) t)(j:(x == ("__debug__" : Str))=false:=by decide)(he:starEach (e::es) X.env=(false,eval e X.env)::starEach es X.env:=by rfl)(B:(backTo pos (starEach es X.env)).any (·.1)=false:=by rfl) :
  PE X (.Call (.Name x p) (e::es) [] pos) (Zcp sp dvs E t):=by
 intro qQ s σ H Q I h;refine Ydl (Uq I O U ?_ j);refine W.callWith_K (h₀:=X.base) I.ok.mod.kin Y (thG (ha pos qQ s σ H _ I h) λus s1 vs H1 D r q=>⟨D.kIn,?_⟩) he B;exact V6 F L Z hd hx D r q
theorem Zcq {pl:Sem Bool}(U:PE X o ta)(c:Cls X.K C)(D:ZfV X.K C m f)(F:FnOk X.prog X.w X.K X.mg X.base CX k f fd ps sp)(Y:Room k X.A)(Z:Binds X.K fd ps ds)(hd:Vals dvs ds)(hx:Ol CX X E)(ha:PA X (e::es) t)(j:starEach (e::es) X.env=(false,eval e X.env)::starEach es X.env:=by rfl)(B:(backTo pos (starEach es X.env)).any (·.1)=false:=by rfl)(ht:eval (.Call (.Attribute o m apos) (e::es) [] pos) X.env=(do
   let ov <- eval o X.env
   standAt apos.atName
   let (f,first) <- holding [ov] (getMethod ov m pl)
   callWith pos f first (backTo pos (starEach (e::es) X.env)) (backToKw pos (keywordEach [] X.env))):=by rfl) :
  PE X (.Call (.Attribute o m apos) (e::es) [] pos) (ZfW C m sp dvs E ta t):=by
 intro qQ s σ H Q I h;refine W.methodCall_KW (pl:=pl) (thG (U qQ s σ H _ I h) λu s1 x H1 L rx ⟨a,dx,fs,ex,ea,l,q⟩=>?_) ht;subst ex;obtain rfl:u=Value.ref a:=rx;refine X8 L ea c D l ?_;refine W.callWith_K (first:=[.ref a]) (h₀:=X.base) I.ok.mod.kin D.kp (thG (ha pos qQ s1 σ H1 _ L q) λus s2 vs H2 O r q2=>⟨O.kIn,?_⟩) j B;exact V6 (us:=.ref a::us) (vs:=.ref a::vs) F Y Z hd hx O (.cons rfl r) q2
structure Mk (K:W.Frag)(C f:Addr):Prop where
 makes:W.makesIn K C=true
 init:W.findIn K (.ref C) "__init__" = some (some (.ref f))
 fn:W.isFn K (.ref f)=true
 kp:W.keepIn K (.ref C)=true
theorem ZaF {qQ:List (Addr×Obj)}{σ:St}{H:Hp}{s:Shared}{Q:VK}{us:List Value}{vs:List V}(M:Mk X.K C f)(F:FnOk X.prog X.w X.K X.mg X.base CX k f fd ps sp)(O:Room (k+1) X.A)(U:Binds X.K fd ps ds)(hd:Vals dvs ds)(Y:Ol CX X E)(I:Inv X qQ σ H s)(r:Vals vs us)(h:∀x dx,H x=none->H dx=none->dx≠x->sp (.ref x::(vs++dvs)) (upd (upd H dx (.own x)) x (.ins C dx [])) (λv H2=>v=.non/\Q (.ref x) H2) E) :
  wpAny (model X.prog X.w) X.A (call (.ref C) us) (EP X qQ σ Q) X.xe s:=by
 have D:=h (s.heap.objs.size+1) s.heap.objs.size (I.hok.fresh (Ydd _)) (I.hok.fresh (Yad _)) (Yay (Nat.lt_succ_self _));have B:=Inv.made (C:=C) I;have L:Vals (V.ref (s.heap.objs.size+1)::(vs++dvs)) (Value.ref (s.heap.objs.size+1)::(us++ds)):=.cons rfl (r.append hd);have Z:(Value.ref (s.heap.objs.size+1)::us++ds).length=ps.length:=by
  have e:=L.length;rw [F.len _ _ _ _ D] at e;exact e.symm
 refine wpAny_call (ZaE (f:=f) I.kIn M.makes M.init (Ybe.mp M.fn) (codeAny_mono (F.run _ X.stack _ _ ⟨Value.ref (s.heap.objs.size+1)::us,[]⟩ (Value.ref (s.heap.objs.size+1)::(us++ds)) _ _ E (O.make C us [])
  (B.env0.make C us []) (U _ (Value.ref (s.heap.objs.size+1)::us) B.kIn Z) L D) λr s' j=>?_))
 cases r with
 | error e=>exact Y qQ σ _ _ e s' B j
 | ok fl=>
  cases fl with
  | ret u=>
   obtain ⟨v,H',I3,rv,ev,q3⟩:=B.after j;subst ev;exact ⟨rv,⟨V.ref (s.heap.objs.size+1),H',I3,rfl,q3⟩⟩
  | next=>exact False.elim j
  | brk=>exact False.elim j
  | cont=>exact False.elim j
theorem Zcr (M:Mk X.K C f)(F:FnOk X.prog X.w X.K X.mg X.base CX k f fd ps sp)(L:Room (k+1) X.A)(O:Gl X x)(U:X.mg x=some (.ref C))(Y:Binds X.K fd ps ds)(hd:Vals dvs ds)(Z:Ol CX X E)(ha:PA X (e::es) t)(j:(x == ("__debug__" : Str))=false:=by decide)(he:starEach (e::es) X.env=(false,eval e X.env)::starEach es X.env:=by rfl)(B:(backTo pos (starEach es X.env)).any (·.1)=false:=by rfl) :
  PE X (.Call (.Name x p) (e::es) [] pos) (ZfX C sp dvs E t):=by
 intro qQ s σ H Q I h;refine Ydl (Uq I O U ?_ j);refine W.callWith_K (h₀:=X.base) I.ok.mod.kin M.kp (thG (ha pos qQ s σ H _ I h) λus s1 vs H1 D r q=>⟨D.kIn,?_⟩) he B;exact ZaF M F L Y hd Z D r q
end
noncomputable def PK (X:Cx)(kws:List Keyword)(t:TA):Prop:=
 ∀(pos:Pos)(qQ:List (Addr×Obj))(s:Shared)(σ:St)(H:Hp)(Q:List V->Hp->Prop),Inv X qQ σ H s->t σ H Q->wpAny (model X.prog X.w) X.A (evalAll ((backToKw pos (keywordEach kws X.env)).map (·.2))) (AP X qQ σ Q) X.xe s
section
variable {X:Cx}{CX:CXT}{k:Nat}{f C:Addr}{fd:FuncData}{ps ks:List Str}{sp:Sp}{E:XK}{x m:Str}{p pos apos kpos:Pos}{e o:Expr}{es:List Expr}{kws:List Keyword}{te ta:TE}{t tk:TA}{nm:Option Str}
theorem ZdW:PK X [] ZgG:=λ_ _ _ _ H Q I h=>wpAny_evalAll_nil ⟨[],H,I,.nil,h⟩
theorem Y4 (ha:PE X e te)(j:PK X kws t):PK X (⟨nm,e,kpos⟩::kws) (ZdV te t):=by
 intro pos qQ s σ H Q I h;show wpAny _ _ (evalAll ((do let v <- eval e X.env;standAt pos;pure v)::(backToKw pos (keywordEach kws X.env)).map (·.2))) _ _ s;refine wpAny_evalAll_cons (Yaa (thG (ha qQ s σ H _ I h) λu B x H1 D L O=>Yaa (wpAny_standAt (Yah ?_))));exact thG (j pos qQ B σ H1 _ D O) λus s2 xs H2 U Y Z=>⟨x::xs,H2,U,.cons L Y,Z⟩
variable {g:List Value->List Value->List Value}{gV:List V->List V->List V}
end
structure Gs (N P:List Str)(sc:Scope):Prop where
 kind:sc.kind=.function
 co:sc.isCoroutine=false
 gen:sc.isGenerator=false
 nd:N.Nodup
 pre:N.take P.length=P
 par:∀x∈P,sc.names.lookup x=some .local\/sc.names.lookup x=some .cell
 nofree:∀y∈sc.names,y.2≠.free
theorem V7 {j:Str->Option NameKind}{x:Str}:∀{binds:List (Str×Value)}{m:Str->Option Value},(∀v,(x,v) ∉ binds)->bindL j binds m x=m x
 | [],_,_=>rfl
 | (n,v)::r,m,h=>by
  unfold bindL;rw [V7 λw B=>h w (Ybf _ B)];split
  ·have:x≠n:=by rintro rfl;exact h v Yaw
   simp [this]
  ·rfl
theorem V8 {j:Str->Option NameKind}{x:Str}:∀{binds:List (Str×Value)}{m:Str->Option Value},(∀v,(x,v) ∉ binds)->bindC j binds m x=m x
 | [],_,_=>rfl
 | (n,v)::r,m,h=>by
  unfold bindC;rw [V8 λw B=>h w (Ybf _ B)];split
  ·rfl
  ·have:x≠n:=by rintro rfl;exact h v Yaw
   simp [this]
theorem V9 {kindOf:Str->Option NameKind}{x:Str}{v:Value}:∀{P:List Str}{vs:List Value}{i:Nat}{m:Str->Option Value},P.Nodup->P[i]?=some x->vs[i]?=some v->kindOf x=some .local ->
  bindL kindOf (P.zip vs) m x=some v
 | [],_,_,_,_,h,_,_=>by simp at h
 | _::_,[],_,_,_,_,h,_=>by simp at h
 | p::P,w::vs,0,m,nd,h1,h2,hk=>by
  simp at h1 h2;subst h1;subst h2;show bindL kindOf ((p,w)::P.zip vs) m p=_;unfold bindL;rw [V7 λv hv=>(List.nodup_cons.mp nd).1 (List.of_mem_zip hv).1,if_pos hk];simp
 | p::P,w::vs,i+1,m,nd,h1,h2,hk=>by
  show bindL kindOf ((p,w)::P.zip vs) m x=_;unfold bindL;exact V9 (i:=i) (List.nodup_cons.mp nd).2 (by simpa using h1) (by simpa using h2) hk
theorem Wa {kindOf:Str->Option NameKind}{x:Str}{v:Value}:∀{P:List Str}{vs:List Value}{i:Nat}{m:Str->Option Value},P.Nodup->P[i]?=some x->vs[i]?=some v->kindOf x≠some .local ->
  bindC kindOf (P.zip vs) m x=some v
 | [],_,_,_,_,h,_,_=>by simp at h
 | _::_,[],_,_,_,_,h,_=>by simp at h
 | p::P,w::vs,0,m,nd,h1,h2,hk=>by
  simp at h1 h2;subst h1;subst h2;show bindC kindOf ((p,w)::P.zip vs) m p=_;unfold bindC;rw [V8 λv hv=>(List.nodup_cons.mp nd).1 (List.of_mem_zip hv).1,if_neg hk];simp
 | p::P,w::vs,i+1,m,nd,h1,h2,hk=>by
  show bindC kindOf ((p,w)::P.zip vs) m x=_;unfold bindC;exact Wa (i:=i) (List.nodup_cons.mp nd).2 (by simpa using h1) (by simpa using h2) hk
noncomputable def start (N:List Str)(vs:List V):St:=vs.map some++List.replicate (N.length-vs.length) none
noncomputable def Ye (CX:CXT)(P:Program)(w:World)(K:W.Frag)(mg:Str->Option Value)(base:Heap)(N:List Str)(qual:Str)(scope:Scope)(f:Addr)(cd:Value)(A:Around)(outer:List Env)(s:Shared)(H:Hp)(E:XK):Cx where
 prog:=P
 w:=w
 K:=K
 mg:=mg
 base:=base
 A:=A.deeper (envOfC qual scope s.heap.objs.size f cd)
 N:=N
 s₀:=s
 H₀:=H
 env:=envOfC qual scope s.heap.objs.size f cd
 outer:=outer
 stack:=envOfC qual scope s.heap.objs.size f cd::outer
 ex:=[]
 calm:=true
 fn:=λ_=>true
 pn:=[]
 xe:=λe s'=>wpAny (model P w) (A.deeper (envOfC qual scope s.heap.objs.size f cd)) (leaving (envOfC qual scope s.heap.objs.size f cd) e) (λ_ s''=>CX outer H s E e s'') (λe' s''=>CX outer H s E e' s'') s'
theorem Xh {j:Scope}{n:Nat}{x:Str}(h:j.names.lookup x=some .cell):∃c,(cellsFrom n j.names []).lookup x=some c:=by
 have q:=W.cellsFrom_some j.names n [] (.inl h);exact Option.isSome_iff_exists.mp q
theorem Y5 {CX:CXT}{P:Program}{w:World}{K:W.Frag}{mg:Str->Option Value}{base:Heap}{N ps:List Str}{qual:Str}{scope:Scope}{f:Addr}{cd:Value}{A:Around}{outer:List Env}{s U:Shared}{H:Hp}{E:XK}{us:List Value}{vs:List V}(S:Gs N ps scope)(hd:A.handled=none)(j:Env0 P w K mg base A outer s H)(hl:vs.length=ps.length)(r:Vals vs us)(x:InCallC s s.heap.objs.size (bindL (envOfC qual scope s.heap.objs.size f cd).kindOf (ps.zip us) λ_=>none) (cellsFrom (s.heap.objs.size+1) scope.names []) (bindC (envOfC qual scope s.heap.objs.size f cd).kindOf (ps.zip us) λ_=>none) U) :
  Inv (Ye CX P w K mg base N qual scope f cd A outer s H E) [] (start N vs) H U:=by
 have aa:ps.length<=N.length:=by have:=Ybh List.length S.pre;rw [Yba] at this;lia
 obtain ⟨h1,tk,rfl,Y⟩:=x.done;have B:∀b:Addr,b ∉ (Ye CX P w K mg base N qual scope f cd A outer s H E).ex:=λb z=>absurd (show b∈([]:List Addr) from z) (by simp);refine ⟨⟨j.mod,S.kind,rfl,rfl,Yad _,λy z c h1 h2=>?_,λy D=>?_,λy c _ h=>?_,λ_=>hd,Around.frames_deeper j.frames,.inr ⟨rfl,rfl⟩,λb z=>absurd z (B b),j.bs,j.bsz,λb _ _=>B b,λb z=>absurd z (B b),j.funs,j.frf⟩,
  rfl,j.bare,Un.kept Y,⟨_,x.toInCall.ns,λi y v h1 h2 h3=>?_⟩,λy c h=>⟨_,x.cell y c h⟩,j.hok.fresh (Yad _),λy c h=>?_,λp L=>absurd (show p∈([]:List (Addr×Obj)) from L) (by simp),j.hok.kept Y,?_⟩
 ·exact name_of_addr x.apart (Ycb h1) (Ycb h2)
 ·have D:scope.names.lookup y=some .cell\/scope.names.lookup y=some .free:=D;rcases D with D | D
  ·exact Xh D
  ·exact absurd rfl (S.nofree _ (Ycb D))
 ·exact Ycr (x.above y c (Ycb h))
 ·have hi:i<vs.length:=by
   unfold start at h2;by_cases hi:i<vs.length
   ·exact hi
   ·rw [Ybt (by simpa using hi)] at h2;rw [List.getElem?_replicate] at h2;split at h2 <;> cases h2
  have ha:vs[i]?=some v:=by
   unfold start at h2;rw [Ybl (by simpa using hi),Ybb] at h2;cases e:vs[i]? with
   | none=>rw [e] at h2;cases h2
   | some a=>rw [e] at h2;cases h2;rfl
  obtain ⟨u,Z,rv⟩:=r.get ha;have L:ps[i]?=some y:=by
   rw [<-S.pre,List.getElem?_take_of_lt (by lia)];exact h1
  have O:ps.Nodup:=by rw [<-S.pre];exact S.nd.sublist (List.take_sublist _ _)
  refine ⟨u,rv,?_⟩;rcases S.par y (Yat L) with k | k
  ·exact .inl ⟨k,V9 O L Z k⟩
  ·obtain ⟨c,e⟩:=Xh (n:=s.heap.objs.size+1) k;refine .inr ⟨.inl k,c,e,?_⟩;have q:=x.cell y c e;rw [Wa O L Z (by show scope.names.lookup y≠_;rw [k];decide)] at q;exact q
 ·exact j.hok.fresh (Ycr (x.above y c (Ycb h)))
 ·unfold start;show _=N.length;rw [Yae,Yab,List.length_replicate]
  lia
theorem Y6 {CX:CXT}{P:Program}{w:World}{K:W.Frag}{mg:Str->Option Value}{base:Heap}{k:Nat}{f:Addr}{name qual:Str}{params:Arguments}{body:List Stmt}{scope:Scope}{dV kV L pm j ct oc:Value}{an od:Option Addr}{Z:Array (Option Value)}{N ps:List Str}{sp:Sp}(lk:K.lookup f=some ⟨oc,od,.func (W.fnOf name qual params body scope dV kV L pm an j ct),Z⟩)(aa:W.codeIn K j qual=true)(S:Gs N ps scope)(len:∀vs H Q E,sp vs H Q E->vs.length=ps.length)(jQ:∀(A:Around)(outer:List Env)(s:Shared)(H:Hp)(vs:List V)(Q:VK)(E:XK),Room k (A.deeper (envOfC qual scope s.heap.objs.size f j))->sp vs H Q E ->
   ∃t,PSs (Ye CX P w K mg base N qual scope f j A outer s H E) body t/\t { nx:=λ_ H'=>Q .non H',rt:=Q } (start N vs) H) :
  FnOk P w K mg base CX (k+1) f (W.fnOf name qual params body scope dV kV L pm an j ct) ps sp:=by
 refine ⟨len,λA outer s H ac us vs Q E hr O hb r U=>?_⟩;have hl:=len _ _ _ _ U;have KX:K.In s.heap:=O.mod.kin.keeps λb o e=>(O.bs b o e).1;have ab:s.heap.NoLimit:=O.mod.nolimit.keeps λb o e=>(O.bs b o e).1;have B:∀y∈ps.zip us,scope.names.lookup y.1=some .local\/(scope.names.lookup y.1=some .cell/\((cellsFrom (s.heap.objs.size+1) scope.names []).lookup y.1).isSome=true):=λ⟨n,v⟩ hy=>by
  rcases S.par n (List.of_mem_zip hy).1 with q | q
  ·exact .inl q
  ·exact .inr ⟨q,W.cellsFrom_some _ _ _ (.inl q)⟩
 refine codeAny_call_function hr.depth (KX _ _ lk) rfl S.co S.gen rfl (W.codeRec_of KX aa) (hb _ _ _ _ ?_);refine wpAny_newFunctionEnv_cells S.kind B λad he s1 x=>?_;subst he;refine ⟨ab.keeps x.toInCall.keep,codeAny_func ?_⟩;obtain ⟨t,ht,hq⟩:=jQ A outer s H vs Q E (hr.deeper _) U;have I:Inv (Ye CX P w K mg base N qual scope f j A outer s H E) [] (start N vs) H s1:=Y5 S hr.hd O hl r x;refine Ybp (ht [] s1 (start N vs) H _ I hq) (λfl s' D=>?_) λe s' D=>D;have fin:∀{Y:St}{H':Hp}{v:V}{u:Value},Inv (Ye CX P w K mg base N qual scope f j A outer s H E) [] Y H' s'->RelV v u->Q v H'->CE outer P w H s Q u s':=
  λ{Y H' v u} J rv q=>⟨v,H',J.os,J.bare,J.base,J.hok,rv,q⟩
 cases fl with
 | ret u=>
  obtain ⟨v,Y,H',J,rv,q⟩:=D;exact fin J rv q
 | next=>
  obtain ⟨Y,H',J,q⟩:=D;exact fin (v:=V.non) (u:=Value.none) J rfl q
 | brk=>
  obtain ⟨_,_,_,q⟩:=D;exact False.elim q
 | cont=>
  obtain ⟨_,_,_,q⟩:=D;exact False.elim q
section
variable {X:Cx}{x:Str}{p pos:Pos}{e:Expr}{es:List Expr}{t:TA}{id T:String}{r:List V->Hp->VK->Prop}
noncomputable def tCB (r:List V->Hp->VK->Prop)(t:TA):TE:=λσ H Q=>t σ H λvs H1=>r vs H1 Q
theorem Gu (D:Oi X (.builtin id) r)(L:Gl X x)(O:X.mg x=none)(U:bootBuiltins x=some (.builtin id))(ha:PA X (e::es) t)(Y:x ≠ "__name__" := by decide)(j:(x == ("__debug__" : Str))=false:=by decide)(Z:starEach (e::es) X.env=(false,eval e X.env)::starEach es X.env:=by rfl)(B:(backTo pos (starEach es X.env)).any (·.1)=false:=by rfl):PE X (.Call (.Name x p) (e::es) [] pos) (tCB r t):=by
 intro qQ s σ H Q I h;refine Ydl (UT I L O U ?_ Y j);exact PyProof.Rows.callWith_builtin1 (thG (ha pos qQ s σ H _ I h) λus s1 vs H1 I1 r1 q1=>D qQ s1 σ H1 vs us Q I1 r1 q1) Z B
theorem Jf (D:Oi X (.type T) r)(L:Gl X x)(O:X.mg x=none)(U:bootBuiltins x=some (.type T))(ha:PA X (e::es) t)(Y:x ≠ "__name__" := by decide)(j:(x == ("__debug__" : Str))=false:=by decide)(Z:starEach (e::es) X.env=(false,eval e X.env)::starEach es X.env:=by rfl)(B:(backTo pos (starEach es X.env)).any (·.1)=false:=by rfl):PE X (.Call (.Name x p) (e::es) [] pos) (tCB r t):=by
 intro qQ s σ H Q I h;refine Ydl (UT I L O U ?_ Y j);exact PyProof.Rows.callWith_type1 (thG (ha pos qQ s σ H _ I h) λus s1 vs H1 I1 r1 q1=>D qQ s1 σ H1 vs us Q I1 r1 q1) Z B
end
end L2
namespace HT
open PySem PyProof.Rows
section
variable {prog:Program}{w:World}{A:Around}{E:EX}{s:Shared}
noncomputable def sIx (n d:Nat):Option Int->Nat
 | none=>d
 | some v=>if v<0 then (v+(n:Int)).toNat else min v.toNat n
theorem sIx_none (n d:Nat):sIx n d none=d:=rfl
theorem sIx_nat (n d k:Nat):sIx n d (some (k:Int))=min k n:=by
 show (if (k:Int)<0 then ((k:Int)+(n:Int)).toNat else min (k:Int).toNat n)=min k n;rw [if_neg (by lia),Int.toNat_natCast]
theorem ZdX (n d:Nat)(hd:d<=n)(o:Option Int):sIx n d o<=n:=by
 cases o with
 | none=>exact hd
 | some v=>
  show (if v<0 then (v+(n:Int)).toNat else min v.toNat n)<=n;by_cases j:v<0
  ·rw [if_pos j];lia
  ·rw [if_neg j];exact Nat.min_le_right _ _
theorem Y7 (v:Int)(n d:Nat):(if v<0 then max (v+(n:Int)) 0 else min v (n:Int))=((sIx n d (some v):Nat):Int):=by
 show (if v<0 then max (v+(n:Int)) 0 else min v (n:Int))=(((if v<0 then (v+(n:Int)).toNat else min v.toNat n):Nat):Int);by_cases j:v<0
 ·simp only [if_pos j];lia
 ·simp only [if_neg j];lia
theorem Yg (lo hi:Option Int)(n:Nat):Builtin.Slice.sliceAdjust lo hi 1 (n:Int)=(((sIx n 0 lo:Nat):Int),((sIx n n hi:Nat):Int)):=by
 have h1:¬ ((1:Int)<0):=by lia
 unfold Builtin.Slice.sliceAdjust;simp only [h1,if_false];refine Prod.ext ?_ ?_
 ·cases lo with
  | none=>rfl
  | some v=>exact Y7 v n 0
 ·cases hi with
  | none=>rfl
  | some v=>exact Y7 v n n
theorem Yh (i j:Nat):Builtin.Slice.slicePlaces (i:Int) (j:Int) 1=j-i:=by
 unfold Builtin.Slice.slicePlaces;have h1:(1:Int) > 0:=by lia
 simp only [h1,if_true,Int.ediv_one];split <;> lia
theorem UW {v:Value}{o:Option Int}{Q:Option Int->Shared->Prop}(p:IsPart v o)(h:Q o s):wpAny (model prog w) A (Builtin.Slice.slicePartIndex v) Q E s:=by
 cases p with
 | none=>exact slicePart_none h
 | int i t=>exact slicePart_int h
theorem Uc {O:Addr}{D L:Value}{lo hi:Option Int}{n:Nat}{Q:Int×Int×Nat->Shared->Prop}(U:s.heap.IsSliceOf O D L .none)(pl:IsPart D lo)(Y:IsPart L hi)(h:Q (((sIx n 0 lo:Nat):Int),1,sIx n n hi-sIx n 0 lo) s):wpAny (model prog w) A (Builtin.Slice.sliceApplied (.ref O) (pure (n:Int))) Q E s:=by
 obtain ⟨os,j,Z,B⟩:=id U;unfold Builtin.Slice.sliceApplied Builtin.Slice.sliceFields;refine Yaa (Yaa (wpAny_field j B (x:=D) rfl (Yaa (wpAny_field j B (x:=L) rfl (Yaa (wpAny_field j B (x:=.none) rfl (Yah ?_)))))));refine Yaa (slicePart_none ?_);show wpAny _ _ (if ((1:Int) == 0)=true then _ else _) _ _ s;rw [if_neg (by decide)];refine Yaa (UW pl (Yaa (UW Y (Yaa (Yah ?_)))));show wpAny _ _ (match Builtin.Slice.sliceAdjust lo hi 1 (n:Int) with | (lo,hi)=>pure (lo,(1:Int),Builtin.Slice.slicePlaces lo hi 1)) _ _ s;rw [Yg lo hi n];show wpAny _ _ (pure (((sIx n 0 lo:Nat):Int),(1:Int),Builtin.Slice.slicePlaces ((sIx n 0 lo:Nat):Int) ((sIx n n hi:Nat):Int) 1)) _ _ s;rw [Yh];exact Yah h
theorem ZaG (xs:Array Value)(i k:Nat):((List.range k).filterMap λ(m:Nat)=>xs[((i:Int)+(m:Int) * 1).toNat]?).toArray=((xs.toList.drop i).take k).toArray:=by
 have e:(λ(m:Nat)=>xs[((i:Int)+(m:Int) * 1).toNat]?)=λm=>xs[i+m]?:=by
  funext m
  have:((i:Int)+(m:Int) * 1).toNat=i+m:=by lia
  rw [this]
 rw [e];have:=pick_run xs i k;rw [List.filterMap_map] at this;have j:((λx=>xs[x]?)∘λx=>i+x)=λm=>xs[i+m]?:=rfl;rw [j] at this;rw [this]
theorem getItem_tuple_cut {t L:Addr}{j:Array Value}{vl vu:Value}{lo hi:Option Int}{Q:EX}(D:IsTup s.heap t j)(hs:s.heap.IsSliceOf L vl vu .none)(pl:IsPart vl lo)(pu:IsPart vu hi)(hw:¬ (sIx j.size 0 lo=0/\sIx j.size j.size hi=j.size))(h:Q (.ref s.heap.objs.size) { s with heap:=s.heap.push { cls:=.type "tuple", data:=.seq ((j.toList.drop (sIx j.size 0 lo)).take (sIx j.size j.size hi-sIx j.size 0 lo)).toArray } })(hsz:j.size<=sizeLine):wpAny (model prog w) A (getItem (.ref t) (.ref L)) Q E s:=by
 have B:sizeOk (.seq ((j.toList.drop (sIx j.size 0 lo)).take (sIx j.size j.size hi-sIx j.size 0 lo)).toArray):=by
  show ((j.toList.drop (sIx j.size 0 lo)).take (sIx j.size j.size hi-sIx j.size 0 lo)).toArray.size<=sizeLine;rw [Yas,Yba,Ydr,Ybd]
  lia
 have hj:sIx j.size j.size hi<=j.size:=ZdX _ _ (Yad _) hi;obtain ⟨os,O,U,aa⟩:=id hs;have Y:s.TypeIs (.ref L) "slice" := ⟨os,O,U⟩;unfold getItem
 try with_reducible refine Ydc ?_
 first | refine Yaa (Yah ?_) | skip
 refine Yaa (wpAny_sequenceKey D.typeIs (by decide) ?_);refine Yaa (wpAny_callSpecial?_slot (name:=Str.ofString "__getitem__") D.typeIs PyProof.Rows.slot_tuple_getitem
  (wpAny_call_entry PyProof.Rows.slot_tuple_getitem D.typeIs entry_tuple_getitem ?_ (args_tuple_getitem _ _)))
 show wpAny _ _ (Builtin.Tuple.tupleItemsOf (.ref t) >>= _) _ _ s;refine Yaa (tupleItemsOf_ D ?_);refine Yaa (wpAny_typeOf Y ?_);rw [if_pos (by decide)];refine Yaa (Uc hs pl pu ?_);have Z:¬ ((((sIx j.size 0 lo:Nat):Int) == 0 && (1:Int) == 1 && (sIx j.size j.size hi-sIx j.size 0 lo) == j.size)=true):=by
  intro q;rw [Ycc,Ycc] at q;have q1:((sIx j.size 0 lo:Nat):Int)=0:=eq_of_beq q.1.1;have q2:sIx j.size j.size hi-sIx j.size 0 lo=j.size:=eq_of_beq q.2;exact hw ⟨by lia,by lia⟩
 show wpAny _ _ (if (((sIx j.size 0 lo:Nat):Int) == 0 && (1:Int) == 1 && (sIx j.size j.size hi-sIx j.size 0 lo) == j.size)=true then _ else _) _ _ s;rw [if_neg Z,ZaG]
 first
  | exact Yaa (m:=Builtin.Tuple.tupleExact _) (wpAny_newObj_type (Yah ⟨_,rfl,Yah h⟩) B)
  | exact Yaa (m:=Builtin.Tuple.tupleExact _) (wpAny_newObj_type (Yaa (Yah (Yah ⟨_,rfl,Yah h⟩))) B)
  | exact Yaa (Yaa (m:=Builtin.Tuple.tupleExact _) (wpAny_newObj_type (Yah (Yah ⟨_,rfl,Yah h⟩)) B))
  | exact Yaa (Yaa (m:=Builtin.Tuple.tupleExact _) (wpAny_newObj_type (Yah ⟨_,rfl,Yah h⟩) B))
end
end HT
namespace L2
open PySem PySem.Spec PyProof.Rows
noncomputable abbrev TO:=St->Hp->(Option Int->Hp->Prop)->Prop
noncomputable def PO (X:Cx)(e:Option Expr)(t:TO):Prop:=
 ∀(qQ:List (Addr×Obj))(s:Shared)(σ:St)(H:Hp)(Q:Option Int->Hp->Prop),Inv X qQ σ H s->t σ H Q ->
  wpAny (model X.prog X.w) X.A (evalPart e X.env) (λu s'=>∃o H',Inv X qQ σ H' s'/\IsPart u o/\Q o H') X.xe s
noncomputable def Zcs:TO:=λ_ H Q=>Q none H
noncomputable def ZfY (t:TE):TO:=λσ H Q=>t σ H λx H1=>∃i,x=.int i/\Q (some i) H1
theorem UX {ns:List Int}:∀{us:List Value},Vals (ns.map V.int) us->IntsAre us ns:=by
 induction ns with
 | nil=>intro us r;rw [List.map_nil] at r;cases r;exact .nil
 | cons n ns ih=>
  intro us r;rw [Yaq] at r;cases r with
  | cons r1 r2=>
   obtain ⟨t,e⟩:=r1;subst e;exact .cons n t (ih r2)
section
variable {X:Cx}{e:Expr}{te:TE}{lo hi:Option Expr}{tl th:TO}{pos p2:Pos}
theorem OU:PO X none Zcs:=by
 intro qQ s σ H Q I h;rw [evalPart_none];exact Yah ⟨none,H,I,.none,h⟩
theorem OV (h:PE X e te):PO X (some e) (ZfY te):=by
 intro qQ s σ H Q I j;rw [evalPart_some];refine thG (h qQ s σ H _ I j) λu O x H1 B D L=>?_;obtain ⟨i,rfl,q⟩:=L;obtain ⟨t,rfl⟩:=D;exact ⟨some i,H1,B,.int i t,q⟩
noncomputable def SlR (X:Cx)(r:V->Option Int->Option Int->Hp->VK->Prop):Prop:=
 ∀(qQ:List (Addr×Obj))(s:Shared)(σ:St)(H:Hp)(x:V)(v vl vu:Value)(lo hi:Option Int)(sl:Addr)(Q:VK),Inv X qQ σ H s->RelV x v->s.heap.IsSliceOf sl vl vu .none->IsPart vl lo->IsPart vu hi->r x lo hi H Q ->
  ∃T id,typeLookup (.type T) "__getitem__" = pure (some (.builtin id))/\s.TypeIs v T/\wpAny (model X.prog X.w) X.A (getItem v (.ref sl)) (EP X qQ σ Q) X.xe s
noncomputable def tSl (r:V->Option Int->Option Int->Hp->VK->Prop)(te:TE)(tl th:TO):TE:=λσ H Q=>te σ H λx H1=>tl σ H1 λl H2=>th σ H2 λu j=>r x l u j Q
theorem J8 {r:V->Option Int->Option Int->Hp->VK->Prop}(O:SlR X r)(U:PE X e te)(Y:PO X lo tl)(Z:PO X hi th):PE X (.Subscript e (.Slice lo hi none p2) pos) (tSl r te tl th):=by
 intro qQ s σ H Q I h;refine Subscript_ (thG (U qQ s σ H _ I h) λv s1 x H1 I1 r1 q1=>?_);refine wpAny_Slice (thG (Y qQ s1 σ H1 _ I1 q1) λB s2 l H2 I2 pl q2=>thG (Z qQ s2 σ H2 _ I2 q2) λD j u L I3 pu q3=>?_);rw [evalPart_none];refine Yah ?_;have I4:Inv X qQ σ L { j with heap:=j.heap.push { cls:=.type "slice", data:=.fields #[B,D,.none] } }:=I3.kept (t':=j.toks) λb ob q=>Yan _ q;obtain ⟨T,id,hT,ht,hg⟩:=O qQ { j with heap:=j.heap.push { cls:=.type "slice", data:=.fields #[B,D,.none] } } σ L x v B D l u j.heap.objs.size Q I4 r1 (Heap.IsSliceOf.new ..) pl pu q3;show wpAny (model X.prog X.w) X.A (subscriptTail e (.Slice lo hi none p2) v (.ref j.heap.objs.size)) (EP X qQ σ Q) X.xe { j with heap:=j.heap.push { cls:=.type "slice", data:=.fields #[B,D,.none] } };exact tail_any (ops:=[.ref j.heap.objs.size,v]) ht hT hg (by with_unfolding_all rfl)
noncomputable def Xi (xs:List V)(lo hi:Option Int):List V:=(xs.drop (HT.sIx xs.length 0 lo)).take (HT.sIx xs.length xs.length hi-HT.sIx xs.length 0 lo)
theorem Uu (xs:List V)(lo hi:Option Int):(Xi xs lo hi).length<=xs.length:=by
 unfold Xi;rw [Yba,Ydr]
 lia
noncomputable def ZgH (K:W.Frag):V->Option Int->Option Int->Hp->VK->Prop:=λx lo hi H Q=>∃a xs,x=.ref a/\SqT K H a xs /\
 ¬ (HT.sIx xs.length 0 lo=0/\HT.sIx xs.length xs.length hi=xs.length)/\∀p,H p=none->Q (.ref p) (upd H p (.tup (Xi xs lo hi)))
theorem ZdY:SlR X (ZgH X.K):=by
 intro qQ s σ H x v vl vu lo hi sl Q I L O pl U h;obtain ⟨a,xs,rfl,Y,Z,q⟩:=h;cases L;obtain ⟨its,r,B,D⟩:=I.tuple Y;have j:its.toArray.size=xs.length:=by rw [Yas];exact r.length.symm
 refine ⟨"tuple", _,PyProof.Rows.slot_tuple_getitem.lookup,B.typeIs,?_⟩;refine HT.getItem_tuple_cut B O pl U (by rw [j];exact Z) ?_ (by rw [j];exact D);rw [j];refine ⟨.ref s.heap.objs.size,_,I.laid (t':=s.toks) (o:=.tup (Xi xs lo hi)) (λb ob q=>Yan _ q) (Yad _) ?_,rfl,q _ (I.hok.fresh (Yad _))⟩;exact ⟨Yca (Uu xs lo hi) D,_,(r.drop (HT.sIx xs.length 0 lo)).take (HT.sIx xs.length xs.length hi-HT.sIx xs.length 0 lo),IsTup.new _ _⟩
end
noncomputable def ixN (n:Nat)(i:Int):Option Nat:=if 0<=i then (if i<n then some i.toNat else none) else if -(n:Int)<=i then some (i+n).toNat else none
noncomputable def atI {α:Type}(xs:List α)(i:Int):Option α:=(ixN xs.length i).bind λj=>xs[j]?
theorem Y8 {n:Nat}{i:Int}{j:Nat}(h:ixN n i=some j):seqIndex? i n=some j/\j<n/\-(n:Int)<=i/\i<n:=by
 unfold ixN at h;by_cases h0:0<=i
 ·rw [if_pos h0] at h;by_cases h1:i<n
  ·rw [if_pos h1] at h;have e:i.toNat=j:=Ybo h;exact ⟨by rw [seqIndex_of h0 h1,e],by lia,by lia,h1⟩
  ·rw [if_neg h1] at h;cases h
 ·rw [if_neg h0] at h;by_cases h1:-(n:Int)<=i
  ·rw [if_pos h1] at h;have e:(i+n).toNat=j:=Ybo h;exact ⟨by rw [seqIndex_neg (by lia) h1,e],by lia,h1,by lia⟩
  ·rw [if_neg h1] at h;cases h
theorem Y9 {α:Type}{xs:List α}{i:Int}{v:α}(h:atI xs i=some v):∃j,seqIndex? i xs.length=some j/\xs[j]?=some v/\j<xs.length/\-(xs.length:Int)<=i/\i<xs.length:=by
 unfold atI at h;cases e:ixN xs.length i with
 | none=>rw [e] at h;cases h
 | some j=>
  rw [e] at h;obtain ⟨h1,h2,B,D⟩:=Y8 e;exact ⟨j,h1,h,h2,B,D⟩
theorem Gm {α:Type}{xs:List α}{j:Nat}{v:α}(h:xs[j]?=some v):atI xs (j:Int)=some v:=by
 have B:j<xs.length:=(Yaj.mp h).1;have e:ixN xs.length (j:Int)=some j:=by
  unfold ixN;rw [if_pos (by lia),if_pos (by lia)];simp
 unfold atI;rw [e];exact h
noncomputable def Zct (b:Expr):Prop:=∀o i,subscripted b false o i=operate [o,i] (getItem o i)
noncomputable def IxR (X:Cx)(r:R2):Prop:=
 ∀(value j:Expr)(qQ:List (Addr×Obj))(s:Shared)(σ:St)(H:Hp)(x y:V)(v u:Value)(Q:VK),Inv X qQ σ H s->RelV x v->RelV y u->r x y H Q ->
  subscripted j false v u=operate [v,u] (getItem v u)->wpAny (model X.prog X.w) X.A (subscriptTail value j v u) (EP X qQ σ Q) X.xe s
noncomputable def MtR (X:Cx)(id:String)(r:V->List V->Hp->VK->Prop):Prop:=
 ∀(qQ:List (Addr×Obj))(s:Shared)(σ:St)(H:Hp)(x:V)(xs:List V)(v:Value)(us:List Value)(Q:VK),Inv X qQ σ H s->RelV x v->Vals xs us->r x xs H Q ->
  wpAny (model X.prog X.w) X.A (call (.builtin id) (v::us)) (EP X qQ σ Q) X.xe s
section
variable {X:Cx}{a b:Expr}{ta tb:TE}{pos:Pos}
theorem GD {r:R2}(j:IxR X r)(ha:PE X a ta)(B:PE X b tb)(D:Zct b):PE X (.Subscript a b pos) (tOp r ta tb):=by
 intro qQ s σ H Q I h;exact Subscript_ (ZfR ha B I h λv u L x y H2 O U Y q=>j a b qQ L σ H2 x y v u Q O U Y q (D _ _))
noncomputable def ZgI (K:W.Frag):R2:=λx y H Q=>∃p xs i v,x=.ref p/\y=.int i/\SqL K H p xs/\atI xs i=some v/\Q v H
noncomputable def ZgJ (K:W.Frag):R2:=λx y H Q=>∃p xs i v,x=.ref p/\y=.int i/\SqT K H p xs/\atI xs i=some v/\Q v H
theorem Zcu:IxR X (ZgI X.K):=by
 intro value B qQ s σ H x y v u Q I Y Z h O;obtain ⟨p,xs,i,z,rfl,rfl,hq,he,q⟩:=h;cases Y;obtain ⟨t,rfl⟩:=Z;obtain ⟨its,r,pl,hz⟩:=I.list hq;obtain ⟨j,h1,h2,h3,h4,h5⟩:=Y9 he;obtain ⟨w,U,D⟩:=r.get h2;have hl:=r.length;have hn:=V4;have fin:EP X qQ σ Q w s:=⟨z,H,I,D,q⟩;by_cases h0:0<=i
 ·have L:i.toNat=j:=by
   rw [seqIndex_of h0 h5] at h1;exact Ybo h1
  exact item_listR pl.isList h0 (by lia) (by rw [L];simpa using U) fin O
 ·have L:(i+(its.toArray.size:Int)).toNat=j:=by
   rw [seqIndex_neg (by lia) h4] at h1;rw [Yas,<-hl];exact Ybo h1
  exact subscriptTail_builtinR (x:=w) pl.isList.typeIs slot_list_getitem.lookup
   (wpAny_getItem_list_neg (Q:=λr s'=>r=w/\EP X qQ σ Q r s') pl.isList (by lia) (by rw [Yas] <;> lia) (by lia) (by rw [L];simpa using U) ⟨rfl,fin⟩) O
theorem ZdZ:IxR X (ZgJ X.K):=by
 intro value B qQ s σ H x y v u Q I L O h U;obtain ⟨p,xs,i,z,rfl,rfl,Y,Z,q⟩:=h;cases L;obtain ⟨t,rfl⟩:=O;obtain ⟨its,r,pl,hz⟩:=I.tuple Y;obtain ⟨j,h1,h2,h3,h4,h5⟩:=Y9 Z;obtain ⟨w,ew,D⟩:=r.get h2;have hl:=r.length;have hn:=V4;have fin:EP X qQ σ Q w s:=⟨z,H,I,D,q⟩;exact subscriptTail_builtinR (x:=w) pl.typeIs slot_tuple_getitem.lookup
  (getItem_tuple (j:=j) (Q:=λr s'=>r=w/\EP X qQ σ Q r s') pl (by lia) (by lia) (by rw [Yas,<-hl];exact h1) (by simpa using ew) ⟨rfl,fin⟩) U
theorem Yi (its:List Value)(n j:Nat)(u:Value):Obj.mapSeq (·.setIfInBounds j u) { cls:=.type "list", data:=.seq its.toArray n }={ cls:=.type "list", data:=.seq (its.set j u).toArray n }:=by
 simp [Obj.mapSeq]
theorem Inv.lst {qQ:List (Addr×Obj)}{σ:St}{H:Hp}{s:Shared}{p:Addr}{xs:List V}(I:Inv X qQ σ H s)(h:H p=some (.lst xs)) :
  ∃(its:List Value)(n:Nat),Vals xs its/\s.heap.get? p=some { cls:=.type "list", data:=.seq its.toArray n }/\xs.length<=sizeLine:=by
 obtain ⟨z,its,n,r,e⟩:=I.hok p _ h;exact ⟨its,n,r,e,z⟩
theorem Inv.lstUpd {qQ:List (Addr×Obj)}{σ:St}{H:Hp}{s:Shared}{p:Addr}{xs ys:List V}{its its':List Value}{n j:Nat}{f:Obj->Obj}(I:Inv X qQ σ H s)(h:H p=some (.lst xs))(D:s.heap.get? p=some { cls:=.type "list", data:=.seq its.toArray n })(B:f { cls:=.type "list", data:=.seq its.toArray n }={ cls:=.type "list", data:=.seq its'.toArray j })(r:Vals ys its')(hz:ys.length<=sizeLine)(t:Nat) :
  Inv X qQ σ (upd H p (.lst ys)) { s with heap:=s.heap.update p f,toks:=t }:=by
 have e:(s.heap.update p f).get? p=some { cls:=.type "list", data:=.seq its'.toArray j }:=by
  rw [Heap.get?_update_self f D (by rw [B] <;> rfl),B]
 refine I.write (x:=p) (e:=p) (by rw [h];trivial) (.inl rfl) (λb u L q=>(Ydx _ _ (Ne.symm L)).trans q) ⟨_,e⟩ ?_;exact ⟨hz,its',j,r,e⟩
noncomputable def ZfZ:V->V->V->Hp->(Hp->Prop)->Prop:=λo i v H Q=>∃p xs k j,o=.ref p/\i=.int k/\H p=some (.lst xs)/\ixN xs.length k=some j/\Q (upd H p (.lst (xs.set j v)))
theorem Xj:ZgB X ZfZ:=by
 intro qQ s σ H o i v ov iv u Q I ro ri rv h;obtain ⟨p,xs,k,j,rfl,rfl,O,hj,q⟩:=h;cases ro;obtain ⟨t,rfl⟩:=ri;obtain ⟨its,n,r,B,hz⟩:=I.lst O;obtain ⟨h1,h2,U,Y⟩:=Y8 hj;have D:=r.length;have hn:=V4;have Z:Inv X qQ σ (upd H p (.lst (xs.set j v))) { s with heap:=s.heap.update p (Obj.mapSeq (·.setIfInBounds j u)) }:=
  I.lstUpd O B (Yi its n j u) (r.set rv j) (by rw [List.length_set];exact hz) s.toks
 by_cases h0:0<=k
 ·have L:k.toNat=j:=by
   rw [seqIndex_of h0 Y] at h1;exact Ybo h1
  exact W.ki_setAt B h0 (by lia) (by rw [Yas,<-D];exact Y) (by rw [L];exact ⟨_,Z,q⟩)
 ·have L:(k+(its.toArray.size:Int)).toNat=j:=by
   rw [seqIndex_neg (by lia) U] at h1;rw [Yas,<-D];exact Ybo h1
  exact W.ki_setBack B (by lia) (by rw [Yas,<-D];exact U) (by lia) (by rw [L];exact ⟨_,Z,q⟩)
theorem Wb (lo hi:Option Int)(n:Nat):(sliceBounds lo hi none n).1=((HT.sIx n 0 lo:Nat):Int)/\(sliceBounds lo hi none n).2.1=((HT.sIx n n hi:Nat):Int)/\(sliceBounds lo hi none n).2.2=1:=by
 refine ⟨?_,?_,rfl⟩
 ·cases lo with
  | none=>simp [sliceBounds,HT.sIx]
  | some i=>
   simp only [sliceBounds,HT.sIx,Option.getD_none,show (1:Int) > 0 by decide,if_true];by_cases h:i<0
   ·simp only [h,if_true] <;> lia
   ·simp only [h,if_false] <;> lia
 ·cases hi with
  | none=>simp [sliceBounds,HT.sIx]
  | some i=>
   simp only [sliceBounds,HT.sIx,Option.getD_none,show (1:Int) > 0 by decide,if_true];by_cases h:i<0
   ·simp only [h,if_true] <;> lia
   ·simp only [h,if_false] <;> lia
theorem Vq (its:List Value)(lo hi:Option Int):slicePick its.toArray lo hi none=((its.drop (HT.sIx its.length 0 lo)).take (HT.sIx its.length its.length hi-HT.sIx its.length 0 lo)).toArray:=by
 obtain ⟨h1,h2,j⟩:=Wb lo hi its.toArray.size;unfold slicePick;rw [h1,h2,j];simp only [sliceRange_one,pick_run,Yas] <;> rfl
noncomputable def ZgK (K:W.Frag):V->Option Int->Option Int->Hp->VK->Prop:=λx lo hi H Q=>∃a xs,x=.ref a/\SqL K H a xs/\∀p,H p=none->Q (.ref p) (upd H p (.lst (Xi xs lo hi)))
theorem Zcv:SlR X (ZgK X.K):=by
 intro qQ s σ H x v Z vu lo hi sl Q I B D pl L h;obtain ⟨a,xs,rfl,O,q⟩:=h;cases B;obtain ⟨its,r,j,U⟩:=I.list O;have Y:=r.length;refine ⟨"list", _,slot_list_getitem.lookup,j.isList.typeIs,?_⟩;refine wpAny_getItem_list_slice j.isList D pl L .none (by simp) ?_ (by rw [Yas] <;> lia);rw [Vq,<-Y];refine ⟨.ref s.heap.objs.size,_,I.laid (t':=s.toks) (o:=.lst (Xi xs lo hi)) (λb ob q=>Yan _ q) (Yad _) ?_,rfl,q _ (I.hok.fresh (Yad _))⟩;exact ⟨Yca (Uu xs lo hi) U,_,0,(r.drop (HT.sIx xs.length 0 lo)).take (HT.sIx xs.length xs.length hi-HT.sIx xs.length 0 lo),Ybj _ rfl⟩
noncomputable def Vr:V->Bool
 | .non=>true
 | .bl _=>true
 | .int _=>true
 | .str _=>true
 | _=>false
noncomputable def eqV:V->V->Bool
 | .non,.non=>true
 | .bl a,.bl b=>a == b
 | .bl a,.int b=>(if a then 1 else 0) == b
 | .int a,.bl b=>a == (if b then 1 else 0)
 | .int a,.int b=>a == b
 | .str a,.str b=>a == b
 | _,_=>false
theorem Zd0 {A:Around}{s:Shared}{y x:V}{u v:Value}(D:RelV y u)(j:RelV x v)(L:Vr y=true)(fx:Vr x=true):SeqAt.EqAt A s u v (eqV y x):=by
 cases y with
 | non=>
  cases D;cases x with
  | non=>cases j;exact SeqAt.EqAt.same _
  | bl b=>cases j;exact SeqAt.EqAt.none_bool b
  | int b=>obtain ⟨t,rfl⟩:=j;exact SeqAt.EqAt.none_int b t
  | str b=>obtain ⟨t,rfl⟩:=j;exact SeqAt.EqAt.none_str b t
  | _=>exact absurd (show false=true from fx) Yar
 | bl a=>
  cases D;cases x with
  | non=>cases j;exact SeqAt.EqAt.bool_none a
  | bl b=>cases j;exact SeqAt.EqAt.bool_bool a b
  | int b=>obtain ⟨t,rfl⟩:=j;exact SeqAt.EqAt.bool_int a b t
  | str b=>obtain ⟨t,rfl⟩:=j;exact SeqAt.EqAt.bool_str a b t
  | _=>exact absurd (show false=true from fx) Yar
 | int a=>
  obtain ⟨B,rfl⟩:=D;cases x with
  | non=>cases j;exact SeqAt.EqAt.int_none a B
  | bl b=>cases j;exact SeqAt.EqAt.int_bool a B b
  | int b=>obtain ⟨t,rfl⟩:=j;exact SeqAt.EqAt.int_int a B b t
  | str b=>obtain ⟨t,rfl⟩:=j;exact SeqAt.EqAt.int_str a B b t
  | _=>exact absurd (show false=true from fx) Yar
 | str a=>
  obtain ⟨B,rfl⟩:=D;cases x with
  | non=>cases j;exact SeqAt.EqAt.str_none a B
  | bl b=>cases j;exact SeqAt.EqAt.str_bool a B b
  | int b=>obtain ⟨t,rfl⟩:=j;exact SeqAt.EqAt.str_int a B b t
  | str b=>obtain ⟨t,rfl⟩:=j;exact SeqAt.EqAt.str_str a B b t
  | _=>exact absurd (show false=true from fx) Yar
 | _=>exact absurd (show false=true from L) Yar
noncomputable def eqU (x:V)(u:Value):Bool:=match u with
 | .none=>eqV .non x
 | .bool b=>eqV (.bl b) x
 | .int i _=>eqV (.int i) x
 | .str z _=>eqV (.str z) x
 | _=>false
theorem ZbM {x y:V}{u:Value}(r:RelV y u)(f:Vr y=true):eqU x u=eqV y x:=by
 cases y with
 | non=>cases r;rfl
 | bl b=>cases r;rfl
 | int i=>obtain ⟨t,rfl⟩:=r;rfl
 | str z=>obtain ⟨t,rfl⟩:=r;rfl
 | _=>exact absurd (show false=true from f) Yar
theorem WM {x:V}:∀{xs:List V}{us:List Value},Vals xs us->xs.all Vr=true->us.any (eqU x)=xs.any λy=>eqV y x
 | _,_,.nil,_=>rfl
 | y::xs,u::us,.cons r t,f=>by
  rw [List.all_cons,Ycc] at f;rw [List.any_cons,List.any_cons,ZbM r f.1,WM t f.2]
theorem Vs {A:Around}{s:Shared}{x:V}{v:Value}(rx:RelV x v)(fx:Vr x=true):∀{xs:List V}{us:List Value},Vals xs us->xs.all Vr=true->∀u∈us,SeqAt.EqAt A s u v (eqU x u)
 | _,_,.nil,_=>λu hu=>by cases hu
 | y::xs,u::us,.cons r t,f=>λu' hu=>by
  rw [List.all_cons,Ycc] at f;rcases Yau.mp hu with rfl | hu
  ·rw [ZbM r f.1];exact Zd0 r rx f.1 fx
  ·exact Vs rx fx t f.2 u' hu
noncomputable def inV (x:V)(xs:List V):Bool:=xs.any λy=>eqV y x
noncomputable def rIn (K:W.Frag)(j:Bool):R2:=λx y H Q=>∃p xs,y=.ref p/\(SqL K H p xs\/SqT K H p xs)/\Vr x=true/\xs.all Vr=true/\Q (.bl (if j then !inV x xs else inV x xs)) H
theorem Wc:OpR X (compareOp .NotIn) (rIn X.K true):=by
 intro qQ s σ H x y v u Q I D L h;obtain ⟨p,xs,rfl,j,fx,fs,q⟩:=h;cases L;rcases j with j | j
 ·obtain ⟨its,r,pl,O⟩:=I.list j;refine SeqAt.notIn_listAt (eqU x) pl.isList (λw B=>Vs D fx r fs w (by simpa using B)) ⟨.bl _,H,I,rfl,?_⟩;rw [show its.toArray.any (eqU x)=its.any (eqU x) by simp,WM r fs];exact q
 ·obtain ⟨its,r,pl,O⟩:=I.tuple j;refine SeqAt.notIn_tupleAt (eqU x) pl (λw B=>Vs D fx r fs w (by simpa using B)) ⟨.bl _,H,I,rfl,?_⟩;rw [show its.toArray.any (eqU x)=its.any (eqU x) by simp,WM r fs];exact q
theorem Wd:Oi X (.builtin "len") (λxs H Q=>∃p ys,xs=[.ref p]/\(SqL X.K H p ys\/SqT X.K H p ys)/\Q (.int ys.length) H):=by
 intro qQ s σ H xs us Q I r h;obtain ⟨p,ys,rfl,j,q⟩:=h;obtain ⟨u,rfl,D⟩:=YV r;cases D;have O:=V4;rcases j with j | j
 ·obtain ⟨its,r',pl,L⟩:=I.list j;have B:=r'.length;exact Calls.call_len_list pl.isList (by simp only [Yas] <;> lia) ⟨.int ys.length,H,I.tok _,⟨s.toks+1,by rw [Yas,B]⟩,q⟩
 ·obtain ⟨its,r',pl,L⟩:=I.tuple j;have B:=r'.length;exact len_tuple pl (by simp only [Yas] <;> lia) ⟨.int ys.length,H,I.tok _,⟨s.toks+1,by rw [Yas,B]⟩,q⟩
theorem We:Oi X (.type "list") (λxs H Q=>∃p ys,xs=[.ref p]/\(SqL X.K H p ys\/SqT X.K H p ys)/\∀l,H l=none->Q (.ref l) (upd H l (.lst ys))):=by
 intro qQ s σ H xs us Q I r h;obtain ⟨p,ys,rfl,j,q⟩:=h;obtain ⟨u,rfl,U⟩:=YV r;cases U;have fin:∀(its:List Value),Vals ys its->ys.length<=sizeLine->∀(h':Heap)(c':Nat),(∀b o',s.heap.get? b=some o'->h'.get? b=some o') ->
   h'.get? s.heap.objs.size=some { cls:=.type "list", dict:=none,data:=.seq its.toArray c',slots:=#[] }->EP X qQ σ Q (.ref s.heap.objs.size) { s with heap:=h' }:=λits r' B h' c' D e=>
  ⟨.ref s.heap.objs.size,_,I.laid (t':=s.toks) D (Yad _) (show ObjOk X.prog X.w _ h' _ (.lst ys) from ⟨B,its,c',r',e⟩),rfl,q _ (I.hok.fresh (Yad _))⟩
 rcases j with j | j
 ·obtain ⟨its,r',pl,B⟩:=I.list j;have Y:=r'.length;obtain ⟨o,L,O,n,hd⟩:=pl.isList;exact call_list_seq p (.inl rfl) L O hd (λh' c' D e=>fin its r' B h' c' D e) (by simp only [Yas] <;> lia)
 ·obtain ⟨its,r',pl,B⟩:=I.tuple j;have Y:=r'.length;obtain ⟨o,L,O,n,hd⟩:=pl;exact call_list_seq p (.inr rfl) L O hd (λh' c' D e=>fin its r' B h' c' D e) (by simp only [Yas] <;> lia)
theorem Vt:Oi X (.type "tuple") (λxs H Q=>∃p ys,xs=[.ref p]/\((SqL X.K H p ys/\∀l,H l=none->Q (.ref l) (upd H l (.tup ys)))\/(SqT X.K H p ys/\Q (.ref p) H))):=by
 intro qQ s σ H xs us Q I r h;obtain ⟨p,ys,rfl,h⟩:=h;obtain ⟨u,rfl,L⟩:=YV r;cases L;rcases h with ⟨j,q⟩ | ⟨j,q⟩
 ·obtain ⟨its,r',pl,B⟩:=I.list j;have Y:=r'.length;refine call_tuple_list pl.isList (λh' O=>?_) (by simp only [Yas] <;> lia);have D:Inv X qQ σ H { s with heap:=h' }:=I.kept (t':=s.toks) O;have U:Inv X qQ σ (upd H h'.objs.size (.tup ys)) { s with heap:=h'.push { cls:=.type "tuple", data:=.seq its.toArray } }:=
   D.laid (t':=s.toks) (λb o e=>Yan _ e) (Yad _) (show ObjOk X.prog X.w _ _ _ (.tup ys) from ⟨B,its,r',IsTup.new _ _⟩)
  exact ⟨.ref h'.objs.size,_,U,rfl,q _ (D.hok.fresh (Yad _))⟩
 ·obtain ⟨its,r',pl,B⟩:=I.tuple j;exact call_tuple_same pl ⟨.ref p,H,I,rfl,q⟩
noncomputable def tyV (K:W.Frag)(T:String)(x:V)(H:Hp):Prop:=match x with
 | .str _=>T = "str"
 | .int _=>T = "int"
 | .ref p=>(T = "list" /\ ∃xs,SqL K H p xs)\/(T = "tuple" /\ ∃o,K.lookup p=some o/\o.cls=.type "tuple" /\ o.dict=none) \/
   (T = "dict" /\ ((∃kvs,H p=some (.dK kvs))\/∃kvs,H p=some (.dT kvs)))\/(T = "set" /\ ∃S n,H p=some (.set S n))
 | _=>False
theorem ZbN {qQ:List (Addr×Obj)}{σ:St}{H:Hp}{s:Shared}{T:String}{x:V}{v:Value}(I:Inv X qQ σ H s)(r:RelV x v)(ty:tyV X.K T x H) :
  s.TypeIs v T/\∀a,v=.ref a->∃D,s.heap.get? a=some D/\D.dict=none:=by
 cases x with
 | str z=>
  obtain ⟨t,rfl⟩:=r;cases (show T = "str" from ty);exact ⟨typeIs_str s z t,λ_ e=>nomatch e⟩
 | int i=>
  obtain ⟨t,rfl⟩:=r;cases (show T = "int" from ty);exact ⟨typeIs_int s i t,λ_ e=>nomatch e⟩
 | ref p=>
  cases r;rcases ty with ⟨rfl,xs,L⟩ | ⟨rfl,o,j,O,hd⟩ | ⟨rfl,j⟩ | ⟨rfl,S,n,j⟩
  ·obtain ⟨its,_,pl,_⟩:=I.list L;refine ⟨pl.isList.typeIs,λa e=>?_⟩;cases e;obtain ⟨o,n,e,c,hd,_⟩:=pl;exact ⟨o,e,hd⟩
  ·refine ⟨⟨o,I.kIn p o j,O⟩,λa e=>?_⟩;cases e;exact ⟨o,I.kIn _ o j,hd⟩
  ·have z:∃o,s.heap.get? p=some o/\o.ExactDict:=by
    rcases j with ⟨kvs,j⟩ | ⟨kvs,j⟩
    ·obtain ⟨_,_,_,_,o,_,_,e,ex,_⟩:=I.hok p _ j;exact ⟨o,e,ex⟩
    ·obtain ⟨_,_,_,_,o,_,_,e,ex,_⟩:=I.hok p _ j;exact ⟨o,e,ex⟩
   obtain ⟨o,e,ex⟩:=z;refine ⟨⟨o,e,ex.1⟩,λa B=>?_⟩;cases B;exact ⟨o,e,ex.2.1⟩
  ·obtain ⟨o,_,_,_,e,ex,_⟩:=I.hok p _ j;refine ⟨⟨o,e,ex.1⟩,λa B=>?_⟩;cases B;exact ⟨o,e,ex.2.1⟩
 | _=>exact False.elim ty
noncomputable def Zg6 (K:W.Frag)(T:String)(r:V->List V->Hp->VK->Prop)(to:TE):TE:=λσ H Q=>to σ H λx H1=>tyV K T x H1/\r x [] H1 Q
noncomputable def tBM (K:W.Frag)(T:String)(r:V->List V->Hp->VK->Prop)(to:TE)(t:TA):TE:=λσ H Q=>to σ H λx H1=>tyV K T x H1/\t σ H1 λxs H2=>r x xs H2 Q
variable {o e:Expr}{es:List Expr}{to:TE}{t:TA}{name:Str}{apos qK:Pos}{T id:String}{r:V->List V->Hp->VK->Prop}
theorem Zd1 (Y:PlainAttrs T)(D:Slot T name id)(L:typeOf (.builtin id)=pure (.type "method_descriptor"))(Z:MtR X id r)(ho:PE X o to)(j:attributeBase o name X.env (eval o X.env)=eval o X.env:=by rfl)(B:(apos.endLine == qK.line)=true:=by rfl):PE X (.Call (.Attribute o name apos) [] [] qK) (Zg6 X.K T r to):=by
 intro qQ s σ H Q I h;refine wpAny_Call_method0_late j B (thG (ho qQ s σ H _ I h) λv s1 x H1 O U ⟨ty,q1⟩=>?_);obtain ⟨h1,h2⟩:=ZbN O U ty;exact ⟨T,id,Y,D,L,h1,h2,Calls.callWith_builtin rfl (PySem.evalArgs_none (Z qQ s1 σ H1 x [] v [] Q O U .nil q1))⟩
theorem Oq (pa:PlainAttrs T)(L:Slot T name id)(U:typeOf (.builtin id)=pure (.type "method_descriptor"))(hm:MtR X id r)(ho:PE X o to)(ha:PA X (e::es) t)(B:attributeBase o name X.env (eval o X.env)=eval o X.env:=by rfl)(O:((backTo qK (starEach (e::es) X.env)).all (λx=>!x.1) && (backToKw qK (keywordEach [] X.env)).all (λx=>x.1.isSome)
   && decide ((e::es).length+([]:List Keyword).length+(if ([]:List Keyword).isEmpty then 0 else 1)<30))=true:=by rfl)(D:(apos.endLine == qK.line)=true:=by rfl)(hs:starEach (e::es) X.env=(false,eval e X.env)::starEach es X.env:=by rfl)(j:(backTo qK (starEach es X.env)).any (·.1)=false:=by rfl) :
  PE X (.Call (.Attribute o name apos) (e::es) [] qK) (tBM X.K T r to t):=by
 intro qQ s σ H Q I h;refine wpAny_Call_method_late B O D rfl (thG (ho qQ s σ H _ I h) λv s1 x H1 Y Z ⟨ty,q1⟩=>?_);obtain ⟨h1,h2⟩:=ZbN Y Z ty;refine ⟨T,id,pa,L,U,h1,h2,?_⟩;have hA:=ha qK qQ s1 σ H1 _ Y q1;rw [hs] at hA ⊢;refine Calls.callWith_builtin (by show (false || (backTo qK (starEach es X.env)).any (·.1))=false;rw [j] <;> rfl) (Calls.evalArgs_plain ?_);exact thn hA λus s2 ⟨vs,H2,I2,r2,q2⟩=>hm qQ s2 σ H2 x vs v us Q I2 Z r2 q2
end
noncomputable def MtM (X:Cx)(id:String)(r:V->List V->Hp->VK->Prop):Prop:=
 ∀(qQ:List (Addr×Obj))(s:Shared)(σ:St)(H:Hp)(x:V)(xs:List V)(v:Value)(us:List Value)(Q:VK),Inv X qQ σ H s->RelV x v->Vals xs us->r x xs H Q ->
  wpAny (model X.prog X.w) X.A (call (.builtin id) (v::us)) (EP X qQ σ Q) X.xe s
theorem Vals.one {x:V}{us:List Value}(h:Vals [x] us):∃u,us=[u]/\RelV x u:=by
 cases h with
 | cons r t=>cases t;exact ⟨_,rfl,r⟩
theorem Vals.two {x y:V}{us:List Value}(h:Vals [x,y] us):∃u v,us=[u,v]/\RelV x u/\RelV y v:=by
 cases h with
 | cons r t=>obtain ⟨u,rfl,q⟩:=Vals.one t;exact ⟨_,_,rfl,r,q⟩
theorem Vals.zero:∀{us:List Value},Vals [] us->us=[]
 | _,.nil=>rfl
theorem Vals.dropLast {xs:List V}{us:List Value}(h:Vals xs us):Vals xs.dropLast us.dropLast:=by
 induction h with
 | nil=>exact .nil
 | cons r t ih=>
  cases t with
  | nil=>exact .nil
  | cons q t'=>exact .cons r ih
theorem Vals.rep {xs:List V}{us:List Value}(h:Vals xs us):∀k:Nat,Vals (List.replicate k xs).flatten (List.replicate k us).flatten
 | 0=>.nil
 | k+1=>by
  rw [Yeg,Yeg,List.flatten_cons,List.flatten_cons];exact Vals.append h (Vals.rep h k)
theorem Yj {α:Type}(l:List α):l.eraseIdx (l.length-1)=l.dropLast:=by
 induction l with
 | nil=>rfl
 | cons a r ih=>
  cases r with
  | nil=>rfl
  | cons b r=>
   have e:(a::b::r).length-1=((b::r).length-1)+1:=by
    have h1:(a::b::r).length=r.length+2:=rfl;have h2:(b::r).length=r.length+1:=rfl
    lia
   rw [e,List.eraseIdx_cons_succ,ih]
   all_goals rfl
theorem Wf (its:List Value):∀(k:Nat)(acc:List Value),
  List.foldl (λj B=>j++B) acc.toArray (List.replicate k its.toArray)=(acc++(List.replicate k its).flatten).toArray
 | 0,acc=>by simp
 | k+1,acc=>by
  have e:acc.toArray++its.toArray=(acc++its).toArray:=by simp
  have D:(acc++its)++(List.replicate k its).flatten=acc++(List.replicate (k+1) its).flatten:=by
   rw [Yeg,List.flatten_cons,Ybg]
  rw [<-D,<-Wf its k (acc++its),<-e,Yeg,List.foldl_cons]
section
variable {X:Cx}{qQ:List (Addr×Obj)}{σ:St}{H:Hp}{s:Shared}{l b:Addr}{xs ys zs:List V}
theorem Inv.lset {its its':List Value}{n:Nat}{f:Array Value->Array Value}{t':Nat}(I:Inv X qQ σ H s)(j:H l=some (.lst xs))(e:s.heap.get? l=some { cls:=.type "list", data:=.seq its.toArray n })(B:f its.toArray=its'.toArray)(D:Vals ys its')(hz:ys.length<=sizeLine) :
  Inv X qQ σ (upd H l (.lst ys)) { s with heap:=s.heap.update l (Obj.mapSeq f),toks:=t' }:=by
 have q:=PySem.IsL.update e f;rw [B] at q;refine I.write (x:=l) (e:=l) (by rw [j];exact trivial) (.inl rfl) (λU u L O=>(Ydx s.heap (Obj.mapSeq f) (Ne.symm L)).trans O) ⟨_,q⟩ ?_;exact ⟨hz,its',_,D,q⟩
theorem Inv.lnew {its:List Value}{t':Nat}(I:Inv X qQ σ H s)(j:Vals ys its)(hz:ys.length<=sizeLine) :
  Inv X qQ σ (upd H s.heap.objs.size (.lst ys)) { s with heap:=s.heap.push { cls:=.type "list", data:=.seq its.toArray },toks:=t' }:=
 I.laid (λ_ _ q=>Yan _ q) (Yad _) ⟨hz,its,0,j,Ybj _ rfl⟩
theorem Inv.fresh (I:Inv X qQ σ H s):H s.heap.objs.size=none:=I.hok.fresh (Yad _)
theorem Inv.lstM (I:Inv X qQ σ H s)(j:H l=some (.lst xs)):xs.length<=sizeLine/\∃(its:List Value)(n:Nat),Vals xs its/\xs.length=its.length/\s.heap.get? l=some { cls:=.type "list", data:=.seq its.toArray n }:=by
 obtain ⟨z,its,n,r,e⟩:=I.hok l _ j;exact ⟨z,its,n,r,r.length,e⟩
theorem Xk {n:Nat}(h:n<=sizeLine):Builtin.List.listTooLong n=false:=by
 unfold Builtin.List.listTooLong;exact Ybx (by lia)
end
section
variable {X:Cx}
noncomputable def Zcw:V->List V->Hp->VK->Prop:=λx vs H Q=>∃l xs y,x=.ref l/\vs=[y]/\H l=some (.lst xs)/\xs.length<sizeLine/\Q .non (upd H l (.lst (xs++[y])))
theorem GQ:MtM X "list.append" Zcw:=by
 intro qQ s σ H x vs v us Q I B D h;obtain ⟨l,xs,y,rfl,rfl,j,L,q⟩:=h;cases B;obtain ⟨u,rfl,ru⟩:=D.one;obtain ⟨z,its,n,r,O,e⟩:=I.lstM j;refine call_meets F.slot_list_append ⟨_,e,rfl⟩ F.entry_list_append (F.args_list_append_2 _ _) (PySem.list_append l its.toArray n u (by rw [Yas];lia)) ⟨e,?_⟩;refine ⟨.non,_,I.lset (its':=its++[u]) j e (by simp) (r.append (.cons ru .nil)) ?_,rfl,q⟩;rw [Yae,Yap]
 lia
noncomputable def Zg7:V->List V->Hp->VK->Prop:=λx vs H Q=>∃l xs y,x=.ref l/\vs=[]/\H l=some (.lst xs)/\xs[xs.length-1]?=some y/\Q y (upd H l (.lst xs.dropLast))
theorem Zd2:MtM X "list.pop" Zg7:=by
 intro qQ s σ H x vs v us Q I L O h;obtain ⟨l,xs,y,rfl,rfl,D,U,q⟩:=h;cases L;have j:=O.zero;subst j;obtain ⟨z,its,n,r,Y,e⟩:=I.lstM D;obtain ⟨u,Z,ru⟩:=r.get U;have B:its.toArray[its.toArray.size-1]?=some u:=by
  show its.toArray[its.length-1]?=some u;rw [<-Ybw,<-Y];exact Z
 refine call_meets F.slot_list_pop ⟨_,e,rfl⟩ F.entry_list_pop (F.args_list_pop_1 _) (MeetsSeq.list_pop_last l its.toArray n u B (by rw [Yas];lia)) ⟨e,?_⟩;refine ⟨y,_,I.lset (its':=its.dropLast) D e ?_ r.dropLast ?_,ru,q⟩
 ·show its.toArray.eraseIdxIfInBounds (its.toArray.size-1)=its.dropLast.toArray;rw [Yas,List.eraseIdxIfInBounds_toArray,Yj]
 ·rw [List.length_dropLast]
  lia
noncomputable def Zg8:R2:=λx y H Q=>∃l b xs zs,x=.ref l/\y=.ref b/\H l=some (.lst xs)/\H b=some (.lst zs)/\xs.length+zs.length<=sizeLine/\∀p,H p=none->Q (.ref p) (upd H p (.lst (xs++zs)))
theorem Uv:OpR X (binaryOp .Add) Zg8:=by
 intro qQ s σ H x y v u Q I B D h;obtain ⟨l,b,xs,zs,rfl,rfl,L,O,hz,q⟩:=h;cases B;cases D;obtain ⟨z,its,n,r,hl,e⟩:=I.lstM L;obtain ⟨z2,j,n2,U,Y,Z⟩:=I.lstM O;refine PySem.P.add_list e Z ?_ (by rw [Yas,Yas];lia);have ea:its.toArray++j.toArray=(its++j).toArray:=by simp
 rw [ea];exact ⟨.ref _,_,I.lnew (t':=s.toks) (r.append U) (by rw [Yae];lia),rfl,q _ I.fresh⟩
noncomputable def Zg9:R2:=λx y H Q=>∃l k xs,x=.ref l/\y=.int k/\H l=some (.lst xs)/\-(2 ^ 63)<=k/\k<2 ^ 63/\xs.length * k.toNat<=sizeLine /\
 ∀p,H p=none->Q (.ref p) (upd H p (.lst (List.replicate k.toNat xs).flatten))
theorem Zcx {α:Type}(xs:List α)(k:Nat):(List.replicate k xs).flatten.length=k * xs.length:=by
 induction k with
 | zero=>simp
 | succ k ih=>rw [Yeg,List.flatten_cons,Yae,ih,Nat.succ_mul,Nat.add_comm]
theorem Za:OpR X (binaryOp .Mult) Zg9:=by
 intro qQ s σ H x y v u Q I rx ry h;obtain ⟨l,k,xs,rfl,rfl,hH,h1,h2,Z,q⟩:=h;cases rx;obtain ⟨t,rfl⟩:=ry;obtain ⟨z,its,n,r,hl,e⟩:=I.lstM hH;have qV:its.toArray.size * k.toNat<=sizeLine:=by rw [Yas,<-hl];exact Z
 have B:¬ its.toArray.size * k.toNat > (2 ^ 63-1) / 8:=by
  have:(sizeLine:Nat)<=(2 ^ 63-1) / 8:=by decide
  lia
 have D:¬ (!Builtin.List.listFitsIndex k)=true:=by
  rw [fitsIndex_both h1 h2];exact Yar
 have j:¬ Builtin.List.listTooLong (its.toArray.size * k.toNat)=true:=by
  rw [Xk qV];exact Yar
 have L:List.foldl (λO Y=>O++Y) #[] (List.replicate (if its.toArray.isEmpty=true then 0 else k.toNat) its.toArray)=(List.replicate k.toNat its).flatten.toArray:=by
  have f0:∀m:Nat,List.foldl (λO Y=>O++Y) #[] (List.replicate m its.toArray)=(List.replicate m its).flatten.toArray:=λm=>by
   have:=Wf its m [];rw [List.nil_append] at this;exact this
  rw [f0];cases its with
  | nil=>simp
  | cons a r'=>rw [if_neg (by simp)]
 refine wpAny_binaryOp_repeat_ref (T := "list") (U := "int") (by decide) ⟨_,e,rfl⟩ (λs'=>typeIs_int s' k t) noFill_list_mul F.fills_int_mul F.slot_int_rmul repeat_list F.slot_int_index.lookup
  (call_meets F.slot_int_rmul (typeIs_int s k t) F.entry_int_rmul (F.args_int_rmul_2 _ _) (int___rmul___int_list k t l its.toArray n)
   ⟨e,rfl,⟨_,e,rfl⟩,call_meets F.slot_list_mul ⟨_,e,rfl⟩ F.entry_list_mul (F.args_list_mul_2 _ _) (AutoListH.list___mul___list_int_3 l its.toArray n k t D B j) ⟨e,?_⟩⟩)
 rw [L];exact ⟨.ref _,_,I.lnew (t':=s.toks) (r.rep k.toNat) (by rw [Zcx,Nat.mul_comm];exact Z),rfl,q _ I.fresh⟩
end
end L2
namespace Att
open PySem PySem.W PySem.Calls PyProof.Rows
theorem Uw {P:Params}{h:Heap}:∀(ns:List Int)(vs:List Value),WellAll P h vs (ns.map WData.int)->IntsAre vs ns:=by
 intro ns
 induction ns with
 | nil=>
  intro vs w;rw [List.map_nil] at w;cases w;exact .nil
 | cons n ns ih=>
  intro vs w;rw [Yaq] at w;cases w with
  | cons a b=>
   cases a;exact .cons _ _ (ih _ b)
theorem Zb {l:OpenLaw}{n:Nat}(Z:l.most=some n){P:Params}{h:Heap}{args:List WData}{j:List Value}(B:l.row.toRowW.claim.pre args=true)(O:WellAll P h j args) :
  ∃a vs ns,j=[Value.ref a]/\args=[WData.list (ns.map WData.int)]/\h.get? a=some { cls:=.type "list", data:=.seq vs.toArray }/\IntsAre vs ns/\ns.length<=n:=by
 have U:WShape.hasAll [] args [.list .int]=true:=(pre_splitW B).1;have Y:l.pre.holds [] { args:=args }=true:=(pre_splitW B).2;obtain ⟨d,r,rfl,h1,h2⟩:=hasAllW_cons U;obtain rfl:=hasAllW_nil h2;obtain ⟨xs,rfl,h3⟩:=hasW_list h1;obtain ⟨ns,rfl⟩:=items_int h3;have qV:ns.length<=n:=by
  unfold OpenLaw.pre at Y;have D:(WTm.not (.lt (.lit (.int (n:Int))) (.len (.arg 0)))).holds [] { args:=[.list (ns.map .int)] }=true:=by
   have D:=(holds_andW Y).1;rw [Z] at D;exact D
  have L:=condW_of D (w_not (w_lt w_lit (w_len_list (w_arg rfl))));rw [Yab] at L;refine Nat.le_of_not_lt λq=>?_;have q':(n:Int)<((ns.length:Nat):Int):=by lia
  first
   | (rw [Ybm q'] at L;exact absurd L (by decide))
   | (simp at L;lia)
 cases O with
 | cons w1 w2=>
  cases w2;cases w1 with
  | list ho qY=>exact ⟨_,_,ns,rfl,rfl,ho,Uw ns _ qY,qV⟩
theorem Zc (l:OpenLaw)(args:List WData):l.row.toRowW.claim.post args (.bool true) args=true:=
 postW_of (r:=l.row.toRowW) (X:=(true == true))
  (show WShape.has [] (.bool true) .bool=true by first | rfl | decide | simp [WShape.has,WShape.arms,WShape.armsAll])
  (show (WTm.eq .res (.lit (.bool true))).value [] { args:=args,res:=some (.bool true),after:=args }=some (.bool (true == true)) from w_eq_bool (w_res rfl) w_lit) rfl
theorem attach_call {l:OpenLaw}{n:Nat}{q:Program}{j:List Str}{XP:(Str->Option Value)->Heap->Prop}{YP:World->Heap->Prop}{d:DefRec}(hn:l.most=some n)(O:d.params.defaults=[])(call:∀(w:World)(s₀ s₁:Shared)(mg mb:Str->Option Value)(fa:Addr)(o:Obj)(pm cd doc:Value)(a:Addr)(vs:List Value)(ns:List Int),
   Ground q j [] XP w s₀ mg mb s₁.heap->YP w s₁.heap ->
   s₁.heap.get? fa=some o->o.data=.func (docDef d.name d.params d.body d.scope pm cd doc)->s₁.heap.CodeRec cd d.name->mg d.name=some (.ref fa) ->
   s₁.heap.get? a=some { cls:=.type "list", data:=.seq vs.toArray }->IntsAre vs ns->ns.length<=n->s₁.gens=#[] ->
   codeAny (model l.prog w) callerA (.call (.ref fa) ⟨[.ref a],[]⟩) (λr s'=>r=.ok (.ret (.bool true))/\OldK s₁.heap s'.heap/\s'.os=s₁.os/\AllBare s'.gens) s₁) :
  WalkO q j XP YP l.row.toRowW d [] (λf vs=>PySem.call f vs):=by
 intro w s₀ s₁ mg mb G Y fa o pm cd doc dV kV ho hd U hD Z hg ab ac as D ad ae aa af;obtain rfl:dV=.none:=Dflts.none hD O;obtain rfl:kV=.none:=Dflts.noKw hD;obtain ⟨a,vs,ns,rfl,rfl,L,B,qV⟩:=Zb hn D aa;refine enter_call (codeAny_mono (call w s₀ s₁ mg mb fa o pm cd doc a vs ns G Y ho (fd_plain hd) U Z L B qV hg) λr s' hq=>?_);obtain ⟨rfl,h2,h3,h4⟩:=hq;exact ⟨.inl ⟨.bool true,.bool true,[],rfl,λ_=>rfl,.bool true,Zc l _,λ_=>⟨List.Pairwise.nil,λ_ hm=>(nomatch hm)⟩⟩,h2,h3,h4⟩
end Att
namespace L2
open PySem PySem.Spec PyProof.Rows
theorem Wg:∀{vs:List Value}{ns:List Int},IntsAre vs ns->Vals (ns.map V.int) vs
 | _,_,.nil=>.nil
 | _,_,.cons n t h=>.cons ⟨t,rfl⟩ (Wg h)
noncomputable def Zd (s:Stmt)(j:Nat):Stmt:=match s with
 | .ClassDef _ _ _ body _ _ _ _ _ _ _=>body.getD j (.Pass ⟨0,0,0,0⟩)
 | _=>.Pass ⟨0,0,0,0⟩
noncomputable def Ja (s:Stmt):Arguments:=match s with
 | .FunctionDef _ a _ _ _ _ _ _ _ _=>a
 | _=>{ posonlyargs:=[],args:=[],vararg:=none,kwonlyargs:=[],kw_defaults:=[],kwarg:=none,defaults:=[] }
noncomputable def GM (s:Stmt):List Stmt:=match s with
 | .FunctionDef _ _ b _ _ _ _ _ _ _=>b
 | _=>[]
noncomputable def Gh (s:Stmt):Scope:=match s with
 | .FunctionDef _ _ _ _ _ _ sc _ _ _=>sc
 | _=>{ kind:=.function,names:=[],isGenerator:=false,isCoroutine:=false }
noncomputable abbrev CX0:CXT:=λ_ _ _ _ _ _=>False
noncomputable abbrev E0:XK:=λ_ _ _=>False
theorem Gv {X:Cx}:Ol CX0 X E0:=λ_ _ _ _ _ _ _ h=>h.elim
structure Fun (K:W.Frag)(x qual:Str)(st:Stmt)(f:Addr)(fd:FuncData):Prop where
 ex:∃(oc:Value)(od:Option Addr)(kV doc pm:Value)(an:Option Addr)(cdv ct:Value)(osl:Array (Option Value)),
  fd=W.fnOf x qual (Ja st) (GM st) (Gh st) .none kV doc pm an cdv ct/\K.lookup f=some ⟨oc,od,.func fd,osl⟩/\W.codeIn K cdv qual=true
 kp:W.keepIn K (.ref f)=true
section
variable {P:Program}{w:World}{K:W.Frag}{mg:Str->Option Value}{base:Heap}
theorem Zha {α:Type}{l:List α}(h:l.length=0):l=[]:=List.length_eq_zero_iff.mp h
theorem Zcy {α:Type}{l:List α}{n:Nat}(h:l.length=n+1):∃a t,l=a::t/\t.length=n:=by
 cases l with
 | nil=>cases h
 | cons a t=>exact ⟨a,t,rfl,by simpa using h⟩
theorem Zdy {α:Type}{l:List α}(h:l.length=1):∃a,l=[a]:=by
 obtain ⟨a,t,rfl,g⟩:=Zcy h;exact ⟨a,by rw [Zha g]⟩
theorem WN {α:Type}{l:List α}(h:l.length=2):∃B j,l=[B,j]:=by
 obtain ⟨a,t,rfl,g⟩:=Zcy h;obtain ⟨j,rfl⟩:=Zdy g;exact ⟨a,j,rfl⟩
theorem Zdz {α:Type}{l:List α}(h:l.length=3):∃D j B,l=[D,j,B]:=by
 obtain ⟨a,t,rfl,g⟩:=Zcy h;obtain ⟨j,B,rfl⟩:=WN g;exact ⟨a,j,B,rfl⟩
theorem Zft {α:Type}{l:List α}(h:l.length=4):∃L j B D,l=[L,j,B,D]:=by
 obtain ⟨a,t,rfl,g⟩:=Zcy h;obtain ⟨j,B,D,rfl⟩:=Zdz g;exact ⟨a,j,B,D,rfl⟩
theorem Zhb {α:Type}{l:List α}(h:l.length=5):∃O j B D L,l=[O,j,B,D,L]:=by
 obtain ⟨a,t,rfl,g⟩:=Zcy h;obtain ⟨j,B,D,L,rfl⟩:=Zft g;exact ⟨a,j,B,D,L,rfl⟩
theorem Zhc {α:Type}{l:List α}(h:l.length=6):∃U j B D L O,l=[U,j,B,D,L,O]:=by
 obtain ⟨a,t,rfl,g⟩:=Zcy h;obtain ⟨j,B,D,L,O,rfl⟩:=Zhb g;exact ⟨a,j,B,D,L,O,rfl⟩
theorem Zhp {α:Type}{l:List α}(h:l.length=7):∃Y j B D L O U,l=[Y,j,B,D,L,O,U]:=by
 obtain ⟨a,t,rfl,g⟩:=Zcy h;obtain ⟨j,B,D,L,O,U,rfl⟩:=Zhc g;exact ⟨a,j,B,D,L,O,U,rfl⟩
theorem Fun.ok {x qual:Str}{st:Stmt}{f:Addr}{fd:FuncData}{N ps:List Str}{k:Nat}{sp:Sp}(F:Fun K x qual st f fd)(S:Gs N ps (Gh st))(len:∀vs H Q E,sp vs H Q E->vs.length=ps.length)(L:∀(j:Value)(A:Around)(outer:List Env)(s:Shared)(H:Hp)(vs:List V)(Q:VK)(E:XK),Room k (A.deeper (envOfC qual (Gh st) s.heap.objs.size f j))->sp vs H Q E ->
   ∃t,PSs (Ye CX0 P w K mg base N qual (Gh st) f j A outer s H E).nox (GM st) t/\t { nx:=λ_ H'=>Q .non H',rt:=Q } (start N vs) H):FnOk P w K mg base CX0 (k+1) f fd ps sp:=by
 obtain ⟨oc,od,kV,O,pm,an,j,ct,U,rfl,Y,B⟩:=F.ex;refine Y6 Y B S len λA outer s H vs Q E Z D=>?_;obtain ⟨t,h,q⟩:=L j A outer s H vs Q E Z D;exact ⟨t,h.nox,q⟩
theorem Fun.binds {x qual:Str}{st:Stmt}{f:Addr}{fd:FuncData}{ps:List Str}(F:Fun K x qual st f fd)(h:∀(kV j B:Value)(an:Option Addr)(cdv ct:Value)(us:List Value),us.length=ps.length->bindArgs (W.fnOf x qual (Ja st) (GM st) (Gh st) .none kV j B an cdv ct) ⟨us,[]⟩=pure (ps.zip us)):Binds K fd ps []:=by
 obtain ⟨O,U,kV,j,B,an,cdv,ct,D,rfl,Y,L⟩:=F.ex;exact .all (h kV j B an cdv ct)
theorem Ze {x qual:Str}{st:Stmt}{f:Addr}{O:Value}{U L:Option Addr}{D:Array (Option Value)}{kV B pm j ct:Value}(l:K.lookup f=some ⟨O,U,.func (W.fnOf x qual (Ja st) (GM st) (Gh st) .none kV B pm L j ct),D⟩)(c:W.codeIn K j qual=true)(k:W.keepIn K (.ref f)=true):Fun K x qual st f (W.fnOf x qual (Ja st) (GM st) (Gh st) .none kV B pm L j ct):=⟨⟨O,U,kV,B,pm,L,j,ct,D,rfl,l,c⟩,k⟩
end
section
variable {X:Cx}
theorem pv (i:Nat){x:Str}{pos:Pos}(B:X.N[i]?=some x:=by rfl)(D:Vis X.env.scope x:=by first | exact Or.inl rfl | exact Or.inr (Or.inl rfl) | exact Or.inr (Or.inr rfl))(hd:(x == ("__debug__" : Str))=false:=by decide)(j:(x == ("__classdict__" : Str))=false:=by decide):PE X (.Name x pos) (Zfr i):=ZdJ B D hd j
end
theorem Oj {A B:Prop}(h:B):if false=true then A else B:=by
 rw [if_neg Yar];exact h
theorem OW {A B:Prop}(h:A):if true=true then A else B:=by
 rw [if_pos rfl];exact h
theorem O7 {c A B:Prop}[Decidable c](h1:c->A)(h2:¬ c->B):if c then A else B:=by
 by_cases h:c
 ·rw [if_pos h];exact h1 h
 ·rw [if_neg h];exact h2 h
noncomputable def Same (H H':Hp):Prop:=∀b o,H b=some o->H' b=some o
theorem Same.refl (H:Hp):Same H H:=λ_ _ h=>h
theorem Same.trans {H H1 H2:Hp}(a:Same H H1)(b:Same H1 H2):Same H H2:=λc o h=>b c o (a c o h)
theorem Same.free {H H':Hp}(e:Same H H'){l:Addr}(h:H' l=Option.none):H l=Option.none:=by
 cases q:H l with
 | none=>rfl
 | some o=>
  rw [e l o q] at h;cases h
section
variable {prog:Program}{w:World}{A:Around}{R:Result->Shared->Prop}{s:Shared}
theorem Wh {elt qU iter:Expr}{ifs:List Expr}{scope:Scope}{pos:Pos}{L acc:Value}{env:Env}(I:Nat->Shared->Prop)(B:∀n s,I n s->wpAny (model prog w) A (pyNext L) (λr O=>match r with
   | none=>R (.ok .next) O
   | some v=>wpAny (model prog w) A (letOwnedTupleGo qU L v) (λ_ D=>wpAny (model prog w) A (assign qU env v) (λ_ Z=>
     wpAny (model prog w) A (forIn ifs true λc r=>if r=true then do let ok <- isTrue c env (eval c env);pure (ForInStep.yield ok) else pure (ForInStep.yield r)) (λok U=>
      if ok=true then wpAny (model prog w) A (eval elt env) (λx s4=>
       wpAny (model prog w) A (call (.builtin "list.append") [acc,x]) (λ_ s5=>∃m,m<n/\I m s5) (λ_ _=>False) s4) (λ_ _=>False) U
      else ∃m,m<n/\I m U) (λ_ _=>False) Z) (λ_ _=>False) D) (λ_ _=>False) O) (λ_ _=>False) s)(n:Nat)(h:I n s) :
  codeAny (model prog w) A (.compLoop (.ListComp elt [⟨qU,iter,ifs,0⟩] scope pos) 0 L acc env) R s:=by
 have j:∀{E:EX},∀(x:Value)(s:Shared),(λ(_:Value) (_:Shared)=>False) x s->E x s:=λ_ _ z=>False.elim z;refine codeAny_loop rfl I (λn s hI=>?_) n h;show wpAny _ A ((compTurn (.ListComp elt [⟨qU,iter,ifs,0⟩] scope pos) 0 L acc env).onRaise (λx=>do noteFrame x env;theTreesLotGoes x)) _ _ s;refine wpAny_noted ?_;rw [compTurn_list];refine Yaa (wpAny_standAt (Yaa (Ybp (B n s hI) (λr O h1=>?_) j)));cases r with
 | none=>exact Yah h1
 | some v=>
  refine Yaa (Ybp h1 (λ_ D Y=>?_) j);refine Yaa (Ybp Y (λ_ Z h2=>Yaa (Ybp h2 (λok U h3=>?_) j)) j);cases ok with
  | false=>exact Yah ⟨rfl,h3⟩
  | true=>
   exact Yaa (Yaa (Ybp h3 (λx s4 h4=>Yaa (Ybp h4 (λ_ s5 h5=>Yah (Yah ⟨rfl,h5⟩)) j)) j))
end
noncomputable def Cx.comp (X:Cx)(scope:Scope)(cl:List (Str×Addr))(N:List Str)(C:Addr)(s:Shared)(H:Hp)(fp:List Addr):Cx:=
 { X with N:=N,s₀:=s,H₀:=H,env:=compEnvC scope cl C X.env,outer:=X.stack,ex:=fp,fn:=λ_=>false,pn:=[],xe:=λ_ _=>False }
noncomputable def Zd3 (X:Cx)(ifs:List Expr)(t:TT):Prop:=
 ∀(qQ:List (Addr×Obj))(s:Shared)(σ:St)(H:Hp)(Q:Bool->Hp->Prop),Inv X qQ σ H s->t σ H Q ->
  wpAny (model X.prog X.w) X.A (forIn ifs true λc r=>if r=true then do let ok <- isTrue c X.env (eval c X.env);pure (ForInStep.yield ok) else pure (ForInStep.yield r)) (TP X qQ σ Q) X.xe s
noncomputable def ZdA:TT:=λ_ H Q=>Q true H
theorem Oz {X:Cx}:Zd3 X [] ZdA:=λ_ _ _ H _ I h=>wpAny_tests_nil ⟨H,I,h⟩
theorem Jb {X:Cx}{c:Expr}{t:TT}(h:PT X c t):Zd3 X [c] t:=λqQ s σ H Q I j=>wpAny_tests_one (h qQ s σ H Q I j)
structure JF (X:Cx)(scope:Scope)(cl:List (Str×Addr))(own:List Str)(fr:List (Str×Nat)):Prop where
 clos:closureFor scope X.env=pure cl
 nocell:∀y∈scope.names,y.2≠.cell
 kind:scope.kind=.function
 names:∀y∈scope.names,y.2=.local->scope.names.lookup y.1=some .local
 cls:∀y c,cl.lookup y=some c->X.env.cells.lookup y=some c
 has:∀y,((relabel scope X.env).names.lookup y=some .cell\/(relabel scope X.env).names.lookup y=some .free)->∃c,cl.lookup y=some c
 free:∀p∈fr,X.N[p.2]?=some p.1/\(X.env.kindOf p.1=some .cell\/X.env.kindOf p.1=some .free)/\((relabel scope X.env).names.lookup p.1=some .cell\/(relabel scope X.env).names.lookup p.1=some .free)
noncomputable def Om (own:List Str)(fr:List (Str×Nat))(σ:St):St:=own.map (λ_=>none)++fr.map λp=>(σ[p.2]?).join
noncomputable def O8:St->St->Prop
 | [],[]=>True
 | none::r,_::r'=>O8 r r'
 | some v::r,some v'::r'=>v=v'/\O8 r r'
 | _,_=>False
theorem J9:∀{a b:St},O8 a b->∀(i:Nat)(v:V),a[i]?=some (some v)->b[i]?=some (some v)
 | [],[],_,i,v,h=>by simp at h
 | [],_::_,z,_,_,_=>z.elim
 | none::r,[],z,_,_,_=>z.elim
 | some _::r,[],z,_,_,_=>z.elim
 | some _::r,none::_,z,_,_,_=>z.elim
 | none::r,_::r',z,0,v,h=>by simp at h
 | none::r,_::r',z,i+1,v,h=>by
  have:=J9 (a:=r) (b:=r') z i v (by simpa using h);simpa using this
 | some x::r,some x'::r',z,0,v,h=>by
  obtain ⟨e,_⟩:=z;subst e;simpa using h
 | some x::r,some x'::r',z,i+1,v,h=>by
  have:=J9 (a:=r) (b:=r') z.2 i v (by simpa using h);simpa using this
noncomputable def Ux (J:It)(D:Addr)(g:TG)(tc:TT)(te:TE)(B:St)(W:Nat->Nat->List V->Hp->Prop)(R:Hp->Prop):Prop:=
 ∀i m ys H2,W i m ys H2->(J.stop i H2/\R H2)\/(J.go i H2/\∃N:List V->Hp->Prop,(∀ys' H',N ys' H'->∃L,L<m/\W (i+1) L ys' H')/\∀x O,J.yld i H2 x O->g x B O λj Z=>O8 B j/\tc j Z λb U=>
  if b=true then te j U λy Y=>Y D=some (.lst ys)/\ys.length<sizeLine/\N (ys++[y]) (upd Y D (.lst (ys++[y])))
  else N ys U)
noncomputable def Zd4 (wi:TI)(g:TG)(tc:TT)(te:TE)(own:List Str)(fr:List (Str×Nat)):TE:=λσ H Q=>wi σ H λJ H1=>∀D,H1 D=none ->
 ∃W:Nat->Nat->List V->Hp->Prop,(∃m,W 0 m [] (upd H1 D (.lst [])))/\Ux J D g tc te (Om own fr σ) W λH2=>Q (.ref D) H2
section
variable {X:Cx}{qU iter elt:Expr}{ifs:List Expr}{scope:Scope}{cl:List (Str×Addr)}{own:List Str}{fr:List (Str×Nat)}{pos:Pos}{wi:TI}{g:TG}{tc:TT}{te:TE}
theorem Inv.sub_pins {qQ j:List (Addr×Obj)}{σ:St}{H:Hp}{s:Shared}(I:Inv X qQ σ H s)(h:∀p∈j,p∈qQ):Inv X j σ H s:=I.pins_of λp B=>I.pin p (Ybs _ (h p B))
theorem Zcz {qQ:List (Addr×Obj)}{σ:St}{H:Hp}{s:Shared}{C:Addr}{fp:List Addr}(S:JF X scope cl own fr)(I:Inv X qQ σ H s)(B:∀b∈fp,Zas X qQ H b)(L:s.heap.objs.size<=C)(D:∀b∈fp,b<s.heap.objs.size) :
  (X.comp scope cl (own++fr.map (·.1)) C s H fp).Ok:=by
 refine ⟨I.ok.mod,?_,I.ok.glob,I.ok.blt,L,λx y c h1 h2=>I.ok.inj x y c (S.cls x c h1) (S.cls y c h2),S.has,λx c z=>absurd z (by simp [Cx.comp]),I.ok.hd,I.ok.frames,.inl rfl,
  λb j=>⟨Yay (Yax (D b j) L),λx c h=>(B b j).2.2.2.2.1 x c (S.cls x c h)⟩,I.bs,Yca I.ok.bsz I.sz,λb o e j=>?_,λb j z=>?_,I.stack,I.stkFree⟩
 ·show (relabel scope X.env).kind=.function;exact S.kind
 ·rcases (B b j).2.2.2.1 with z | z
  ·exact I.ok.noex b o e z
  ·exact absurd (Yax (Yal e) (Yca I.ok.bsz z)) (Ycf _)
 ·rcases Yau.mp (I.stkSub b z) with q | q
  ·exact (B b j).2.1 q
  ·exact (B b j).2.2.1 q
theorem UY (own:List Str)(fr:List (Str×Nat))(σ:St):(Om own fr σ).length=(own++fr.map (·.1)).length:=by
 unfold Om;simp
theorem UZ {qQ:List (Addr×Obj)}{σ:St}{H:Hp}{s:Shared}{it:Addr}{fp:List Addr}{tn:Nat->Heap->Prop}{J:It}{E:EX}{RR:Value->Addr->Result->Shared->Prop}{Rf:Addr->Hp->Prop}(hc:X.calm=true)(S:JF X scope cl own fr)(I:Inv X qQ σ H s)(T:Zdx X.prog X.w X.K qU J fp it tn)(st:tn 0 s.heap)(hf:∀b∈fp,Zas X qQ H b)(hg:∀C s H fp,PG (X.comp scope cl (own++fr.map (·.1)) C s H fp) qU g)(ht:∀C s H fp,Zd3 (X.comp scope cl (own++fr.map (·.1)) C s H fp) ifs tc)(he:∀C s H fp,PE (X.comp scope cl (own++fr.map (·.1)) C s H fp) elt te)(hw:∀D,H D=none->∃W:Nat->Nat->List V->Hp->Prop,(∃m,W 0 m [] (upd H D (.lst [])))/\Ux J D g tc te (Om own fr σ) W (Rf D))(ar:∀D C s' H',s.heap.objs.size<=C->C≠D->(∃m,s'.heap.Ns C m)->H' C=none->Un (frs X.stack) fp H H' s.heap s'.heap->HOk X.prog X.w H' s'.heap->AllBare s'.gens->s'.os=s.os->Rf D H'->RR (.ref D) C (.ok .next) s') :
  wpAny (model X.prog X.w) X.A (newList []) (λacc s3=>wpAny (model X.prog X.w) X.A (newFunctionEnv scope X.env.globals cl [] X.env.qual none .none (some X.env)) (λab s4=>
   codeAny (model X.prog X.w) X.A (.compStart (.ListComp elt [⟨qU,iter,ifs,0⟩] scope pos) 0 (.ref it) acc { ab with scope:=relabel scope X.env }) (RR acc ab.locals) s4) E s3) E s:=by
 have ag:∀b∈fp,b<s.heap.objs.size:=λb B=>by
  obtain ⟨o,e,_⟩:=T.obj 0 s.heap st b B;exact Yal e
 have hD:H s.heap.objs.size=none:=I.fresh;obtain ⟨W,⟨m0,w0⟩,ad⟩:=hw s.heap.objs.size hD;have I1:Inv X qQ σ (upd H s.heap.objs.size (.lst [])) { s with heap:=s.heap.push { cls:=.type "list", data:=.seq ([]:List Value).toArray },toks:=s.toks }:=I.lnew .nil (Yao _);refine wpAny_newObj_type (wpAny_newFunctionEnv S.nocell (by intro y hy;simp at hy) (λh1 L O=>?_) S.kind);dsimp only at L O ⊢;generalize hH2:s.heap.push { cls:=.type "list", dict:=none,data:=.seq ([]:List Value).toArray }=H2 at L O ⊢ I1;have a3:H2.objs.size=s.heap.objs.size+1:=by rw [<-hH2,Ycx]
 have U:s.heap.objs.size<=H2.objs.size:=by lia
 have ai:s.heap.objs.size≠H2.objs.size:=by lia
 have aj:∀b o,H2.get? b=some o->h1.get? b=some o:=λb o e=>O.extBut b o (Yay (Yal e)) (Yan _ e);have up:∀b o,s.heap.get? b=some o->h1.get? b=some o:=λb o e=>aj b o (hH2▸Yan _ e);have aa:=Zcz (C:=H2.objs.size) S I hf U ag;have I0:∀tk,Inv (X.comp scope cl (own++fr.map (·.1)) H2.objs.size s H fp) [] (Om own fr σ) (upd H s.heap.objs.size (.lst [])) { s with heap:=h1,toks:=tk }:=by
  intro tk;have ak:HOk X.prog X.w (upd H s.heap.objs.size (.lst [])) h1:=I1.hok.kept aj;refine ⟨aa,rfl,I.bare,⟨λb o e n _ _=>up b o e,λb o e n _ _=>⟨o.slots,up b o e⟩,λb o e n _=>?_,λb o e _=>⟨o,up b o e⟩,λb xs q=>?_,λb o u q=>?_,λb ps q=>⟨#[],?_⟩⟩,
   ⟨_,L,λi x v e1 e2 e3=>?_⟩,λx c e=>?_,?_,λx c e=>?_,λp hp=>?_,ak,UY own fr σ⟩
  ·have e':s.heap.get? b=some o:=e;show upd H s.heap.objs.size (.lst []) b=none;rw [Gn (Yay (Yal e'))];exact n
  ·rw [Gn (Gf q hD)];exact q
  ·rw [Gn (Gf q hD)];exact q
  ·have q':H b=some (.tbl ps):=q;rw [Gn (Gf q' hD),q'];simp
  ·-- the free names
   have j:(Om own fr σ)[i]?=some (some v):=e2;have ae:(own++fr.map (·.1))[i]?=some x:=e1;unfold Om at j;by_cases hi:i<own.length
   ·rw [Ybl (by simpa using hi),Ybb] at j;cases q:own[i]? with
    | none=>rw [q] at j;cases j
    | some y=>rw [q] at j;cases j
   ·rw [Ybt (by simpa using hi),Yab,Ybb] at j;rw [Ybt (by lia),Ybb] at ae;cases q:fr[i-own.length]? with
    | none=>rw [q] at j;cases j
    | some p=>
     rw [q] at ae j;have ex:p.1=x:=Ybo ae;have ev:(σ[p.2]?).join=some v:=Ybo j;have as:σ[p.2]?=some (some v):=by
      cases z:σ[p.2]? with
      | none=>rw [z] at ev;cases ev
      | some o=>rw [z] at ev;cases o with
       | none=>cases ev
       | some v'=>have:v'=v:=Ybo ev;rw [this]
     obtain ⟨f1,f2,f3⟩:=S.free p (Yat q);subst ex;obtain ⟨m,hn,hl⟩:=I.loc;have au:Vis X.env.scope p.1:=by
      rcases f2 with f2 | f2
      ·exact .inr (.inl f2)
      ·exact .inr (.inr f2)
     obtain ⟨u,ru,lk⟩:=hl p.2 p.1 v f1 as au;refine ⟨u,ru,?_⟩;rcases lk with ⟨k,_⟩ | ⟨k,c,e,z⟩
     ·rcases f2 with f2 | f2 <;> (rw [f2] at k;cases k)
     ·obtain ⟨c',am⟩:=S.has p.1 f3;have e':=S.cls _ _ am;rw [e] at e';cases e';obtain ⟨oc,ho,hd⟩:=z;exact .inr ⟨f3,c,am,⟨oc,up _ _ ho,hd⟩⟩
  ·obtain ⟨v,oc,ho,hd⟩:=I.cell x c (S.cls x c e);exact ⟨v,oc,up _ _ ho,hd⟩
  ·show upd H s.heap.objs.size (.lst []) H2.objs.size=none;rw [Gn (Ne.symm ai)];exact I.hok.fresh U
  ·obtain ⟨v,z⟩:=I.cell x c (S.cls x c e);show upd H s.heap.objs.size (.lst []) c=none;rw [Gn (Yay z.lt)];exact I.freeC x c (S.cls x c e)
  ·exact absurd (show p∈([]:List (Addr×Obj)) from hp) (by simp)
 have av:∀b∈fp,upd H s.heap.objs.size (.lst []) b=none:=λb B=>by rw [Gn (Yay (ag b B))];exact (hf b B).1
 have an:tn 0 h1:=T.keep 0 _ _ st λb B o e=>up b o e;have Y:∀{H':Hp},(∀b∈fp,H' b=none)->∀b∈fp,Zas (X.comp scope cl (own++fr.map (·.1)) H2.objs.size s H fp) [] H' b:=λhn b B=>
  ⟨hn b B,(aa.exf b B).1,aa.exfs b B,.inl B,(aa.exf b B).2,λp hp=>absurd (show p∈([]:List (Addr×Obj)) from hp) (by simp)⟩
 have ac:∀s3:Shared,(∃tk,s3={ s with heap:=h1,toks:=tk }) ->
   codeAny (model X.prog X.w) X.A (.compLoop (.ListComp elt [⟨qU,iter,ifs,0⟩] scope pos) 0 (.ref it) (.ref s.heap.objs.size) (compEnvC scope cl H2.objs.size X.env)) (RR (.ref s.heap.objs.size) H2.objs.size) s3:=by
  rintro s3 ⟨tk,rfl⟩;refine Wh (λn s'=>∃i ys H',Inv (X.comp scope cl (own++fr.map (·.1)) H2.objs.size s H fp) [] (Om own fr σ) H' s'/\tn i s'.heap/\(∀b∈fp,H' b=none)/\W i n ys H') ?_ m0 ⟨0,[],_,I0 tk,an,av,w0⟩;rintro n s4 ⟨i,ys,H4,I4,ao,ap,w4⟩;rcases ad i n ys H4 w4 with ⟨aq,q⟩ | ⟨go,N,hN,step⟩
  ·refine thn (T.done (X.comp scope cl (own++fr.map (·.1)) H2.objs.size s H fp) rfl rfl rfl hc i [] s4 _ H4 _ I4 (Y ap) ao aq) λr s5 ⟨hr,I5⟩=>?_;subst hr;exact ar _ _ s5 H4 U (Ne.symm ai) ⟨_,I5.loc.choose_spec.1⟩ I5.free I5.base I5.hok I5.bare I5.os q
  ·refine thn (T.item (X.comp scope cl (own++fr.map (·.1)) H2.objs.size s H fp) rfl rfl rfl hc i [] s4 _ H4 _ I4 (Y ap) ao go) λr s5 ⟨u,hr,h5⟩=>?_;subst hr;refine thn h5 λ_ s6 ⟨x,H6,I6,r6,y6,af,aw⟩=>?_;have ax:=I6.pinned (Y aw) (T.obj _ _ af);refine thn (hg H2.objs.size s H fp _ s6 _ H6 x u _ ax r6 (step x H6 y6)) λ_ s7 ⟨σ7,H7,I7,k7,q7⟩=>?_;refine thT (ht H2.objs.size s H fp _ s7 σ7 H7 _ I7 q7) λok s8 H8 I8 q8=>?_;have Z:∀{s9:Shared}{σ9:St}{H9:Hp}{zs:List V},Inv (X.comp scope cl (own++fr.map (·.1)) H2.objs.size s H fp) ([]++V2 fp s6.heap) σ9 H9 s9->(∀(i:Nat) v,(Om own fr σ)[i]?=some (some v)->σ9[i]?=some (some v))->(∃m',m'<n/\W (i+1) m' zs H9) ->
     ∃m,m<n/\∃i ys H',Inv (X.comp scope cl (own++fr.map (·.1)) H2.objs.size s H fp) [] (Om own fr σ) H' s9/\tn i s9.heap/\(∀b∈fp,H' b=none)/\W i m ys H':=by
    intro s9 σ9 H9 zs I9 hσ ⟨m',hm,w9⟩;refine ⟨m',hm,i+1,zs,H9,(I9.sub_pins (λp hp=>absurd (show p∈([]:List (Addr×Obj)) from hp) (by simp))).weak ?_ hσ,T.keep _ _ _ af λb B o e=>(I9.pin (b,o) (Ybs _ (Ybs _ (J7 B e)))).1,λb B=>?_,w9⟩
    ·rw [I9.len];exact UY own fr σ
    ·obtain ⟨o,e,d⟩:=T.obj _ _ af b B;exact (I9.pin (b,o) (Ybs _ (Ybs _ (J7 B e)))).2.1
   cases ok with
   | false=>exact (if_neg Yar).mpr (Z I8 (J9 k7) (hN _ _ ((if_neg Yar).mp q8)))
   | true=>
    refine (if_pos rfl).mpr ?_;have ay:=(if_pos rfl).mp q8;refine thG (he H2.objs.size s H fp _ s8 σ7 H8 _ I8 ay) λy s9 yv H9 I9 r9 ⟨az,hz,q9⟩=>?_;refine thG (GQ _ s9 σ7 H9 (.ref s.heap.objs.size) [yv] (.ref s.heap.objs.size) [y] (λ_ H'=>H'=upd H9 s.heap.objs.size (.lst (ys++[yv]))) I9 rfl (.cons r9 .nil) ⟨_,ys,yv,rfl,rfl,az,hz,rfl⟩) λ_ a4 _ a5 a1 _ a2=>?_;subst a2;exact Z a1 (J9 k7) (hN _ _ q9)
 exact codeAny_compStart_list (ac _ ⟨_,rfl⟩) (T.self _ 0 _ _ _ an (ac _ ⟨_,rfl⟩))
theorem U6 {qQ:List (Addr×Obj)}{σ:St}{H H':Hp}{s s':Shared}{fp:List Addr}(I:Inv X qQ σ H s)(B:∀b∈fp,Zas X qQ H b)(un:Un (frs X.stack) fp H H' s.heap s'.heap)(L:HOk X.prog X.w H' s'.heap)(j:AllBare s'.gens)(O:s'.os=s.os):Inv X qQ σ H' s':=
 I.call' O un L j λb D=>⟨(B b D).2.2.2.1,(B b D).2.1,(B b D).2.2.2.2.1,(B b D).2.2.2.2.2⟩
theorem Xl {qQ:List (Addr×Obj)}{σ j:St}{H H':Hp}{s s':Shared}{C:Addr}{h':Heap}(I:Inv X qQ σ H s)(B:s.heap.objs.size<=C)(D:H' C=none)(L:Inv X qQ j H' s')(O:Heap.SameBut C s'.heap h') :
  Inv X qQ j H' { s' with heap:=h' }:=by
 obtain ⟨U,Y,f2,Z,f4,f5⟩:=I.fpOk B D;exact L.turned (t':=s'.toks) (λb o hb e=>(O.2 b hb).trans e) U Y Z f4 f5
theorem Jo (hc:X.calm=true)(S:JF X scope cl own fr)(hi:PI X qU iter wi)(hg:∀C s H fp,PG (X.comp scope cl (own++fr.map (·.1)) C s H fp) qU g)(ht:∀C s H fp,Zd3 (X.comp scope cl (own++fr.map (·.1)) C s H fp) ifs tc)(he:∀C s H fp,PE (X.comp scope cl (own++fr.map (·.1)) C s H fp) elt te)(hs:∀x,foldedSetIterable iter X.env x=pure x:=by intro _;rfl):PE X (.ListComp elt [⟨qU,iter,ifs,0⟩] scope pos) (Zd4 wi g tc te own fr):=by
 intro qQ s σ H Q I h;rw [eval_ListComp];refine wpAny_comprehension_free (use:=none) rfl hs S.clos S.kind S.names (thn (hi qQ s σ H _ I h) λv s1 h1=>thn h1 λaa s2 h2=>?_);obtain ⟨it,fp,tn,J,H2,e,B,T,L,Z,hw⟩:=h2;subst e;refine UZ (RR:=λacc C=>compPost (model X.prog X.w) X.A X.xe none (EP X qQ σ Q) acc C) hc S B T L Z hg ht he hw ?_;rintro D C s' H' hC ab ⟨m,hn⟩ O un U j os q;refine ⟨m,hn,λh' Y=>⟨.ref D,H',?_,rfl,q⟩⟩;exact Xl (C:=C) (σ:=σ) B hC O (U6 B Z un U j os) Y
theorem Uy {i:Nat}{y:Str}{B j:Pos}(hN:X.N.Nodup)(hi':X.N[i]?=some y)(hx:Loc X.env.scope y)(hc:X.calm=true)(S:JF X scope cl own fr)(hi:PI X qU iter wi)(hg:∀C s H fp,PG (X.comp scope cl (own++fr.map (·.1)) C s H fp) qU g)(ht:∀C s H fp,Zd3 (X.comp scope cl (own++fr.map (·.1)) C s H fp) ifs tc)(he:∀C s H fp,PE (X.comp scope cl (own++fr.map (·.1)) C s H fp) elt te)(hf:X.fn y=true\/X.env.scope.names.lookup y=some .local:=by first | exact .inl rfl | exact .inr rfl | assumption)(U:swapsWith (.ListComp elt [⟨qU,iter,ifs,0⟩] scope pos) (some (.Name y B)) j.line X.env=pure true:=by rfl)(hs:∀x,foldedSetIterable iter X.env x=pure x:=by intro _;rfl):PS X (.Assign [.Name y B] (.ListComp elt [⟨qU,iter,ifs,0⟩] scope pos) j) (ZfP (Zd4 wi g tc te own fr) (GW i)):=by
 intro qQ s σ H Dn I h;rw [exec_Assign_Name_used _ _ _ _ U];refine Yaa (wpAny_standAt (Yaa ?_));show wpAny _ X.A (do let _ <- comprehension (.ListComp elt [⟨qU,iter,ifs,0⟩] scope pos) scope X.env _ (newList []) false (eval iter X.env) (some (assign (.Name y B) X.env))) _ _ s;refine Yaa (Ybp (wpAny_comprehension_free (use:=some (assign (.Name y B) X.env)) (Q:=λ_ s'=>SP X qQ Dn .next s') rfl hs S.clos S.kind S.names (thn (hi qQ s σ H _ I h) λv s1 h1=>thn h1 λaf s2 h2=>?_))
  (λ_ s' hq=>Yah (Yah hq)) λ_ _ e=>e)
 obtain ⟨it,fp,tn,J,H2,e,L,T,Y,f2,hw⟩:=h2;subst e;refine UZ (RR:=λacc C=>compPost (model X.prog X.w) X.A X.xe (some (assign (.Name y B) X.env)) (λ_ s'=>SP X qQ Dn .next s') acc C) hc S L T Y f2 hg ht he hw ?_;rintro D C s' H' Z ag ⟨m,hn⟩ aa un ab O os q;have I3:Inv X qQ σ H' s':=U6 L f2 un ab O os;show wpAny _ X.A (assign (.Name y B) X.env (.ref D)) _ _ s';refine wpAny_assign_Name (V0 I3 hN hi' hx (v:=.ref D) rfl (λs4 I4 ⟨a,ac,ha⟩=>?_) hf);have ad:C≠a:=by
  rcases ha with z | z
  ·rw [z];exact Nat.ne_of_gt (Yax L.lt Z)
  ·obtain ⟨v,q⟩:=L.cell y a z;exact Nat.ne_of_gt (Yax q.lt Z)
 refine ⟨m,hn.sameBut ac ad,λh' ae=>⟨_,H',Xl (C:=C) (σ:=σ) L Z aa I4 ae,q⟩⟩
end
noncomputable abbrev Xm (J:It)(D:Addr)(g:TG)(tc:TT)(te:TE)(j:St)(R:Hp->Prop)(H1:Hp):Prop:=∃W:Nat->Nat->List V->Hp->Prop,(∃m,W 0 m [] (upd H1 D (.lst [])))/\Ux J D g tc te j W R
theorem Vu {J:It}{n:Nat}{D:Addr}{g:TG}{tc:TT}{te:TE}{L:St}{R:Hp->Prop}{H1:Hp}(j:Nat->List V->Hp->Prop)(h0:j 0 [] (upd H1 D (.lst [])))(Z:∀i ys H,i<=n->j i ys H->(i<n->J.go i H)/\(i=n->J.stop i H))(hs:∀i ys H x H',i<n->j i ys H->J.yld i H x H'->g x L H' λO H4=>O8 L O/\tc O H4 λb U=>if b=true then te O U λy Y=>Y D=some (.lst ys)/\ys.length<sizeLine/\j (i+1) (ys++[y]) (upd Y D (.lst (ys++[y]))) else j (i+1) ys U)(hd:∀ys H,j n ys H->R H):Xm J D g tc te L R H1:=by
 refine ⟨λi m ys H=>m=n-i/\i<=n/\j i ys H,⟨_,rfl,Yao _,h0⟩,?_⟩;rintro i m ys H ⟨rfl,hi,p⟩;have q:=Z i ys H hi p;by_cases B:i<n
 ·exact .inr ⟨q.1 B,j (i+1),λys' H' p'=>⟨n-(i+1),by lia,rfl,B,p'⟩,λx H' y=>hs i ys H x H' B p y⟩
 ·have e:i=n:=by lia
  subst e;exact .inl ⟨q.2 rfl,hd ys H p⟩
theorem GL {K:W.Frag}{a D:Addr}{xs:List V}{g:TG}{tc:TT}{te:TE}{B:St}{R:Hp->Prop}{H1:Hp}(j:Nat->List V->Hp->Prop)(h0:j 0 [] (upd H1 D (.lst [])))(L:∀i ys H,i<=xs.length->j i ys H->SqL K H a xs)(Z:∀i x ys H,xs[i]?=some x->j i ys H->g x B H λO H4=>O8 B O/\tc O H4 λb U=>if b=true then te O U λy Y=>Y D=some (.lst ys)/\ys.length<sizeLine/\j (i+1) (ys++[y]) (upd Y D (.lst (ys++[y]))) else j (i+1) ys U)(hd:∀ys H,j xs.length ys H->R H):Xm (Itl K a) D g tc te B R H1:=Vu j h0 (λi s H hi p=>⟨λz=>⟨xs,xs[i],L i s H hi p,by simp [z]⟩,λe=>⟨xs,L i s H hi p,by lia⟩⟩) (λi s H x H' z p y=>by obtain ⟨rfl,y⟩:=y;exact Z i x s _ (y xs (L i s _ (Ycr z) p)) p) hd
theorem Yk {lo:Int}{n:Nat}{D:Addr}{g:TG}{tc:TT}{te:TE}{B:St}{R:Hp->Prop}{H1:Hp}(j:Nat->List V->Hp->Prop)(h0:j 0 [] (upd H1 D (.lst [])))(Y:∀i ys H,i<n->j i ys H->g (.int (lo+i)) B H λL Z=>O8 B L/\tc L Z λb O=>if b=true then te L O λy U=>U D=some (.lst ys)/\ys.length<sizeLine/\j (i+1) (ys++[y]) (upd U D (.lst (ys++[y]))) else j (i+1) ys O)(hd:∀ys H,j n ys H->R H):Xm (Itr lo n) D g tc te B R H1:=Vu j h0 (λi s H hi p=>⟨id,λe=>Nat.le_of_eq e.symm⟩) (λi s H x H' z p y=>by obtain ⟨rfl,rfl⟩:=y;exact Y i s _ z p) hd
theorem Jw {X:Cx}{scope:Scope}{own:List Str}(j:∀y∈scope.names,y.2≠.free)(L:∀y∈scope.names,y.2≠.cell)(O:scope.kind=.function)(U:∀y∈scope.names,y.2=.local->scope.names.lookup y.1=some .local):JF X scope [] own []:=by
 have B:(relabel scope X.env).names=scope.names:=by
  unfold relabel;dsimp only;refine (List.map_congr_left λp D=>?_).trans (List.map_id _);obtain ⟨n,k⟩:=p;have:(k == NameKind.free)=false:=by
   have:=j _ D;cases k <;> first | rfl | exact absurd rfl this
  simp [this]
 refine ⟨closureFor_none j,L,O,U,λy c h=>by simp at h,λy h=>?_,λp D=>by simp at D⟩;rw [B] at h;rcases h with h | h
 ·exact absurd rfl (L _ (Ycb h))
 ·exact absurd rfl (j _ (Ycb h))
noncomputable def ZaH (a C:Addr)(h:Heap):Prop:=∃j vs,h.get? a=some j/\j.cls=.ref C/\j.data=.fields vs
noncomputable def ZgL (a C:Addr):HO:=.ext (ZaH a C)
theorem ObjOk.there {P:Program}{w:World}{H:Hp}{h:Heap}{a:Addr}{u:HO}(ok:ObjOk P w H h a u):∃v,h.get? a=some v:=by
 cases u with
 | lst xs=>obtain ⟨_,_,_,_,e⟩:=ok;exact ⟨_,e⟩
 | tup xs=>obtain ⟨_,_,_,o,e,_⟩:=ok;exact ⟨_,e⟩
 | dK kvs=>obtain ⟨_,_,_,_,o,_,_,e,_⟩:=ok;exact ⟨_,e⟩
 | dT kvs=>obtain ⟨_,_,_,_,o,_,_,e,_⟩:=ok;exact ⟨_,e⟩
 | set S n=>obtain ⟨o,_,_,_,e,_⟩:=ok;exact ⟨_,e⟩
 | ins C dx fs=>obtain ⟨_,_,_,e,_⟩:=ok;exact ⟨_,e⟩
 | own y=>obtain ⟨_,e⟩:=ok;exact ⟨_,e⟩
 | xd fs=>obtain ⟨_,⟨_,_,_,e,_⟩,_⟩:=ok;exact ⟨_,e⟩
 | rng lo hi=>obtain ⟨_,_,_,e⟩:=ok;exact ⟨_,e⟩
 | frz ob u=>obtain ⟨e,_⟩:=ok;exact ⟨_,e⟩
 | tbl ps=>exact ⟨_,show h.get? a=some _ from ok⟩
 | met f y=>exact ⟨_,show h.get? a=some _ from ok⟩
 | ext φ=>obtain ⟨_,⟨_,e⟩,_⟩:=ok;exact ⟨_,e⟩
noncomputable def Zf0 (P:Program)(w:World)(outer:List Env)(H H':Hp)(s:Shared)(a C:Addr)(s':Shared):Prop:=
 ∃(t:Addr)(B:Heap),s'.os=s.os/\AllBare s'.gens/\Un (frs outer) [] H H' s.heap s'.heap/\HOk P w H' s'.heap/\Heap.FlyingW B outer a (.ref C) (.ref t) s'.heap /\
  (∀b o,s'.heap.get? b=some o->H' b≠none->B.get? b=some o)/\(∀b j o,s.heap.get? b=some j->s'.heap.get? b=some o->b ∉ frs outer->B.get? b=some o)
noncomputable def CXr (P:Program)(w:World):CXT:=λouter H s E e s'=>∃(a C:Addr)(H':Hp),e=.ref a/\Zf0 P w outer H H' s a C s'/\E (.ref C) none H'
section
variable {X:Cx}{qQ:List (Addr×Obj)}{σ:St}{H:Hp}{s:Shared}
noncomputable def Xn (X:Cx)(E:XK):Prop:=∀(qQ:List (Addr×Obj))(σ:St)(H:Hp)(s:Shared)(h':Heap)(a C:Addr)(vs:List Value),Inv X qQ σ H s->Heap.MadeExcOf s.heap h' a (.ref C) vs->E (.ref C) none H->X.xe (.ref a) { s with heap:=h' }
theorem Wi {P:Program}{w:World}{K:W.Frag}{mg:Str->Option Value}{base:Heap}{N:List Str}{qual:Str}{scope:Scope}{f:Addr}{cd:Value}{A:Around}{outer:List Env}{s:Shared}{H:Hp}{E:XK} :
  Xn (Ye (CXr P w) P w K mg base N qual scope f cd A outer s H E) E:=by
 intro qQ σ H1 s1 h' a C vs I hx hE;have ad:=I.ok.frames;have aa:s1.heap.FunFrames base (envOfC qual scope s.heap.objs.size f cd::outer):=I.stack;have ae:∀U∈(envOfC qual scope s.heap.objs.size f cd::outer),∀b,U.frame=some b->b∈frs (envOfC qual scope s.heap.objs.size f cd::outer):=λU he b L=>Ydk.mpr ⟨U,he,L⟩;have j:∀b o,s1.heap.get? b=some o->b ∉ frs (envOfC qual scope s.heap.objs.size f cd::outer)->(W.hideAll s1.heap (frs (envOfC qual scope s.heap.objs.size f cd::outer))).get? b=some o:=λb o e n=>W.hideAll_get _ e n;refine wpAny_leaves_madeW (base:=W.hideAll s1.heap (frs (envOfC qual scope s.heap.objs.size f cd::outer))) ad rfl (λb o q=>W.of_hideAll _ q) (W.funFrames_hide aa ae) hx λh2 t fl tu tn sm=>?_;refine ⟨a,C,H1,rfl,⟨t,_,I.os,I.bare,⟨λb o e n L _=>?_,λb o e n L _=>?_,λb o e n _=>?_,λb o e _=>?_,I.base.tups,I.base.frzs,I.base.tbls⟩,λb u e=>?_,fl,λb o e n=>?_,λb o0 o e0 e nb=>?_⟩,hE⟩
 ·have B:s1.heap.get? b=some o:=I.base.keep b o e n L (by intro z;exact absurd (show b∈([]:List Addr) from z) (by simp));refine fl.1 b o (j b o B λz=>?_);rcases Yau.mp (I.stkSub b z) with q | q
  ·exact absurd (Yax (Yal e) I.ok.above) (by rw [q];exact Ycf _)
  ·exact L q
 ·obtain ⟨sl,B⟩:=I.base.slot b o e n L (by intro z;exact absurd (show b∈([]:List Addr) from z) (by simp));have nf:∀vs,o.data≠.fields vs:=by
   obtain ⟨_,o',D,Y⟩:=I.funs.mem (show b∈(outer.filterMap (·.frame)) from L);rw [B] at D;cases D;exact Y
  obtain ⟨ab,O⟩:=sm b { o with slots:=sl } (hx.keeps b _ B) nf;exact ⟨ab,O⟩
 ·exact I.base.free b o e n (by intro z;exact absurd (show b∈([]:List Addr) from z) (by simp))
 ·obtain ⟨Z,B⟩:=I.base.there b o e (by intro z;exact absurd (show b∈([]:List Addr) from z) (by simp));by_cases L:b∈frs (envOfC qual scope s.heap.objs.size f cd::outer)
  ·obtain ⟨_,o',D,Y⟩:=aa.mem L;rw [B] at D;cases D;obtain ⟨ab,O⟩:=sm b Z (hx.keeps b _ B) Y;exact ⟨_,O⟩
  ·exact ⟨Z,fl.1 b Z (j b Z B L)⟩
 ·have trk:∀c v,s1.heap.get? c=some v->H1 c≠none->h2.get? c=some v:=λc v q hc=>fl.1 c v (j c v q λz=>hc (I.stkFree c z));refine (I.hok b u e).stay (λc v hc q=>trk c v q ?_) (λ_ q=>q) λ_ _ q=>q;rcases hc with z | z
  ·rw [z,e];simp
  ·rw [z];simp
 ·cases q':H1 b with
  | none=>exact absurd q' n
  | some u=>
   obtain ⟨v,q⟩:=(I.hok b u q').there;have nb:b ∉ frs (envOfC qual scope s.heap.objs.size f cd::outer):=λz=>n (I.stkFree b z);have O:=fl.1 b v (j b v q nb);rw [e] at O;cases O;exact j b _ q nb
 ·obtain ⟨Z,B⟩:=I.base.there b o0 e0 (by intro z;exact absurd (show b∈([]:List Addr) from z) (by simp));have ac:b ∉ frs (envOfC qual scope s.heap.objs.size f cd::outer):=λz=>by
   rcases Yau.mp (I.stkSub b z) with q | q
   ·exact absurd (Yax (Yal e0) I.ok.above) (by rw [q];exact Ycf _)
   ·exact nb q
  have O:=fl.1 b Z (j b Z B ac);have e':h2.get? b=some o:=e;rw [e'] at O;cases O;exact j b _ B ac
theorem ZaI {P:Program}{w:World}{outer:List Env}{H H':Hp}{s s':Shared}{a C t:Addr}{B h2:Heap}(un:Un (frs outer) [] H H' s.heap s'.heap)(Z:HOk P w H' s'.heap)(fr:s'.heap.FunFrames B outer)(trk:∀b o,s'.heap.get? b=some o->H' b≠none->B.get? b=some o)(old:∀b o0 o,s.heap.get? b=some o0->s'.heap.get? b=some o->b ∉ frs outer->B.get? b=some o)(st:B.StaysIn h2)(sm:s'.heap.UpToSlots h2) :
  Un (frs outer) [] H H' s.heap h2/\HOk P w H' h2:=by
 refine ⟨⟨λb o e n D U=>st b o (old b o o e (un.keep b o e n D U) D),λb o e n D U=>?_,un.free,λb o e U=>?_,un.tups,un.frzs,un.tbls⟩,λb u e=>?_⟩
 ·obtain ⟨sl,O⟩:=un.slot b o e n D U;obtain ⟨_,o',j,L⟩:=fr.mem D;rw [O] at j;cases j;obtain ⟨Y,e2⟩:=sm b _ O L;exact ⟨Y,e2⟩
 ·obtain ⟨o1,O⟩:=un.there b o e U;by_cases D:b∈frs outer
  ·obtain ⟨_,o',j,L⟩:=fr.mem D;rw [O] at j;cases j;obtain ⟨Y,e2⟩:=sm b _ O L;exact ⟨_,e2⟩
  ·exact ⟨o1,st b o1 (old b o o1 e O D)⟩
 ·refine (Z b u e).stay (λc v hc q=>st c v (trk c v q ?_)) (λ_ q=>q) λ_ _ q=>q;rcases hc with z | z
  ·rw [z,e];simp
  ·rw [z];simp
end
abbrev ZgM:List Value:=[.type "ValueError", .type "Exception", .type "BaseException", .type "object"]
abbrev ExcC (K:W.Frag)(C:Addr):Prop:=W.excIn K C ZgM "ValueError.__new__" = true
theorem WP {K:W.Frag}{h:Heap}{C:Addr}(KX:K.In h)(ex:ExcC K C):∃B D L,(∃ab ac ad ae af O ag U Y j0 j1 j2 j3 j5,
  h.get? C=some (excClassObj ab ac C D ad B ae af O ag U Y j0 j1 j2 j3 j5 "ValueError.__new__"))/\h.Ns D L/\L "__init__" = none/\OwnTail h ZgM B:=by
 have ex':=ex;unfold ExcC W.excIn at ex';split at ex'
 ·rename_i Y Z aa lk;have ah:=KX _ _ lk;split at ex'
  ·rename_i C' j j0 j1 j2 j3 n' j5 hm hs;rw [Ycc,Ycc,Ycc,Ycc,Ycc,Ybe,Ybe,Ybe] at ex';obtain ⟨⟨⟨⟨⟨z1,z2⟩,z3⟩,z4⟩,z5⟩,z6⟩:=ex';have ai:Z.hasDel=false:=by simpa using z3
   subst z1 z2;cases Z with
   | mk a1 a2 a3 a4 a5 a6 a7 a8 a9 a10 a11=>
    have aj:a3=.ref C'::j:=hm;have ak:a11=false:=ai;subst aj ak;have es:aa=#[j0,j1,j2,j3,some (.builtin "ValueError.__new__"),j5]:=by
     cases aa with
     | mk l=>exact Ybh Array.mk hs
    subst es;exact ⟨j,a4,_,⟨_,_,_,_,_,_,_,_,_,_,_,_,_,_,ah⟩,.of_isNs (W.isNs_of_in KX z5),W.nsMap_none_of_in KX z5 z6,W.tail_of_in KX z4⟩
  ·cases ex'
 ·cases ex'
section
variable {X:Cx}
noncomputable def Zd5 (C:Addr)(E:XK)(t:TA):TS:=λ_ σ H=>t σ H λvs H1=>vs.length<=sizeLine/\E (.ref C) none H1
theorem ZaJ {C:Addr}{E:XK}{x:Str}{np qK pos:Pos}{e:Expr}{es:List Expr}{t:TA}(hc:X.calm=true)(hR:Xn X E)(hg:Gl X x)(U:X.mg x=some (.ref C))(ex:ExcC X.K C)(ha:PA X (e::es) t)(Y:(x == ("__debug__" : Str))=false:=by decide)(he:starEach (e::es) X.env=(false,eval e X.env)::starEach es X.env:=by rfl)(Z:(backTo qK (starEach es X.env)).any (·.1)=false:=by rfl) :
  PS X (.Raise (some (.Call (.Name x np) (e::es) [] qK)) none pos) (Zd5 C E t):=by
 intro qQ s σ H D I h;obtain ⟨j,aa,ac,⟨ad,ae,af,ag,ah,B,ai,L,aj,j0,j1,j2,j3,j5,hC⟩,hN,ak,T⟩:=WP I.mod.kin ex;refine wpAny_Raise_call_subT (C:=C) (nm:=ad) (q:=ae) (N:=aa) (bs:=af) (bm:=j) (hdct:=ag) (sn:=ah) (sub:=B) (ab:=ai) (col:=L) (dd:=aj) (k0:=j0) (k1:=j1) (k2:=j2) (k3:=j3) (k5:=j5)
  PySem.F.excBase_ValueError (mN:=ac) (T.hasType PySem.F.excBase_ValueError.hasBase) (I.ok.hd hc) (by rw [he];show (false || (backTo qK (starEach es X.env)).any (·.1))=false;rw [Z];rfl) ak (Uq I hg U ⟨rfl,?_⟩ Y)
 have hA:=ha qK qQ s σ H _ I h;rw [he] at hA ⊢;refine Calls.evalArgs_plain (thn hA λus s2 ⟨vs,H2,O,r2,hl,q2⟩=>?_);exact ⟨rfl,by rw [<-r2.length];exact hl,O.bk _ _ hC,hN.keeps O.bk,T.keeps O.bk,λh' a U=>hR qQ σ H2 s2 h' a C us O U q2⟩
variable {qQ:List (Addr×Obj)}{σ:St}{H:Hp}{s:Shared}
end
theorem Xo {M:Model}{h:Heap}{a C:Addr}(j:ZaH a C h):W.Looks M h (typeOf (.ref a)) (.ref C):=by
 obtain ⟨B,vs,e,c,d⟩:=j;exact c▸(W.Looks.ld e).andThen .now
theorem Zf {K:W.Frag}{prog:Program}{w:World}{A:Around}{E:EX}{Q:Option Value->Shared->Prop}{s:Shared}{a C:Addr}(B:K.In s.heap)(hx:ZaH a C s.heap)(L:W.findIn K (.ref C) "__getattribute__" = some (some (.builtin "BaseException.__getattribute__")))(D:W.findIn K (.ref C) "__getattr__" = some none)(O:W.findIn K (.ref C) "__class__" = some (some (.builtin "object.__class__")))(hm:W.mroIn K C (.type "object")=some true)(hB:W.subIn K (.ref C) (.type "BaseException")=some true)(h:Q (some (.ref C)) { s with toks:=s.toks+1 }):wpAny (model prog w) A (getAttr? (.ref a) "__class__") Q E s:=by
 have j:=Xo (M:=model prog w) hx;have L1:=W.looks_findIn (M:=model prog w) B L;have L2:=W.looks_findIn (M:=model prog w) B D;have L3:=W.looks_findIn (M:=model prog w) B O;have L4:=W.looks_subIn (M:=model prog w) B hB;obtain ⟨h0,g,d,t,os⟩:=s;have f3:=PySem.F.attr_ValueError.ga.bind (.ref a);unfold getAttr? getAttrBy? getAttrBy;refine Yaa (wpAny_mkText (Yaa (wpAny_attempt (Ydc (Yaa (j.at (Yaa (L1.at ?_))))))));dsimp only;have U:(onTheHeap (Value.ref C) && Value.builtin "BaseException.__getattribute__" == Value.builtin "object.__getattribute__")=false:=by
  have z:(Value.builtin "BaseException.__getattribute__" == Value.builtin "object.__getattribute__")=false:=by decide +kernel
  rw [z,Bool.and_false]
 rw [U];simp only [Bool.false_eq_true,if_false];unfold getAttrByItsOwn
 repeat (any_goals (first | assumption | with_reducible refine j.at ?_ | with_reducible refine L2.at ?_ | wp_step))
 have Y:splitId "BaseException.__getattribute__" = some ("BaseException", "__getattribute__"):=by decide +kernel
 have Z:builtinKind "BaseException.__getattribute__" = some .slot:=by decide +kernel
 have ab:=PySem.F.args_bexc_ga (.ref a) (.str (Str.ofString "__class__") t);refine codeAny_call_builtin PySem.F.attr_ValueError.ga.plain PySem.F.entry_bexc_ga ?_;show wpAny _ _ (checkBuiltinCall "BaseException.__getattribute__" ⟨[.ref a,.str (Str.ofString "__class__") t],[]⟩) _ _ _;simp only [checkBuiltinCall,Z,Y];refine Yaa ?_;unfold isInstance;have f5:=PySem.F.typeOf_object_class;have f6:=PySem.F.slot_gs_get.lookup;have f7:=PySem.F.slot_gs_set.lookup;have ac:(⟨h0,g,d,t+1,os⟩:Shared).TypeIs (.builtin "object.__class__") "getset_descriptor" := PySem.F.typeOf_object_class;refine Yaa (j.at (L4.at ?_))
 repeat (any_goals (first | assumption | with_reducible refine j.at ?_ | with_reducible refine L3.at ?_ | wp_step))
 have Lo:W.Looks (model prog w) h0 (isSubtype (.ref C) (.type (".".intercalate ("object.__class__".cutAt '.').dropLast))) true:=by
  rw [PySem.F.owner_object_class];exact W.looks_mroIn B hm
 have aa:(⟨h0,g,d,t+1,os⟩:Shared).TypeIs (.builtin "object.__class__") "getset_descriptor" := PySem.F.typeOf_object_class;refine codeAny_call_builtin PySem.F.slot_gs_get.plain PySem.F.entry_gs_get (PySem.F.slot_gs_get.check _ _ _ _ _ _ _ _ aa (PySem.F.args_gs_get _ _ _) ?_)
 repeat (any_goals (first | assumption | with_reducible refine j.at ?_ | with_reducible refine Lo.at ?_ | wp_step))
 refine ⟨Code.quiet_builtin _ (by decide +kernel),codeAny_builtin PySem.F.entry_object_class ?_⟩
 repeat (any_goals (first | assumption | with_reducible refine j.at ?_ | wp_step))
structure Zf1 (K:W.Frag)(C:Addr):Prop where
 ex:ExcC K C
 ga:W.findIn K (.ref C) "__getattribute__" = some (some (.builtin "BaseException.__getattribute__"))
 nga:W.findIn K (.ref C) "__getattr__" = some none
 cl:W.findIn K (.ref C) "__class__" = some (some (.builtin "object.__class__"))
 ob:W.mroIn K C (.type "object")=some true
 be:W.subIn K (.ref C) (.type "BaseException")=some true
theorem Xp {K:W.Frag}{a C:Addr}(k:Zf1 K C):W.KitX K (.ref a) (.ref C) (ZaH a C) where
 ty:=λ_ _ _ p=>Xo p
 it:=λM h KX _=>by
  obtain ⟨_,_,_,⟨_,_,_,_,_,_,_,_,_,_,_,_,_,_,hC⟩,_⟩:=WP KX k.ex;intro A Q E s kk q;unfold isType loadHead;exact Yaa (wpAny_loadPart (kk _ _ hC) (Yah q))
 ne:=λh tp dd its n sl KX htp=>by
  obtain ⟨_,_,_,⟨_,_,_,_,_,_,_,_,_,_,_,_,_,_,hC⟩,_⟩:=WP KX k.ex;refine Ydy.mpr λq=>?_;have e:C=tp:=Value.ref.inj (Ybe.mp q);rw [<-e,hC] at htp;have z:=Ybh Obj.data (Ybo htp);unfold excClassObj at z;cases z
 ca:=λKX p q=>Zf KX p k.ga k.nga k.cl k.ob k.be q
noncomputable def Wj:V->Value
 | .ty n=>.type n
 | .ref a=>.ref a
 | _=>.none
noncomputable def Zg:V->Bool
 | .ty _=>true
 | .ref _=>true
 | _=>false
theorem RelV.cls {c:V}{u:Value}(r:RelV c u)(h:Zg c=true):u=Wj c:=by
 cases c with
 | ty n=>exact r
 | ref a=>exact r
 | _=>cases h
theorem Vals.cls:∀{cs:List V}{us:List Value},Vals cs us->cs.all Zg=true->us=cs.map Wj
 | _,_,.nil,_=>rfl
 | _,_,.cons r t,h=>by
  rw [List.all_cons,Ycc] at h;rw [Yaq,r.cls h.1,Vals.cls t h.2]
noncomputable def ZgN (K:W.Frag):List V->Hp->VK->Prop:=λxs H Q=>∃x c b,xs=[x,c]/\Q (.bl b) H /\
 ((∃t,Yb K H x t/\Zg c=true/\W.kitOne K t (Wj c)=some b) \/
  (∃a C,x=.ref a/\H a=some (ZgL a C)/\Zf1 K C/\Zg c=true/\W.kitOne K (.ref C) (Wj c)=some b) \/
  (∃a C j cs,x=.ref a/\H a=some (ZgL a C)/\Zf1 K C/\c=.ref j/\H j=some (.tup cs)/\cs.all Zg=true/\W.kitAny K (.ref C) (cs.map Wj)=some b))
theorem ZaK {X:Cx}:Oi X (.builtin "isinstance") (ZgN X.K):=by
 intro qQ s σ H xs us Q I U h;obtain ⟨x,c,b,rfl,q,h⟩:=h;obtain ⟨u,Y,rfl,ru,B⟩:=U.two;have fin:∀tk,EP X qQ σ Q (.bool b) { s with toks:=tk }:=λtk=>⟨.bl b,H,I.tok tk,rfl,q⟩;rcases h with ⟨t,ty,j,e⟩ | ⟨a,C,rfl,ha,k,j,e⟩ | ⟨a,C,O,cs,rfl,ha,k,rfl,Z,j,e⟩
 ·rw [B.cls j];exact Y1 I ru ty e fin
 ·rw [B.cls j];cases (show u=Value.ref a from ru);obtain ⟨p,_⟩:=I.hok a _ ha;exact Ycs (Xp k) I.kIn p e (λz=>nomatch z) fin
 ·cases (show u=Value.ref a from ru);cases (show Y=Value.ref O from B);obtain ⟨p,_⟩:=I.hok a _ ha;obtain ⟨_,its,r,o,eo,co,n,dn⟩:=I.hok O _ Z;obtain ⟨D,aa,L,ab⟩:=o;cases (show D=.type "tuple" from co);cases (show L=.seq its.toArray n from dn);exact W.kia_tup (its:=its) (Xp k) I.kIn p eo (by rw [r.cls j];exact e) (λz=>nomatch z) fin
mutual
inductive DatV (K:W.Frag)(H:Hp):V->PyData->Prop
 | non:DatV K H .non .none
 | bl (b:Bool):DatV K H (.bl b) (.bool b)
 | int (i:Int):DatV K H (.int i) (.int i)
 | str (x:Str):DatV K H (.str x) (.str x)
 | lst {a:Addr} {xs:List V} {ds:List PyData}:SqL K H a xs->DatVs K H xs ds->DatV K H (.ref a) (.list ds)
 | tup {a:Addr} {xs:List V} {ds:List PyData}:SqT K H a xs->DatVs K H xs ds->DatV K H (.ref a) (.tuple ds)
inductive DatVs (K:W.Frag)(H:Hp):List V->List PyData->Prop
 | nil:DatVs K H [] []
 | cons {x:V} {d:PyData} {xs:List V} {ds:List PyData}:DatV K H x d->DatVs K H xs ds->DatVs K H (x::xs) (d::ds)
end
section
variable {X:Cx}{qQ:List (Addr×Obj)}{σ:St}{H:Hp}{s:Shared}
mutual
theorem DatV.reads (I:Inv X qQ σ H s):∀{x:V}{d:PyData}{u:Value},DatV X.K H x d->RelV x u->∃j,Reads s.heap u d j
 | _,_,_,.non,r=>by cases r;exact ⟨_,.none⟩
 | _,_,_,.bl b,r=>by cases r;exact ⟨_,.bool b⟩
 | _,_,_,.int i,r=>by obtain ⟨t,rfl⟩:=r;exact ⟨_,.int i t⟩
 | _,_,_,.str x,r=>by obtain ⟨t,rfl⟩:=r;exact ⟨_,.str x t⟩
 | _,_,_,.lst hq hs,r=>by
  cases r;obtain ⟨its,B,⟨o,n,e,c,O,D⟩,_⟩:=I.list hq;obtain ⟨j,L⟩:=DatVs.reads I hs B;exact ⟨_,.list e c D (by simpa using L)⟩
 | _,_,_,.tup hq hs,r=>by
  cases r;obtain ⟨its,B,⟨o,e,c,n,D⟩,_⟩:=I.tuple hq;obtain ⟨j,L⟩:=DatVs.reads I hs B;exact ⟨_,.tuple e c D (by simpa using L)⟩
theorem DatVs.reads (I:Inv X qQ σ H s):∀{xs:List V}{ds:List PyData}{us:List Value},DatVs X.K H xs ds->Vals xs us->∃j,ReadsAll s.heap us ds j
 | _,_,_,.nil,.nil=>⟨_,.nil⟩
 | _,_,_,.cons h hs,.cons r rs=>by
  obtain ⟨j,ra⟩:=DatV.reads I h r;obtain ⟨bs,B⟩:=DatVs.reads I hs rs;exact ⟨_,.cons ra B⟩
end
end
noncomputable def Zfu (K:W.Frag)(j:Bool):R2:=λx y H Q=>∃B D,DatV K H x B/\DatV K H y D/\SeqAt.shaped B=true/\SeqAt.shaped D=true/\Q (.bl (j != PyData.eqv B D)) H
theorem Zd6 {X:Cx}(j:X.A.units+64<cLine):OpR X (compareOp .Eq) (Zfu X.K false):=by
 intro qQ s σ H x y v u Q I B D h;obtain ⟨L,O,h1,h2,U,Y,q⟩:=h;obtain ⟨as,Z⟩:=h1.reads I B;obtain ⟨bs,r2⟩:=h2.reads I D;exact eq_dataH Z r2 U Y j ⟨.bl _,H,I,by cases PyData.eqv L O <;> rfl,q⟩
theorem Zd7 {X:Cx}(j:X.A.units+64<cLine):OpR X (compareOp .NotEq) (Zfu X.K true):=by
 intro qQ s σ H x y v u Q I B D h;obtain ⟨L,O,h1,h2,U,Y,q⟩:=h;obtain ⟨as,Z⟩:=h1.reads I B;obtain ⟨bs,r2⟩:=h2.reads I D;exact ne_dataH Z r2 U Y j ⟨.bl _,H,I,by cases PyData.eqv L O <;> rfl,q⟩
noncomputable def Lt2 (p:Nat)(a:Int):Prop:=a.natAbs<2 ^ p
theorem Lt2.mono {a:Int}{p q:Nat}(h:Lt2 p a)(j:p<=q):Lt2 q a:=Yax h (Nat.pow_le_pow_right (by decide) j)
noncomputable def Zf2 (i j:Int):Prop:=0<j/\Lt2 9000 j
theorem Xq {X:Cx}:OpR X (binaryOp .FloorDiv) (rI Zf2 λi j=>.int (i / j)):=opI λi j _ _ _ _ _ B q=>by
 have h1:(0:Int)<j:=B.1;have h2:j.natAbs<2 ^ 9000:=B.2;refine floordiv_int (by lia) (by rw [Int.fdiv_eq_ediv_of_nonneg i (by lia)];exact q) (.inl (PyProof.noPylong_of_log2 ?_));exact (Nat.log2_lt (by lia)).mpr h2
theorem Same.new {H:Hp}{p:Addr}{o:HO}(h:H p=none):Same H (upd H p o):=λb u e=>by rw [Gn (Gf e h)];exact e
theorem nwU {H:Hp}{p:Addr}{o:HO}(h:H p=none):∃H1,upd H p o=H1/\Same H H1/\H1 p=some o:=⟨_,rfl,Same.new h,Gb⟩
theorem Same.put {H H1:Hp}{p:Addr}{o:HO}(s:Same H H1)(h:H p=none):Same H (upd H1 p o):=λb u e=>by rw [Gn (Gf e h)];exact s b u e
theorem Gi {H:Hp}{p b:Addr}{o u:HO}(h:H b=some u)(n:b≠p):upd H p o b=some u:=by rw [Gn n];exact h
theorem Jq {H:Hp}{l:Addr}{zs:List V}{o:HO}(h:H l=some (.lst zs)):∀p ys,H p=some (.tup ys)->upd H l o p=some (.tup ys):=λp ys e=>Gi e (GV e h (λz=>by cases z))
section
variable {P:Program}{w:World}{K:W.Frag}{mg:Str->Option Value}{base:Heap}
theorem Fun.okR {x qual:Str}{st:Stmt}{f:Addr}{fd:FuncData}{N ps:List Str}{k:Nat}{sp:Sp}(F:Fun K x qual st f fd)(S:Gs N ps (Gh st))(len:∀vs H Q E,sp vs H Q E->vs.length=ps.length)(L:∀(j:Value)(A:Around)(outer:List Env)(s:Shared)(H:Hp)(vs:List V)(Q:VK)(E:XK),Room k (A.deeper (envOfC qual (Gh st) s.heap.objs.size f j))->sp vs H Q E ->
   ∃t,PSs (Ye (CXr P w) P w K mg base N qual (Gh st) f j A outer s H E) (GM st) t/\t { nx:=λ_ H'=>Q .non H',rt:=Q } (start N vs) H):FnOk P w K mg base (CXr P w) (k+1) f fd ps sp:=by
 obtain ⟨oc,od,kV,O,pm,an,j,ct,U,rfl,Y,B⟩:=F.ex;refine Y6 Y B S len λA outer s H vs Q E Z D=>?_;obtain ⟨t,h,q⟩:=L j A outer s H vs Q E Z D;exact ⟨t,h,q⟩
end
section
variable {X:Cx}
theorem Uz {x:Str}{T:String}{pos:Pos}(j:X.mg x=none)(B:bootBuiltins x=some (.type T))(D:Gl X x:=by rfl)(L:x ≠ "__name__" := by decide)(hd:(x == ("__debug__" : Str))=false:=by decide):PE X (.Name x pos) (tC (.ty T)):=Zci D j B rfl L hd
end
theorem JM:bootBuiltins "isinstance" = some (.builtin "isinstance"):=by first | rfl | decide +kernel
theorem Jd:bootBuiltins "tuple" = some (.type "tuple"):=by first | rfl | decide +kernel
theorem UA:bootBuiltins "list" = some (.type "list"):=by first | rfl | decide +kernel
theorem Zh:bootBuiltins "bool" = some (.type "bool"):=by first | rfl | decide +kernel
theorem Uf:bootBuiltins "int" = some (.type "int"):=by first | rfl | decide +kernel
theorem Oa {K:W.Frag}{t:Value}:W.kitOne K t t=some true:=by
 unfold W.kitOne;rw [if_pos (beq_self_eq_true t)]
section
variable {X:Cx}(K:W.Frag)
theorem ZcA (h:X.K=K:=by rfl):Oi X (.builtin "isinstance") (ZgN K):=h▸ZaK
theorem On (h:X.K=K:=by rfl):IxR X (ZgI K):=h▸Zcu
theorem U7 (h:X.K=K:=by rfl):IxR X (ZgJ K):=h▸ZdZ
theorem ZbO (h:X.K=K:=by rfl):OpR X (compareOp .NotIn) (rIn K true):=h▸Wc
theorem YI (h:X.K=K:=by rfl):Oi X (.builtin "len") (λxs H Q=>∃p ys,xs=[.ref p]/\(SqL K H p ys\/SqT K H p ys)/\Q (.int ys.length) H):=h▸Wd
theorem Zi (h:X.K=K:=by rfl):Oi X (.type "list") (λxs H Q=>∃p ys,xs=[.ref p]/\(SqL K H p ys\/SqT K H p ys)/\∀l,H l=none->Q (.ref l) (upd H l (.lst ys))):=h▸We
theorem Zd8 (j:X.A.units+64<cLine)(h:X.K=K:=by rfl):OpR X (compareOp .Eq) (Zfu K false):=h▸Zd6 j
theorem ZcB (j:X.A.units+64<cLine)(h:X.K=K:=by rfl):OpR X (compareOp .NotEq) (Zfu K true):=h▸Zd7 j
theorem kSl (h:X.K=K:=by rfl):SlR X (ZgK K):=h▸Zcv
theorem ZdB {es:List Expr}{k:Nat}{t:TGs}{n:Nat}{pos:Pos}(B:X.calm=true)(h:PGs X es t)(D:X.K=K:=by rfl)(L:(assignEach es X.env).length=n:=by rfl)(j:(assignEach es X.env).findIdx? (·.1)=none:=by rfl):PG X (.Tuple es k pos) (ZgC K n t):=D▸ZdN B h L j
theorem Jz {tg l:Expr}{tl:TE}(j:PE X l tl)(h:X.K=K:=by rfl):PI X tg l (ZdP K tl):=h▸Zck j
end
end L2
namespace L2
open PySem PySem.Spec PyProof.Rows
noncomputable def AllP {α:Type}(P:α->Prop):List α->Prop
 | []=>True
 | x::r=>P x/\AllP P r
theorem AllP.mem {α:Type}{P:α->Prop}:∀{l:List α},AllP P l->∀x∈l,P x
 | _::_,h,_,.head _=>h.1
 | _::_,h,x,.tail _ m=>AllP.mem h.2 x m
theorem Gq {X:Cx}{scope:Scope}{cl:List (Str×Addr)}{own:List Str}{fr:List (Str×Nat)}(L:List (Str×NameKind))(j:closureFor scope X.env=pure cl)(O:(relabel scope X.env).names=L)(Y:∀y∈scope.names,y.2≠.cell)(Z:scope.kind=.function)(hn:∀y∈scope.names,y.2=.local->scope.names.lookup y.1=some .local)(B:AllP (λp=>X.env.cells.lookup p.1=some p.2) cl)(U:AllP (λp=>(p.2=.cell\/p.2=.free)->∃c,cl.lookup p.1=some c) L)(D:AllP (λp=>X.N[p.2]?=some p.1/\(X.env.kindOf p.1=some .cell\/X.env.kindOf p.1=some .free)/\(L.lookup p.1=some .cell\/L.lookup p.1=some .free)) fr):JF X scope cl own fr:=
 ⟨j,Y,Z,hn,λy c h=>B.mem (y,c) (Ycb h),λy h=>by
  rw [O] at h;rcases h with h | h
  ·exact U.mem _ (Ycb h) (.inl rfl)
  ·exact U.mem _ (Ycb h) (.inr rfl),λp hp=>by
  rw [O];exact D.mem p hp⟩
theorem G7 {k:NameKind}{P:Prop}(h:k=.cell\/k=.free)(h1:(k == .cell)=false:=by rfl)(h2:(k == .free)=false:=by rfl):P:=by
 rcases h with z | z
 ·subst z;exact absurd h1 (by decide)
 ·subst z;exact absurd h2 (by decide)
theorem Vv:bootBuiltins "min" = some (.builtin "min"):=by first | rfl | decide +kernel
theorem Gw {t u:TS}{D:YH}{σ:St}{H:Hp}(B:St->Hp->Prop)(h2:∀ j H',B j H'->u D j H')(h1:(∀ j H',B j H'->u D j H')->t { D with nx:=u D } σ H):Zfs t u D σ H:=h1 h2
section
variable {X:Cx}
theorem ZcC:UnR X (unaryOp .USub) (rU λi=>.int (-i)):=by
 intro qQ s σ H x v Q I j h;obtain ⟨i,rfl,q⟩:=h;obtain ⟨t,rfl⟩:=j;exact neg_int ⟨.int (-i),H,I.tok _,⟨_,rfl⟩,q⟩
theorem ZbP {xs:List V}{k:Nat}:Xi xs none (some (k:Int))=xs.take k:=by
 unfold Xi;rw [HT.sIx_none,HT.sIx_nat,List.drop_zero,Nat.sub_zero];by_cases h:k<=xs.length
 ·rw [Yds h]
 ·rw [Nat.min_eq_right (by lia),Ybn,Yeh (by lia)]
theorem G3 {K:W.Frag}{H:Hp}:∀ns:List Int,DatVs K H (ns.map V.int) (ns.map PyData.int)
 | []=>.nil
 | n::ns=>.cons (.int n) (G3 ns)
theorem Ug:∀ns:List Int,PyData.canLayAll0 (ns.map PyData.int)=true
 | []=>by simp [PyData.canLayAll0]
 | n::ns=>by
  rw [Yaq];simp [PyData.canLayAll0,PyData.canLay0,Ug ns]
theorem JG:∀ns:List Int,PyData.depthAll (ns.map PyData.int)<=1
 | []=>by simp [PyData.depthAll]
 | n::ns=>by
  have ih:=JG ns;rw [Yaq];simp only [PyData.depthAll,PyData.depth]
  lia
theorem G6 (ns:List Int):SeqAt.shaped (.list (ns.map PyData.int))=true:=by
 unfold SeqAt.shaped;rw [Ycc];have:=JG ns;refine ⟨by simp only [PyData.canLay0];exact Ug ns,Ybm ?_⟩;simp only [PyData.depth]
 lia
theorem OA (ns ms:List Int):PyData.eqv (.list (ns.map PyData.int)) (.list (ms.map PyData.int))=decide (ns=ms):=by
 rw [<-W.ked_eqvAll];simp only [PyData.eqv]
theorem Zd9 {P:Program}{w:World}{K:W.Frag}{mg:Str->Option Value}{base:Heap}{N:List Str}{qual:Str}{scope:Scope}{f:Addr}{cd:Value}{A:Around}{outer:List Env}{s:Shared}{H:Hp}{E:XK} :
  Ol (CXr P w) (Ye (CXr P w) P w K mg base N qual scope f cd A outer s H E) E:=by
 intro qQ σ H1 s1 ev s' I h;obtain ⟨a,C,H',rfl,⟨t,B,os,U,un,Y,fl,trk,old⟩,hE⟩:=h;have ab:=I.ok.frames;have nox:∀b:Addr,b ∉ (Ye (CXr P w) P w K mg base N qual scope f cd A outer s H E).ex:=λb z=>absurd (show b∈([]:List Addr) from z) (by simp);refine wpAny_leaves_onW ab rfl fl λh2 D sm=>?_;obtain ⟨u2,k2⟩:=ZaI (t:=t) (a:=a) (C:=C) un Y fl.2.2.1 trk old D.1 sm;have u1:Un (frs (envOfC qual scope s.heap.objs.size f cd::outer)) [] H H1 s.heap s1.heap:=Un.mono I.base (λb j=>by
  have ac:b∈frs outer:=j;obtain ⟨L,he,q⟩:=Ydk.mp ac;exact Ydk.mpr ⟨L,Ybf _ he,q⟩) (λb j=>absurd j (nox b))
 have O:=u1.trans u2;have Z:∀b o,s.heap.get? b=some o->b ∉ frs outer->b ∉ frs (envOfC qual scope s.heap.objs.size f cd::outer):=λb o e j z=>by
  rcases Yau.mp (I.stkSub b z) with q | q
  ·exact absurd (Yax (Yal e) I.ok.above) (by rw [q];exact Ycf _)
  ·exact j q
 have aa:∀b,b∈frs outer->b∈frs (envOfC qual scope s.heap.objs.size f cd::outer):=λb j=>by
  obtain ⟨L,he,q⟩:=Ydk.mp j;exact Ydk.mpr ⟨L,Ybf _ he,q⟩
 refine ⟨a,C,H',rfl,⟨t,B,os.trans I.os,U,⟨λb o e n j hx=>O.keep b o e n (Z b o e j) hx,λb o e n j hx=>O.slot b o e n (aa b j) hx,O.free,O.there,O.tups,O.frzs,O.tbls⟩,k2,D,λb o e n=>?_,λb o0 o e0 e nb=>?_⟩,hE⟩
 ·cases q':H' b with
  | none=>exact absurd q' n
  | some u=>
   obtain ⟨v,q⟩:=(Y b u q').there;have e1:=trk b v q n;have e2:=D.1 b v e1;have e':h2.get? b=some o:=e;rw [e'] at e2;cases e2;exact e1
 ·obtain ⟨o1,e1⟩:=u1.there b o0 e0 (by simp);obtain ⟨o2,e2⟩:=un.there b o1 e1 (by simp);have e3:=old b o1 o2 e1 e2 (Z b o0 e0 nb);have e4:=D.1 b o2 e3;have e':h2.get? b=some o:=e;rw [e'] at e4;cases e4;exact e3
noncomputable def Zf3 (K:W.Frag)(j:Bool):R2:=λx y H Q=>∃p xs d ds,y=.ref p/\(SqL K H p xs\/SqT K H p xs)/\DatV K H x d/\DatVs K H xs ds/\SeqAt.shaped d=true/\(∀e∈ds,SeqAt.shaped e=true)/\Q (.bl (j != ds.any λe=>PyData.eqv e d)) H
open Classical in
noncomputable def OX (h:Heap)(u:Value):PyData:=if q:∃d j,Reads h u d j/\SeqAt.shaped d=true then choose q else .none
theorem ZaL {h:Heap}{u:Value}{d:PyData}{as:List Addr}(r:Reads h u d as)(j:SeqAt.shaped d=true):OX h u=d:=by
 have q:∃d as,Reads h u d as/\SeqAt.shaped d=true:=⟨d,as,r,j⟩;unfold OX;rw [dif_pos q];obtain ⟨B,r',s'⟩:=Classical.choose_spec q;exact SeqAt.Reads.unique _ _ _ _ _ (SeqAt.canLay_of_shaped s') r' r
theorem ZbQ {h:Heap}:∀{us:List Value}{ds:List PyData}{as:List Addr},ReadsAll h us ds as->(∀e∈ds,SeqAt.shaped e=true)->(∀u∈us,∃B,Reads h u (OX h u) B/\SeqAt.shaped (OX h u)=true)/\us.map (OX h)=ds
 | _,_,_,.nil,_=>⟨λu j=>by simp at j,rfl⟩
 | _,_,_,.cons r rs,hs=>by
  obtain ⟨i1,i2⟩:=ZbQ rs λe L=>hs e (Ybf _ L);have h0:=hs _ (Yaw ..);have D:=ZaL r h0;refine ⟨λu j=>?_,by rw [Yaq,D,i2]⟩;rcases Yau.mp j with rfl | j
  ·rw [D];exact ⟨_,r,h0⟩
  ·exact i1 u j
theorem ZaM {h:Heap}{us:List Value}{ds:List PyData}{d:PyData}(e:us.map (OX h)=ds):us.any (λu=>PyData.eqv (OX h u) d)=ds.any λe=>PyData.eqv e d:=by
 rw [<-e,List.any_map]
 rfl
theorem ZbR {B:Bool}{c:CmpOp}(hc:(B=false/\c=.In)\/(B=true/\c=.NotIn))(hu:X.A.units+65<cLine):OpR X (compareOp c) (Zf3 X.K B):=by
 intro qQ s σ H x y v u Q I rx ry h;obtain ⟨p,xs,d,ds,rfl,O,hd,U,sd,Y,q⟩:=h;cases ry;obtain ⟨as,ra⟩:=hd.reads I rx;have Z:X.A.in1.units+64<cLine:=by rw [Around.in1_units];lia
 have key:∀its:List Value,Vals xs its->(∀w∈its,SeqAt.EqAt X.A.in1 s w v (PyData.eqv (OX s.heap w) d))/\its.toArray.any (λw=>PyData.eqv (OX s.heap w) d)=ds.any λe=>PyData.eqv e d:=λits r=>by
  obtain ⟨bs,rb⟩:=U.reads I r;obtain ⟨D,L⟩:=ZbQ rb Y;refine ⟨λw j=>?_,?_⟩
  ·obtain ⟨aa,r',s'⟩:=D w j;exact W.keq_at r' ra s' sd Z
  ·rw [List.any_toArray];exact ZaM L
 rcases O with O | O
 ·obtain ⟨its,r,pl,hz⟩:=I.list O;obtain ⟨D,L⟩:=key its r;rcases hc with ⟨rfl,rfl⟩ | ⟨rfl,rfl⟩
  ·refine SeqAt.in_listAt (λw=>PyData.eqv (OX s.heap w) d) pl.isList (λw j=>D w (by simpa using j)) ⟨.bl _,H,I,rfl,?_⟩;rw [L];simpa using q
  ·refine SeqAt.notIn_listAt (λw=>PyData.eqv (OX s.heap w) d) pl.isList (λw j=>D w (by simpa using j)) ⟨.bl _,H,I,rfl,?_⟩;rw [L];simpa using q
 ·obtain ⟨its,r,pl,hz⟩:=I.tuple O;obtain ⟨D,L⟩:=key its r;rcases hc with ⟨rfl,rfl⟩ | ⟨rfl,rfl⟩
  ·refine SeqAt.in_tupleAt (λw=>PyData.eqv (OX s.heap w) d) pl (λw j=>D w (by simpa using j)) ⟨.bl _,H,I,rfl,?_⟩;rw [L];simpa using q
  ·refine SeqAt.notIn_tupleAt (λw=>PyData.eqv (OX s.heap w) d) pl (λw j=>D w (by simpa using j)) ⟨.bl _,H,I,rfl,?_⟩;rw [L];simpa using q
theorem Zhd (K:W.Frag)(j:X.A.units+65<cLine)(h:X.K=K:=by rfl):OpR X (compareOp .In) (Zf3 K false):=h▸ZbR (.inl ⟨rfl,rfl⟩) j
theorem Zj (K:W.Frag)(j:X.A.units+65<cLine)(h:X.K=K:=by rfl):OpR X (compareOp .NotIn) (Zf3 K true):=h▸ZbR (.inr ⟨rfl,rfl⟩) j
end
section
variable {X:Cx}
noncomputable def Ite (K:W.Frag)(a:Addr):It:=
 ⟨λi H=>∃xs x,SqL K H a xs/\xs[i]?=some x,λi H x H'=>∃T y,x=.ref T/\H T=none/\H'=upd H T (.tup [.int (i:Nat),y])/\∀xs,SqL K H a xs->xs[i]?=some y,λi H=>∃xs,SqL K H a xs/\xs.length<=i⟩
theorem Zk {P:Program}{w:World}{K:W.Frag}{elts:List Expr}{k:Nat}{pos:Pos}(a e it:Addr)(hne:e≠it) :
  Zdx P w K (.Tuple elts k pos) (Ite K a) [e,it] e (λi h=>(∃old,IsEnum h e it ((i:Nat):Int) old)/\h.IsListIter it a i) where
 mem:=by simp
 obj:=λi h st b hb=>by
  obtain ⟨⟨old,he⟩,⟨o,ei,c,d⟩⟩:=st;rcases Yau.mp hb with rfl | hb
  ·exact ⟨_,he,λv z=>by
    have z':Data.fields _=Data.cell v:=z;cases z'⟩
  ·have eb:b=it:=by simpa using hb
   subst eb;exact ⟨o,ei,λv z=>by rw [d] at z;cases z⟩
 keep:=λi h h' st q=>by
  obtain ⟨⟨old,he⟩,hi⟩:=st;exact ⟨⟨old,q e (by simp) _ he⟩,hi.at λo ho=>q it (by simp) o ho⟩
 item:=by
  intro X hP hw hK hc i qQ s σ H E I hf st hg;subst hP hw hK;obtain ⟨xs,x,hq,hx⟩:=hg;obtain ⟨its,rv,p,hz⟩:=I.list hq;obtain ⟨u,hu,ru⟩:=rv.get hx;obtain ⟨⟨old,he⟩,hit⟩:=st;refine wpAny_pyNext_enum_item he hit p.isList (x:=u) (by simpa using hu) hne λh1 heo hit1 ht1 hz1 hk1=>?_;refine ⟨_,rfl,wpAny_letOwnedTupleGo_enum (s:={ s with heap:=h1,toks:=s.toks+1 }) heo λh2 he2 hs2=>?_⟩;have hs2':Heap.SameBut e h1 h2:=hs2;have hfr:H s.heap.objs.size=none:=I.fresh;have hel:e<s.heap.objs.size:=Yal he;have kk:∀b o,b ∉ [e,it]->s.heap.get? b=some o->h2.get? b=some o:=λb o hb q=>by
   have n1:b≠e:=λz=>hb (by simp [z]);have n2:b≠it:=λz=>hb (by simp [z]);exact (hs2'.2 b n1).trans (hk1 b o n1 n2 q)
  have nT:∀b o,s.heap.get? b=some o->b≠s.heap.objs.size:=λb o q=>Yay (Yal q);have trk:∀c u,H c=some u->c ∉ [e,it]:=λc u q z=>by
   rw [(hf c z).1] at q;cases q
  refine ⟨.ref s.heap.objs.size,upd H s.heap.objs.size (.tup [.int (i:Nat),x]),I.call' (ch:=[e,it]) rfl ⟨λb o q _ _ hb=>kk b o hb q,λb o q _ _ hb=>⟨o.slots,kk b o hb q⟩,λb o q n _=>by rw [Gn (nT b o q)];exact n,
   λb o q hb=>⟨o,kk b o hb q⟩,λb ys q=>by rw [Gn (Gf q hfr)];exact q,λb o u q=>by rw [Gn (Gf q hfr)];exact q,λb ps q=>⟨#[],by rw [Gn (Gf q hfr),q];simp⟩⟩ (λb v q=>?_) I.bare (λb hb=>?_),
   rfl,⟨_,x,rfl,hfr,rfl,λys hy=>by rw [I.list_inj hy hq];exact hx⟩,⟨⟨_,by rw [Int.natCast_add];exact he2⟩,hit1.extBut hs2'.extBut (Ne.symm hne)⟩,λb hb=>?_⟩
  ·by_cases hb:b=s.heap.objs.size
   ·subst hb;rw [Gb] at q;cases q;refine ⟨by have h16:=Ybi.symm;rw [<-h16];show 2<=16777216;lia,[.int (i:Nat) s.toks,u],.cons ⟨_,rfl⟩ (.cons ru .nil),⟨_,(hs2'.2 _ (Nat.ne_of_gt hel)).trans ht1,rfl,_,rfl⟩⟩
   ·rw [Gn hb] at q;refine (I.hok b v q).stay (λc v' hc z=>kk c v' ?_ z) (λc z=>by rw [Gn (Gf z hfr)];exact z) λc ys z=>by rw [Gn (Gf z hfr)];exact z
    rcases hc with rfl | hc
    ·exact trk _ _ q
    ·exact trk _ _ hc
  ·obtain ⟨f0,f1,f2,f3,f4,f5⟩:=hf b hb;exact ⟨f3,f1,f4,f5⟩
  ·have ho:∃o,s.heap.get? b=some o:=by
    rcases Yau.mp hb with rfl | hb
    ·exact ⟨_,he⟩
    ·have eb:b=it:=by simpa using hb
     subst eb;obtain ⟨o,ei,_⟩:=hit;exact ⟨o,ei⟩
   obtain ⟨o,ho⟩:=ho;rw [Gn (nT b o ho)];exact (hf b hb).1
 done:=by
  intro X hP hw hK hc i qQ s σ H E I hf st hg;subst hP hw hK;obtain ⟨xs,hq,hx⟩:=hg;obtain ⟨its,rv,p,hz⟩:=I.list hq;obtain ⟨⟨old,he⟩,hit⟩:=st;obtain ⟨f0,f1,f2,f3,f4,f5⟩:=hf it (by simp);have hl:=rv.length;exact wpAny_pyNext_enum_end (I.ok.hd hc) he hit p.isList (by simp;lia) λh' eb=>⟨rfl,I.turned (t':=s.toks) (λb o hb q=>eb b o hb q) f0 f1 f3 f4 f5⟩
 self:=λ_ _ _ _ _ ⟨⟨_,he⟩,_⟩ h=>wpAny_pyIter_enum he h
noncomputable def Zea (K:W.Frag)(ta:TA):TI:=λσ H R=>ta σ H λvs H1=>∃a xs,vs=[.ref a]/\SqL K H1 a xs/\R (Ite K a) H1
theorem ZcD {B:List Expr}{k:Nat}{U:Pos}{l:Expr}{ta:TA}{p pos:Pos}(Y:Gl X "enumerate")(Z:X.mg "enumerate" = none)(ha:PA X [l] ta)(hs:starEach [l] X.env=[(false,eval l X.env)]:=by rfl) :
  PI X (.Tuple B k U) (.Call (.Name "enumerate" p) [l] [] pos) (Zea X.K ta):=by
 intro qQ s σ H R I h;refine Call_ (UT I Y Z boot_enumerate (PyProof.Rows.callWith_type1 (thG (ha pos qQ s σ H _ I h) λus j vs H1 D r1 q1=>?_) hs rfl));obtain ⟨a,xs,e,hq,q⟩:=q1;subst e;obtain ⟨u,rfl,ru⟩:=r1.one;cases ru;obtain ⟨its,rv,pl,hz⟩:=D.list hq;refine call_enumerate_list pl.isList λh' O hI aa hk=>?_;refine wpAny_pyIter_enum O ?_;refine ⟨j.heap.objs.size+1,[j.heap.objs.size+1,j.heap.objs.size],_,_,H1,rfl,D.kept (t':=j.toks) hk,Zk a _ _ (Nat.succ_ne_self _),⟨⟨_,O⟩,hI⟩,λb L=>?_,q⟩;have e:j.heap.objs.size<=b:=by
  rcases Yau.mp L with rfl | L
  ·exact Ydd _
  ·have eb:b=j.heap.objs.size:=by simpa using L
   rw [eb];exact Yad _
 exact D.fpOk e (D.hok.fresh e)
theorem Zf4 (K:W.Frag){j:List Expr}{k:Nat}{B:Pos}{l:Expr}{ta:TA}{p pos:Pos}(D:Gl X "enumerate")(L:X.mg "enumerate" = none)(ha:PA X [l] ta)(h:X.K=K:=by rfl)(O:starEach [l] X.env=[(false,eval l X.env)]:=by rfl) :
  PI X (.Tuple j k B) (.Call (.Name "enumerate" p) [l] [] pos) (Zea K ta):=h▸ZcD D L ha O
end
section
variable {κ:Type}[DecidableEq κ]
noncomputable def JW (kvs:List (κ×V))(k:κ):Option V:=(kvs.find? λj=>decide (j.1=k)).map (·.2)
noncomputable def JI (kvs:List (κ×V))(k:κ)(v:V):List (κ×V):=
 if (kvs.any λj=>decide (j.1=k))=true then kvs.map (λj=>if j.1=k then (j.1,v) else j) else kvs++[(k,v)]
theorem Jg {p:κ×V}{r:List (κ×V)}{k:κ}(e:p.1=k):JW (p::r) k=some p.2:=by simp [JW,Ycg,e]
theorem Jh {p:κ×V}{r:List (κ×V)}{k:κ}(e:¬ p.1=k):JW (p::r) k=JW r k:=by simp [JW,Ycg,e]
theorem Uh (k:κ):∀kvs:List (κ×V),(kvs.any λkv=>decide (kv.1=k))=(JW kvs k).isSome
 | []=>rfl
 | p::r=>by
  rw [List.any_cons];by_cases e:p.1=k
  ·simp only [Jg e,Ybm e,Bool.true_or,Option.isSome_some]
  ·rw [Jh e,Ybx e,Bool.false_or];exact Uh k r
theorem Xr (k j:κ)(y:V):∀kvs:List (κ×V),JW (kvs.map λB=>if B.1=k then (B.1,y) else B) j=(JW kvs j).map λx=>if j=k then y else x
 | []=>rfl
 | p::r=>by
  have ih:=Xr k j y r;rw [Yaq];by_cases h:p.1=k
  ·rw [if_pos h];by_cases e:p.1=j
   ·rw [Jg (p:=(p.1,y)) e,Jg e,Option.map_some,if_pos (e.symm.trans h)]
   ·rw [Jh (p:=(p.1,y)) e,Jh e,ih]
  ·rw [if_neg h];by_cases e:p.1=j
   ·rw [Jg (p:=p) e,Jg e,Option.map_some,if_neg (λz=>h (e.trans z))]
   ·rw [Jh (p:=p) e,Jh e,ih]
theorem Wl (k j:κ)(y:V):∀kvs:List (κ×V),JW kvs k=none->JW (kvs++[(k,y)]) j=if j=k then some y else JW kvs j
 | [],_=>by
  by_cases e:k=j
  ·rw [if_pos e.symm];exact Jg (p:=(k,y)) e
  ·rw [if_neg (λz=>e z.symm)];exact Jh (p:=(k,y)) e
 | p::r,hn=>by
  rw [List.cons_append];have hk:¬ p.1=k:=λz=>by rw [Jg z] at hn;cases hn
  rw [Jh hk] at hn;have B:=Wl k j y r hn;by_cases e:p.1=j
  ·rw [Jg e,Jg e,if_neg (λz=>hk (e.trans z))]
  ·rw [Jh e,Jh e,B]
theorem Jr (kvs:List (κ×V))(k j:κ)(y:V):JW (JI kvs k y) j=if j=k then some y else JW kvs j:=by
 unfold JI;by_cases a:(kvs.any λB=>decide (B.1=k))=true
 ·rw [if_pos a,Xr];rw [Uh] at a;by_cases e:j=k
  ·obtain ⟨x,D⟩:=Option.isSome_iff_exists.mp a;rw [if_pos e,e,D,Option.map_some,if_pos rfl]
  ·rw [if_neg e];cases JW kvs j with
   | none=>rfl
   | some x=>rw [Option.map_some,if_neg e]
 ·rw [if_neg a];refine Wl k j y kvs ?_;rw [Uh] at a;cases q:JW kvs k with
  | none=>rfl
  | some x=>rw [q] at a;exact (a rfl).elim
theorem Jj (kvs:List (κ×V))(k:κ)(v:V):(JI kvs k v).length<=kvs.length+1:=by
 unfold JI;split
 ·rw [Yab];lia
 ·rw [Yae,Ybq,List.length_nil];lia
theorem RelO.isSome_eq {o:Option V}{u:Option Value}(r:RelO o u):o.isSome=u.isSome:=by
 cases o with
 | none=>cases u with
  | none=>rfl
  | some _=>exact (show False from r).elim
 | some _=>cases u with
  | none=>exact (show False from r).elim
  | some _=>rfl
theorem RelO.getD {o:Option V}{u:Option Value}{d:V}{d':Value}(r:RelO o u)(rd:RelV d d'):RelV (o.getD d) (u.getD d'):=by
 cases o with
 | none=>cases u with
  | none=>exact rd
  | some _=>exact (show False from r).elim
 | some _=>cases u with
  | none=>exact (show False from r).elim
  | some _=>exact r
theorem KV.val {kvs:List (κ×V)}{vs:List (κ×Value)}(r:KV kvs vs)(k:κ):RelO (JW kvs k) (valueAt vs k):=by
 unfold KV at r
 induction r with
 | nil=>exact True.intro
 | @cons p q ps j h t D=>
  obtain ⟨h1,h2⟩:=h;by_cases e:p.1=k
  ·have B:q.1=k:=h1.symm.trans e;have b:valueAt (q::j) k=some q.2:=by simp [valueAt,Ycg,B]
   rw [Jg e,b];exact h2
  ·have B:¬ q.1=k:=λz=>e (h1.trans z);have b:valueAt (q::j) k=valueAt j k:=by simp [valueAt,Ycg,B]
   rw [Jh e,b];exact D
theorem KV.any {kvs:List (κ×V)}{vs:List (κ×Value)}(r:KV kvs vs)(k:κ):(kvs.any λj=>decide (j.1=k))=vs.any λj=>decide (j.1=k):=by
 unfold KV at r
 induction r with
 | nil=>rfl
 | cons h t ih=>rw [List.any_cons,List.any_cons,ih,h.1]
theorem KV.repl {kvs:List (κ×V)}{vs:List (κ×Value)}(r:KV kvs vs)(k:κ){y:V}{u:Value}(B:RelV y u) :
  KV (kvs.map λj=>if j.1=k then (j.1,y) else j) (vs.map λj=>if j.1=k then (j.1,u) else j):=by
 unfold KV at r ⊢
 induction r with
 | nil=>exact .nil
 | @cons p q ps qs h t ih=>
  rw [Yaq,Yaq];refine .cons ?_ ih;obtain ⟨h1,h2⟩:=h;by_cases e:p.1=k
  ·rw [if_pos e,if_pos (h1.symm.trans e)];exact ⟨h1,B⟩
  ·rw [if_neg e,if_neg (λz=>e (h1.trans z))];exact ⟨h1,h2⟩
theorem KV.put {kvs:List (κ×V)}{vs:List (κ×Value)}(r:KV kvs vs)(k:κ){y:V}{u:Value}(j:RelV y u):KV (JI kvs k y) (stored vs k u):=by
 unfold JI stored;rw [r.any k];by_cases e:(vs.any λB=>decide (B.1=k))=true
 ·rw [if_pos e,if_pos e];exact r.repl k j
 ·rw [if_neg e,if_neg e];exact Paired.snoc r ⟨rfl,j⟩
theorem KV.length {kvs:List (κ×V)}{vs:List (κ×Value)}(r:KV kvs vs):kvs.length=vs.length:=Ydi r
end
theorem Zl {P:Program}{w:World}{k:Key}{u:Value}(r:RelV (kV k) u):(G9 P w).is k u=true:=by
 cases k with
 | inl i=>obtain ⟨t,e⟩:=(show ∃t,u=Value.int i t from r);subst e;exact WK P w i t
 | inr x=>obtain ⟨t,e⟩:=(show ∃t,u=Value.str x t from r);subst e;exact WL P w x t
theorem Wm {P:Program}{w:World}:∀{ks:List Key}{us:List Value},Vals (ks.map kV) us->ItemsAre (G9 P w) ks us
 | [],_,r=>by rw [List.map_nil] at r;cases r;exact .nil
 | k::ks,_,r=>by
  rw [Yaq] at r;cases r with
  | cons h t=>exact .cons (Zl h) (Wm t)
noncomputable abbrev KT (H:Hp):List (List Key×V)->List (List Key×Addr×Value)->Prop:=Paired λp q=>p.1=q.1/\H q.2.1=some (.tup (p.1.map kV))/\RelV p.2 q.2.2
theorem KT.val {H:Hp}{kvs:List (List Key×V)}{xs:List (List Key×Addr×Value)}(r:KT H kvs xs)(k:List Key):RelO (JW kvs k) ((atKey xs k).map (·.2)):=by
 induction r with
 | nil=>exact True.intro
 | @cons p q ps j h t D=>
  obtain ⟨h1,_,h2⟩:=h;by_cases e:p.1=k
  ·have B:q.1=k:=h1.symm.trans e;have b:atKey (q::j) k=some q.2:=by simp [atKey,Ycg,B]
   rw [Jg e,b];exact h2
  ·have B:¬ q.1=k:=λz=>e (h1.trans z);have b:atKey (q::j) k=atKey j k:=by simp [atKey,Ycg,B]
   rw [Jh e,b];exact D
theorem KT.repl {H:Hp}{kvs:List (List Key×V)}{xs:List (List Key×Addr×Value)}(r:KT H kvs xs)(k:List Key){y:V}{u:Value}(B:RelV y u) :
  KT H (kvs.map λj=>if j.1=k then (j.1,y) else j) (xs.map (putAt k u)):=by
 induction r with
 | nil=>exact .nil
 | @cons p q ps qs h t ih=>
  rw [Yaq,Yaq];refine .cons ?_ ih;obtain ⟨h1,h2,D⟩:=h;unfold putAt;by_cases e:p.1=k
  ·rw [if_pos e,if_pos (h1.symm.trans e)];exact ⟨h1,h2,B⟩
  ·rw [if_neg e,if_neg (λz=>e (h1.trans z))];exact ⟨h1,h2,D⟩
theorem KT.put {H:Hp}{kvs:List (List Key×V)}{xs:List (List Key×Addr×Value)}(r:KT H kvs xs)(k:List Key){b:Addr}{y:V}{u:Value}(B:H b=some (.tup (k.map kV)))(j:RelV y u) :
  KT H (JI kvs k y) (storedH xs k b u):=by
 have e:(kvs.any λD=>decide (D.1=k))=(atKey xs k).isSome:=by
  rw [Uh,(r.val k).isSome_eq,Option.isSome_map]
 unfold JI storedH;rw [e];by_cases q:(atKey xs k).isSome=true
 ·rw [if_pos q,if_pos q];exact r.repl k j
 ·rw [if_neg q,if_neg q];exact Paired.snoc r ⟨rfl,B,j⟩
theorem KT.keeps {H H':Hp}{kvs:List (List Key×V)}{xs:List (List Key×Addr×Value)}(r:KT H kvs xs)(j:∀b ys,H b=some (.tup ys)->H' b=some (.tup ys)):KT H' kvs xs:=
 Paired.mapP r λ_ _ z=>⟨z.1,j _ _ z.2.1,z.2.2⟩
section
variable {P:Program}{w:World}{H:Hp}{h:Heap}{a:Addr}
theorem Zeb {u:HO}(ok:HOk P w H h)(e:Rd H a u):ObjOk P w H h a u:=e.ok ok
theorem ZaN {kvs:List (Key×V)}(ok:HOk P w H h)(e:Rd H a (.dK kvs)):kvs.length<=sizeLine/\(a == sysModules)=false/\∃vs,KV kvs vs/\h.DictOf (G9 P w) a vs:=
 show ObjOk P w H h a (.dK kvs) from Zeb ok e
theorem ZcE {kvs:List (Key×V)}(ok:HOk P w H h)(e:H a=some (.dK kvs)):kvs.length<=sizeLine/\(a == sysModules)=false/\∃vs,KV kvs vs/\h.DictOf (G9 P w) a vs:=ZaN ok (.inl e)
theorem Xs {ks:List Key}(ok:HOk P w H h)(e:H a=some (.tup (ks.map kV))):(tupleKind (G9 P w)).is h ks a:=by
 obtain ⟨_,its,r,o,h1,h2,n,j⟩:=(show ObjOk P w H h a (.tup (ks.map kV)) from ok a _ e);exact ⟨o,its.toArray,n,h1,h2,j,by simpa using Wm r⟩
theorem ZaO {kvs:List (List Key×V)}(ok:HOk P w H h)(e:Rd H a (.dT kvs)):kvs.length<=sizeLine/\(a == sysModules)=false /\
  ∃xs,KT H kvs xs/\h.DictOfH (tupleKind (G9 P w)) a xs:=by
 obtain ⟨z,y,xs,r,o,es,ep,h1,h2,B,D,L⟩:=(show ObjOk P w H h a (.dT kvs) from Zeb ok e);refine ⟨z,y,xs,r,o,es,ep,h1,h2,B,D,λx j=>?_,L⟩;have all:∀{l:List (List Key×V)}{m:List (List Key×Addr×Value)},KT H l m->∀x∈m,(tupleKind (G9 P w)).is h x.1 x.2.1:=by
  intro l m q
  induction q with
  | nil=>intro x j;exact nomatch j
  | @cons p q ps qs hq t ih=>
   intro x j;rcases Yau.mp j with e | j
   ·subst e;exact Xs ok (by rw [<-hq.1];exact hq.2.1)
   ·exact ih x j
 exact all r x j
theorem Zf5 {kvs:List (List Key×V)}(ok:HOk P w H h)(e:H a=some (.dT kvs)):kvs.length<=sizeLine/\(a == sysModules)=false /\
  ∃xs,KT H kvs xs/\h.DictOfH (tupleKind (G9 P w)) a xs:=ZaO ok (.inl e)
end
noncomputable def DGet (H:Hp)(a:Addr)(y:V)(r:Option V):Prop:=
 (∃kvs k,Rd H a (.dK kvs)/\y=kV k/\r=JW kvs k)\/∃kvs k b,Rd H a (.dT kvs)/\y=.ref b/\H b=some (.tup (k.map kV))/\r=JW kvs k
noncomputable def DPut (H:Hp)(a:Addr)(y v:V)(H':Hp):Prop:=
 (∃kvs k,H a=some (.dK kvs)/\y=kV k/\kvs.length<sizeLine/\H'=upd H a (.dK (JI kvs k v))) \/
 ∃kvs k b,H a=some (.dT kvs)/\y=.ref b/\H b=some (.tup (k.map kV))/\kvs.length<sizeLine/\H'=upd H a (.dT (JI kvs k v))
theorem DGet.k {H:Hp}{a:Addr}{kvs:List (Key×V)}{k:Key}(e:H a=some (.dK kvs)):DGet H a (kV k) (JW kvs k):=.inl ⟨kvs,k,.inl e,rfl,rfl⟩
theorem DGet.t {H:Hp}{a b:Addr}{kvs:List (List Key×V)}{k:List Key}(e:H a=some (.dT kvs))(j:H b=some (.tup (k.map kV))):DGet H a (.ref b) (JW kvs k):=.inr ⟨kvs,k,b,.inl e,rfl,j,rfl⟩
theorem DPut.k {H:Hp}{a:Addr}{kvs:List (Key×V)}{k:Key}{v:V}(e:H a=some (.dK kvs))(j:kvs.length<sizeLine):DPut H a (kV k) v (upd H a (.dK (JI kvs k v))):=.inl ⟨kvs,k,e,rfl,j,rfl⟩
theorem DPut.t {H:Hp}{a b:Addr}{kvs:List (List Key×V)}{k:List Key}{v:V}(e:H a=some (.dT kvs))(j:H b=some (.tup (k.map kV)))(B:kvs.length<sizeLine) :
  DPut H a (.ref b) v (upd H a (.dT (JI kvs k v))):=.inr ⟨kvs,k,b,e,rfl,j,B,rfl⟩
section
variable {X:Cx}{qQ:List (Addr×Obj)}{σ:St}{H:Hp}{s:Shared}{a:Addr}{y v:V}{u r:Value}{o:Option V}{A:Around}{E:EX}
theorem Inv.big (I:Inv X qQ σ H s):sysModules<s.heap.objs.size:=by
 have h:mainGlobals<s.heap.objs.size:=(I.mod.glob.keeps I.bk).lt;exact Nat.lt_trans (by decide) h
theorem Zm {Q:EX}(hu:A.units+1<cLine)(I:Inv X qQ σ H s)(g:DGet H a y (some v))(Z:RelV y u)(h:∀D s',Inv X qQ σ H s'->RelV v D->Q D s') :
  wpAny (model X.prog X.w) A (getItem (.ref a) u) Q E s:=by
 rcases g with ⟨kvs,k,e,L,l⟩ | ⟨kvs,k,b,e,L,eb,l⟩
 ·subst L;obtain ⟨z,hd,vs,j,O⟩:=ZaN I.hok e;obtain ⟨D,U,B⟩:=RelO.some_of (v:=v) (o:=valueAt vs k) (by rw [l];exact j.val k);exact wpAny_getItem_of (Zl Z) O.mapOf U (h D _ (I.tok _) B)
 ·subst L;cases (show u=Value.ref b from Z);obtain ⟨z,hd,xs,j,O⟩:=ZaO I.hok e;obtain ⟨D,U,B⟩:=RelO.some_of (v:=v) (o:=(atKey xs k).map (·.2)) (by rw [l];exact j.val k);obtain ⟨p,hp,Y⟩:=Ybk.mp U;refine wpAny_getItem_heap (tupleKind_room_in1 hu) (Xs I.hok eb) O hp ?_;rw [Y];exact h D _ (I.tok _) B
theorem ZcF {Q:EX}(O:A.units+1<cLine)(I:Inv X qQ σ H s)(g:DGet H a y o)(L:RelV y u)(h:∀s',Inv X qQ σ H s'->Q (.bool (!o.isSome)) s') :
  wpAny (model X.prog X.w) A (compareOp .NotIn u (.ref a)) Q E s:=by
 rcases g with ⟨kvs,k,e,B,l⟩ | ⟨kvs,k,b,e,B,U,l⟩
 ·subst B;obtain ⟨z,hd,vs,j,D⟩:=ZaN I.hok e;refine wpAny_notIn_of (Zl L) hd D.mapOf ?_;rw [<-(j.val k).isSome_eq,<-l];exact h _ (I.tok _)
 ·subst B;cases (show u=Value.ref b from L);obtain ⟨z,hd,xs,j,D⟩:=ZaO I.hok e;refine wpAny_notIn_heap (tupleKind_room_in1 O) (Xs I.hok U) hd D ?_;have q:=(j.val k).isSome_eq;rw [Option.isSome_map] at q;rw [<-q,<-l];exact h _ (I.tok _)
theorem OY {h':Heap}{t':Nat}{j:HO}(I:Inv X qQ σ H s)(B:Mut (H a))(D:Heap.SameBut a s.heap h')(L:∃q,h'.get? a=some q)(new:ObjOk X.prog X.w (upd H a j) h' a j) :
  Inv X qQ σ (upd H a j) { s with heap:=h',toks:=t' }:=
 I.write (x:=a) (e:=a) B (.inl rfl) (λb q O z=>(D.2 b O).trans z) L new
theorem ZbS {P:Program}{w:World}{H':Hp}{h':Heap}{kvs:List (Key×V)}{vs:List (Key×Value)}(z:kvs.length<=sizeLine)(hd:(a == sysModules)=false)(j:KV kvs vs)(dd:h'.DictOf (G9 P w) a vs) :
  ObjOk P w H' h' a (.dK kvs):=⟨z,hd,vs,j,dd⟩
theorem Zn {H':Hp}{Q:Unit->Shared->Prop}(hu:A.units+1<cLine)(I:Inv X qQ σ H s)(g:DPut H a y v H')(ry:RelV y u)(rv:RelV v r)(h:∀s',Inv X qQ σ H' s'->Q () s') :
  wpAny (model X.prog X.w) A (setItem (.ref a) u r) Q E s:=by
 rcases g with ⟨kvs,k,e,L,l,O⟩ | ⟨kvs,k,b,e,L,eb,l,O⟩
 ·subst L O;obtain ⟨z,hd,vs,j,U⟩:=ZcE I.hok e;have Y:vs.length<=sizeLine:=by rw [<-j.length];exact z
  have Z:(JI kvs k v).length<=sizeLine:=by have:=Jj kvs k v;lia
  refine wpAny_setItem_pairs (hsz:=Y) (Zl ry) U λh' B hs=>h _ ?_;have he:∃q,h'.get? a=some q:=let ⟨q,_,_,D,_⟩:=B;⟨q,D⟩;exact OY I (by rw [e];exact True.intro) hs he (ZbS Z hd (j.put k rv) B)
 ·subst L O;cases (show u=Value.ref b from ry);obtain ⟨z,hd,xs,j,U⟩:=Zf5 I.hok e;have Y:xs.length<=sizeLine:=by rw [<-Ydi j];exact z
  have Z:(JI kvs k v).length<=sizeLine:=by have:=Jj kvs k v;lia
  refine wpAny_setItem_heap (hsz:=Y) (tupleKind_room_in1 hu) (Xs I.hok eb) U λh' B hs=>h _ ?_;obtain ⟨q,es,ep,D,h2,h3,h4,_,h5⟩:=B;refine OY I (by rw [e];exact True.intro) hs ⟨q,D⟩ ⟨Z,hd,_,(j.put k eb rv).keeps λc ys ec=>?_,q,es,ep,D,h2,h3,h4,h5⟩;rw [Gn (GV ec e (λz=>nomatch z))];exact ec
end
noncomputable def Zfv (i:Expr):Prop:=∀j B,subscripted i false j B=operate [j,B] (getItem j B)
theorem Zo {prog:Program}{w:World}{A:Around}{E:EX}{s:Shared}{env:Env}{value j:Expr}{pos:Pos}{T id:String}{Q:EX}(Y:typeLookup (.type T) "__getitem__" = pure (some (.builtin id)))(Z:Zfv j)(h:wpAny (model prog w) A (eval value env) (λo L=>wpAny (model prog w) A (eval j env) (λi B=>B.TypeIs o T/\wpAny (model prog w) A (getItem o i) Q E B) E L) E s) :
  wpAny (model prog w) A (eval (.Subscript value j pos) env) Q E s:=by
 refine Subscript_ (Ybp h (λo L h₁=>Ybp h₁ (λi B D=>?_) λ_ _ x=>x) λ_ _ x=>x);obtain ⟨O,D⟩:=D;unfold subscriptTail;refine Yaa ?_;rw [getitemInPython_of_ne O.not_modules];refine Yaa (wpAny_specialOf O Y ?_);have fin:wpAny (model prog w) A (subscripted j false o i) (λr U=>wpAny (model prog w) A (letTemporaryGo value o r >>= λ_=>pure r) Q E U) E B:=by
  rw [Z o i];exact wpAny_operating (Ybp D (λr U h₃=>Yaa (wpAny_letTemporaryGo (Yah h₃))) λ_ _ x=>x)
 first
  | exact Yah (Yaa fin)
  | exact Yaa (Yah (Yaa fin))
  | exact Yaa fin
theorem WQ {X:Cx}{qQ:List (Addr×Obj)}{σ:St}{H:Hp}{s:Shared}{a:Addr}{y:V}{o:Option V}(I:Inv X qQ σ H s)(g:DGet H a y o):s.TypeIs (.ref a) "dict" := by
 rcases g with ⟨kvs,k,e,_,_⟩ | ⟨kvs,k,b,e,_,_,_⟩
 ·obtain ⟨_,_,vs,_,j⟩:=ZaN I.hok e;exact j.typeIs
 ·obtain ⟨_,_,xs,_,j⟩:=ZaO I.hok e;exact j.typeIs
noncomputable def Zf6 (td ty:TE):TE:=λσ H Q=>td σ H λx H1=>ty σ H1 λy H2=>∃a v,x=.ref a/\DGet H2 a y (some v)/\Q v H2
noncomputable def ZcG (ty td:TE):TE:=λσ H Q=>ty σ H λy H1=>td σ H1 λx H2=>∃a o,x=.ref a/\DGet H2 a y o/\Q (.bl (!o.isSome)) H2
noncomputable def Zf7 (td ty tv:TE):TS:=λD σ H=>tv σ H λv H1=>td σ H1 λx H2=>ty σ H2 λy B=>∃a j,x=.ref a/\DPut B a y v j/\D.nx σ j
section
variable {X:Cx}{o i e value:Expr}{pos pos' tpos:Pos}{td ty tv:TE}
theorem Vw (D:X.A.units+1<cLine)(L:PE X o td)(hi:PE X i ty)(O:Zfv i):PE X (.Subscript o i pos) (Zf6 td ty):=by
 intro qQ s σ H Q I h;refine Zo PySem.F.slot_dict_getitem.lookup O (thG (L qQ s σ H _ I h) λu U x H1 Y Z q1=>thG (hi qQ U σ H1 _ Y q1) λiv s2 y H2 B ry ⟨a,v,ex,g,q2⟩=>?_);subst ex;obtain rfl:u=Value.ref a:=Z;exact ⟨WQ B g,Zm D B g ry λw' s3 I3 j=>⟨v,H2,I3,j,q2⟩⟩
theorem Wn (j:X.A.units+1<cLine)(hi:PE X i ty)(B:PE X o td):PC X .NotIn i o (ZcG ty td):=by
 intro qQ s σ H Q I h;refine thG (hi qQ s σ H _ I h) λiv D y H1 L O U=>thG (B qQ D σ H1 _ L U) λu s2 x H2 Y Z ⟨a,ov,ex,g,q2⟩=>?_;subst ex;obtain rfl:u=Value.ref a:=Z;exact ZcF j Y g O λs3 I3=>⟨.bl (!ov.isSome),H2,I3,rfl,q2⟩
theorem WR (j:X.A.units+1<cLine)(B:PE X o td)(hi:PE X i ty)(L:PE X value tv)(O:swapsWith value (some (.Subscript o i pos')) pos.line X.env=pure false) :
  PS X (.Assign [.Subscript o i pos'] value pos) (Zf7 td ty tv):=by
 intro qQ s σ H D I h;refine wpAny_Assign_Subscript (thG (L qQ s σ H _ I h) λr U v H1 Y Z q1=>thG (B qQ U σ H1 _ Y q1) λu s2 x H2 I2 rx q2=>thG (hi qQ s2 σ H2 _ I2 q2) λiv s3 y H3 I3 ry ⟨a,H4,ex,g,q3⟩=>?_) O;subst ex;obtain rfl:u=Value.ref a:=rx;exact Zn j I3 g ry Z λs4 I4=>⟨σ,H4,I4,q3⟩
end
theorem Xu {P:Program}{w:World}{H:Hp}(h:Heap)(j:sysModules<h.objs.size):ObjOk P w H (h.push { cls:=.type "dict", data:=.dict #[] }) h.objs.size (.dK []):=
 ⟨Yao _,Ydb.mpr (Ne.symm (Yay j)),[],.nil,Heap.DictOf.new h⟩
theorem ZaP {P:Program}{w:World}{H:Hp}(h:Heap)(j:sysModules<h.objs.size):ObjOk P w H (h.push { cls:=.type "dict", data:=.dict #[] }) h.objs.size (.dT []):=
 ⟨Yao _,Ydb.mpr (Ne.symm (Yay j)),[],.nil,_,#[],0,Ybj _ rfl,⟨rfl,rfl,rfl⟩,rfl,rfl,Ydm⟩
noncomputable def Zec:TE:=λ_ H Q=>∀p,H p=none->Q (.ref p) (upd H p (.dT []))
section
variable {X:Cx}{pos:Pos}
theorem ZaQ:PE X (.Dict [] [] pos) Zec:=λqQ s σ H Q I h=>
 wpAny_Dict_empty ⟨.ref s.heap.objs.size,_,I.laid (a:=s.heap.objs.size) (o:=.dT []) (t':=s.toks) (λ_ _ q=>Yan _ q) (Yad _) (ZaP s.heap I.big),rfl,h _ (I.hok.fresh (Yad _))⟩
end
noncomputable def Zp:List (TE×TE)->St->Hp->(List (V×V)->Hp->Prop)->Prop
 | [],_,H,Q=>Q [] H
 | (tk,tv)::r,σ,H,Q=>tk σ H λx H1=>tv σ H1 λy H2=>Zp r σ H2 λps H3=>Q ((x,y)::ps) H3
noncomputable abbrev VV:List (V×V)->List (Value×Value)->Prop:=Paired λp q=>RelV p.1 q.1/\RelV p.2 q.2
noncomputable def PPs (X:Cx)(pos:Pos)(B:List (Option Expr))(j:List Expr)(D:List (TE×TE)):Prop:=
 ∀(qQ:List (Addr×Obj))(s:Shared)(σ:St)(H:Hp)(Q:List (V×V)->Hp->Prop),Inv X qQ σ H s->Zp D σ H Q ->
  wpAny (model X.prog X.w) X.A (evalPairs (pairTrees B j X.env pos)) (λvs s'=>∃ps H',Inv X qQ σ H' s'/\VV ps vs/\Q ps H') X.xe s
theorem WS {X:Cx}{pos:Pos}:PPs X pos [] [] []:=λqQ s σ H Q I h=>pairTrees_nil_walk ⟨[],H,I,.nil,h⟩
theorem OB {X:Cx}{pos:Pos}{k v:Expr}{ks:List (Option Expr)}{vs:List Expr}{tk tv:TE}{j:List (TE×TE)}(D:PE X k tk)(L:PE X v tv)(O:PPs X pos ks vs j) :
  PPs X pos (some k::ks) (v::vs) ((tk,tv)::j):=λqQ s σ H Q I h=>
 pairTrees_cons_walk (thG (D qQ s σ H _ I h) λu U x H1 Y Z q1=>thG (L qQ U σ H1 _ Y q1) λw2 s2 y H2 I2 ry q2=>
  thG (O qQ s2 σ H2 _ I2 q2) λws s3 ps H3 I3 B q3=>⟨(x,y)::ps,H3,I3,.cons ⟨Z,ry⟩ B,q3⟩)
noncomputable def Jp (kvs more:List (Key×V)):List (Key×V):=more.foldl (λacc j=>JI acc j.1 j.2) kvs
theorem KV.merge:∀{more:List (Key×V)}{rs:List (Key×Value)}{kvs:List (Key×V)}{vs:List (Key×Value)},KV more rs->KV kvs vs->KV (Jp kvs more) (merged vs rs):=by
 intro more rs kvs vs r;unfold KV at r
 induction r generalizing kvs vs with
 | nil=>intro q;exact q
 | @cons p q ps qs h t ih=>
  intro j;have e:KV (JI kvs p.1 p.2) (stored vs q.1 q.2):=by
   have:=j.put p.1 h.2;rw [<-h.1];exact this
  exact ih e
theorem OC:∀(more kvs:List (Key×V)),(Jp kvs more).length<=kvs.length+more.length
 | [],kvs=>by show kvs.length<=kvs.length+0;lia
 | p::r,kvs=>by
  have h1:=OC r (JI kvs p.1 p.2);have h2:=Jj kvs p.1 p.2;show (Jp (JI kvs p.1 p.2) r).length<=_;rw [Ybq];lia
theorem U8 {P:Program}{w:World}:∀{kvs:List (Key×V)}{ws:List (Value×Value)},VV (kvs.map λj=>(kV j.1,j.2)) ws->∃rs,Carries (G9 P w) ws rs/\KV kvs rs
 | [],_,r=>by rw [List.map_nil] at r;cases r;exact ⟨[],True.intro,.nil⟩
 | p::kvs,_,r=>by
  rw [Yaq] at r;cases r with
  | @cons a b as bs h t=>
   obtain ⟨rs,c,q⟩:=U8 (P:=P) (w:=w) t;obtain ⟨D,B⟩:=b;exact ⟨(p.1,B)::rs,⟨Zl h.1,rfl,c⟩,.cons ⟨rfl,h.2⟩ q⟩
noncomputable def Zf8 (j:List (TE×TE)):TE:=λσ H Q=>∀p,H p=none->Zp j σ (upd H p (.dK [])) λps H2=>H2 p=some (.dK [])/\∃kvs:List (Key×V),ps=kvs.map (λB=>(kV B.1,B.2))/\kvs.length<=15/\Q (.ref p) (upd H2 p (.dK (Jp [] kvs)))
theorem Zq {X:Cx}{pos:Pos}{j:List (Option Expr)}{B:List Expr}{D:List (TE×TE)}(h:PPs X pos j B D)(Z:j.all (·.isSome)=true)(hl:j.length=B.length)(h0:j≠[])(O:j.length<=15):PE X (.Dict j B pos) (Zf8 D):=by
 intro qQ s σ H Q I q;have hn:=I.hok.fresh (Yad s.heap.objs.size);have I1:=I.laid (a:=s.heap.objs.size) (o:=.dK []) (h':=s.heap.push { cls:=.type "dict", data:=.dict #[] }) (t':=s.toks) (λ_ _ q=>Yan _ q) (Yad _) (Xu s.heap I.big);refine wpAny_Dict_walk (knd:=G9 X.prog X.w) Z hl h0 O (thG (h qQ _ σ _ _ I1 (q _ hn)) λws s2 ps H2 Y U ⟨e,kvs,ep,lk,q2⟩=>?_);subst ep;obtain ⟨rs,c,rk⟩:=U8 (P:=X.prog) (w:=X.w) U;obtain ⟨z,hd,aa,r0,dd⟩:=ZcE Y.hok e;cases r0;refine ⟨rs,c,dd,λh' L hs=>⟨.ref s.heap.objs.size,_,?_,rfl,q2⟩⟩;have hz:(Jp [] kvs).length<=sizeLine:=by
  have h1:=OC kvs [];rw [List.length_nil] at h1;rw [Ybi];lia
 have he:∃q,h'.get? s.heap.objs.size=some q:=let ⟨q,_,_,hq,_⟩:=L;⟨q,hq⟩;exact OY Y (by rw [e];exact True.intro) hs he (ZbS hz hd (rk.merge .nil) L)
structure M2 (X:Cx)(o:Expr)(m:Str)(apos:Pos)(e f:Expr)(qK:Pos):Prop where
 base:attributeBase o m X.env (eval o X.env)=eval o X.env
 few:((backTo qK (starEach [e,f] X.env)).all (λx=>!x.1) && (backToKw qK (keywordEach [] X.env)).all (λx=>x.1.isSome)
  && decide (([e,f]:List Expr).length+([]:List Keyword).length+(if ([]:List Keyword).isEmpty then 0 else 1)<30))=true
 line:(apos.endLine == qK.line)=true
 trees:backTo qK (starEach [e,f] X.env)=[(false,eval e X.env),(false,eval f X.env)]
section
variable {X:Cx}
theorem ZgO (K:W.Frag)(hc:X.calm=true)(h:X.K=K:=by rfl):Oi X (.builtin "min") (λxs H Q=>∃(p:Addr)(ns:List Int),xs=[.ref p]/\SqL K H p (ns.map V.int)/\ns≠[]/\∀m,m∈ns->(∀n∈ns,m<=n)->Q (.int m) H):=by
 subst h;intro qQ s σ H xs us Q I rv h;obtain ⟨p,ns,rfl,hq,Y,q⟩:=h;obtain ⟨u,rfl,ru⟩:=rv.one;cases ru;obtain ⟨its,r,pl,hz⟩:=I.list hq;have hh:X.A.in1.handled=none:=I.ok.hd hc;have hl:=r.length;rw [Yab] at hl;have hpos:0<ns.length:=List.length_pos_iff.mpr Y;obtain ⟨o,eo,_⟩:=id pl.isList;have L:p<s.heap.objs.size:=Yal eo;have B:∀(i:Nat)(v:Value),its.toArray[i]?=some v->∃t,v=Value.int (ns.getD i 0) t:=λi v Z=>by
  have D:its[i]?=some v:=by simpa using Z
  have hi:i<its.length:=(Yaj.mp D).1;have ex:(ns.map V.int)[i]?=some (.int (ns[i]'(by lia))):=by rw [Ybb,Yaz (by lia)];rfl
  obtain ⟨u,gu,ru⟩:=r.get ex;rw [gu] at D;cases D;obtain ⟨t,rfl⟩:=ru;exact ⟨t,by rw [List.getD_eq_getElem?_getD,Yaz (by lia)];rfl⟩
 refine call_min_walk (wpAny_pyIter_list pl.isList ?_);refine ⟨s.heap.objs.size,_,_,_,_,_,_,rfl,Walks.list hh s.heap.objs.size p (Yay L) its.toArray,⟨⟨_,Ybj _ rfl,rfl,rfl⟩,pl.isList.at λo e=>Yan _ e⟩,?_,by rw [Yas];lia,CmpOf.ints_lt (λi=>ns.getD i 0) B,λv h' tk Z hk=>?_⟩
 ·intro b hb;have e:b=s.heap.objs.size\/b=p:=by simpa using hb
  have O:(s.heap.push { cls:=.type "list_iterator", data:=.fields #[.ref p,.int 0 0] }).objs.size=s.heap.objs.size+1:=Ycx ..;show b<(s.heap.push { cls:=.type "list_iterator", data:=.fields #[.ref p,.int 0 0] }).objs.size;rw [O];rcases e with e | e
  ·rw [e];exact Nat.lt_succ_self _
  ·rw [e];exact Nat.lt_succ_of_lt L
 ·obtain ⟨t,rfl⟩:=B _ v Z;have hA:=argBest_lt (λi=>ns.getD i 0) (its.toArray.size-1);have O:its.toArray.size=ns.length:=by rw [Yas];exact hl.symm
  generalize hg:argBest (λi j=>decide (ns.getD i 0<ns.getD j 0)) (its.toArray.size-1)=g at hA ⊢;have U:g<ns.length:=by lia
  have eg:ns.getD g 0=ns[g]:=by rw [List.getD_eq_getElem?_getD,Yaz U];rfl
  refine ⟨.int (ns.getD g 0),H,I.kept λb o e'=>hk b o ?_ (Yan _ e'),⟨t,rfl⟩,q _ (by rw [eg];exact List.getElem_mem U) λn hn=>?_⟩
  ·intro z;have:b=s.heap.objs.size:=by simpa using z
   exact absurd (Yal e') (by rw [this];exact Ycf _)
  ·obtain ⟨j,hj,rfl⟩:=List.getElem_of_mem hn;have:=hA.2 j (by lia);have ej:ns.getD j 0=ns[j]:=by rw [List.getD_eq_getElem?_getD,Yaz hj];rfl
   rw [<-ej];exact this
end
theorem ZaR {K:W.Frag}{a:Addr}{xs:List V}{g:TG}{tb:TS}{D:YH}{σ:St}{H:Hp}(j:Nat->St->Hp->Prop)(h0:j 0 σ H)(B:∀i σ H,i<=xs.length->j i σ H->SqL K H a xs)(L:∀i x σ H T,xs[i]?=some x->j i σ H->H T=none->g (.ref T) σ (upd H T (.tup [.int (i:Nat),x])) λO H2=>tb { D with nx:=j (i+1),ct:=j (i+1),bk:=D.nx } O H2)(hd:∀ σ H,j xs.length σ H->D.nx σ H) :
  YR (Ite K a) g tb D σ H:=Vn j h0 (λi s H hi p=>⟨λz=>⟨xs,xs[i],B i s H hi p,by simp [z]⟩,λe=>⟨xs,B i s H hi p,by lia⟩⟩) (λi s H x H' z p y=>by obtain ⟨T,U,rfl,Y,rfl,y⟩:=y;exact L i U s H T (y xs (B i s _ (Ycr z) p)) p Y) hd
structure FunD (K:W.Frag)(x qual:Str)(st:Stmt)(dV:Value)(f:Addr)(fd:FuncData):Prop where
 ex:∃(oc:Value)(od:Option Addr)(kV doc pm:Value)(an:Option Addr)(cdv ct:Value)(osl:Array (Option Value)),
  fd=W.fnOf x qual (Ja st) (GM st) (Gh st) dV kV doc pm an cdv ct/\K.lookup f=some ⟨oc,od,.func fd,osl⟩/\W.codeIn K cdv qual=true
 kp:W.keepIn K (.ref f)=true
section
variable {P:Program}{w:World}{K:W.Frag}{mg:Str->Option Value}{base:Heap}
theorem FunD.ok {x qual:Str}{st:Stmt}{L:Value}{f:Addr}{fd:FuncData}{N ps:List Str}{k:Nat}{sp:Sp}(F:FunD K x qual st L f fd)(S:Gs N ps (Gh st))(len:∀vs H Q E,sp vs H Q E->vs.length=ps.length)(O:∀(j:Value)(A:Around)(outer:List Env)(s:Shared)(H:Hp)(vs:List V)(Q:VK)(E:XK),Room k (A.deeper (envOfC qual (Gh st) s.heap.objs.size f j))->sp vs H Q E ->
   ∃t,PSs (Ye CX0 P w K mg base N qual (Gh st) f j A outer s H E).nox (GM st) t/\t { nx:=λ_ H'=>Q .non H',rt:=Q } (start N vs) H):FnOk P w K mg base CX0 (k+1) f fd ps sp:=by
 obtain ⟨oc,od,kV,U,pm,an,j,ct,Y,rfl,Z,B⟩:=F.ex;refine Y6 Z B S len λA outer s H vs Q E hr D=>?_;obtain ⟨t,h,q⟩:=O j A outer s H vs Q E hr D;exact ⟨t,h.nox,q⟩
theorem ZcH {x qual:Str}{st:Stmt}{f:Addr}{U:Value}{Y L:Option Addr}{D:Array (Option Value)}{O kV B pm j ct:Value}(l:K.lookup f=some ⟨U,Y,.func (W.fnOf x qual (Ja st) (GM st) (Gh st) O kV B pm L j ct),D⟩)(c:W.codeIn K j qual=true)(k:W.keepIn K (.ref f)=true):FunD K x qual st O f (W.fnOf x qual (Ja st) (GM st) (Gh st) O kV B pm L j ct):=⟨⟨U,Y,kV,B,pm,L,j,ct,D,rfl,l,c⟩,k⟩
end
end L2
namespace L2
open PySem PySem.Spec PyProof.Rows
noncomputable def J2:Bool->Keyed->Array Keyed->Nat->Nat->Nat->StateT SortSt Sem (Option Nat):=sortPriv% PySem.Builtin.gallop
noncomputable def Vx:Array Keyed->Array Keyed->StateT SortSt Sem (Array Keyed):=sortPriv% PySem.Builtin.mergeLo
noncomputable def Vy:Array Keyed->Array Keyed->StateT SortSt Sem (Array Keyed):=sortPriv% PySem.Builtin.mergeHi
noncomputable def UB:Nat->StateT SortSt Sem Unit:=sortPriv% PySem.Builtin.setMinGallop
noncomputable def OZ (left:Bool)(key:Keyed)(arr:Array Keyed)(base i:Nat):StateT SortSt Sem (Option Bool):=do
 let x <- elem' arr (base+i)
 if left then lt' x key else return (<- lt' key x).map (!·)
noncomputable def OD (left:Bool)(key:Keyed)(arr:Array Keyed)(base n lo hi:Nat):StateT SortSt Sem (Option Nat):=do
 let mut lo:=lo
 let mut hi:=hi
 for _ in [:n] do
  if lo>=hi then break
  let m:=lo+(hi-lo) / 2
  let some more <- OZ left key arr base m | return none
  if more then lo:=m+1
  else hi:=m
 return some hi
noncomputable def Vz (left:Bool)(key:Keyed)(arr:Array Keyed)(base n hint:Nat):StateT SortSt Sem (Option Nat):=do
 let mut lastofs:=0
 let mut ofs:=1
 let maxofs:=n-hint
 for _ in [:n] do
  if ofs>=maxofs then break
  let some more <- OZ left key arr base (hint+ofs) | return none
  if !more then break
  lastofs:=ofs
  ofs:=2 * ofs+1
 OD left key arr base n (hint+lastofs+1) (hint+min ofs maxofs)
noncomputable def O0 (left:Bool)(key:Keyed)(arr:Array Keyed)(base n hint:Nat):StateT SortSt Sem (Option Nat):=do
 let mut lastofs:=0
 let mut ofs:=1
 let maxofs:=hint+1
 for _ in [:n] do
  if ofs>=maxofs then break
  let some found <- OZ left key arr base (hint-ofs) | return none
  if found then break
  lastofs:=ofs
  ofs:=2 * ofs+1
 OD left key arr base n (hint+1-min ofs maxofs) (hint-lastofs)
theorem Yl (left:Bool)(key:Keyed)(arr:Array Keyed)(base n hint:Nat):J2 left key arr base n hint=(do
  let some right <- OZ left key arr base hint | return none
  if right then Vz left key arr base n hint else O0 left key arr base n hint):=rfl
section
variable {M:Model}{A:Around}{E:EX}{s:Shared}{kd:SortKind}{b:Keyed->Keyed->Bool}{good:Keyed->Prop}
structure WO (b:Keyed->Keyed->Bool):Prop where
 irr:∀x,b x x=false
 tr:∀x y z,b x y=true->b y z=true->b x z=true
 neg:∀x y z,b x z=true->b x y=true\/b y z=true
noncomputable def O9 (M:Model)(A:Around)(E:EX)(s:Shared)(kd:SortKind)(b:Keyed->Keyed->Bool)(good:Keyed->Prop):Prop:=
 ∀(x y:Keyed)(st:SortSt)(Q:Option Bool->SortSt->Prop),good x->good y->kindOf st=kd->Q (some (b x y)) st->wpS M A E s (lt' x y) Q st
theorem Gz {arr:Array Keyed}{i:Nat}{x:Keyed}{st:SortSt}{Q:Keyed->SortSt->Prop}(h:arr[i]?=some x)(q:Q x st):wpS M A E s (elem' arr i) Q st:=by
 rw [elem'_eq,h];exact Yaf q
noncomputable def byd (b:Keyed->Keyed->Bool)(left:Bool)(key:Keyed)(arr:Array Keyed)(base i:Nat):Bool:=match arr[base+i]? with
 | some x=>if left then b x key else !b key x
 | none=>false
theorem Ob {left:Bool}{key:Keyed}{arr:Array Keyed}{base i:Nat}{x:Keyed}{st:SortSt}{Q:Option Bool->SortSt->Prop}(L:O9 M A E s kd b good)(j:good key)(B:arr[base+i]?=some x)(D:good x)(O:kindOf st=kd)(q:Q (some (byd b left key arr base i)) st):wpS M A E s (OZ left key arr base i) Q st:=by
 unfold OZ;refine Yac (Gz B ?_);unfold byd at q;rw [B] at q;cases left with
 | true=>exact L x key st Q D j O q
 | false=>exact Yac (L key x st _ j D O (Yaf q))
section
variable {left:Bool}{key:Keyed}{arr:Array Keyed}{base n hint:Nat}{st:SortSt}{Q:Option Nat->SortSt->Prop}
structure Gal (b:Keyed->Keyed->Bool)(good:Keyed->Prop)(left:Bool)(key:Keyed)(arr:Array Keyed)(base n:Nat):Prop where
 gk:good key
 it:∀i,i<n->∃x,arr[base+i]?=some x/\good x
 mono:∀i j,i<=j->j<n->byd b left key arr base j=true->byd b left key arr base i=true
theorem G8 {lo hi:Nat}(L:O9 M A E s kd b good)(G:Gal b good left key arr base n)(U:kindOf st=kd)(h1:lo<=hi)(h2:hi<=n)(B:∀i,i<lo->byd b left key arr base i=true)(D:∀i,hi<=i->i<n->byd b left key arr base i=false)(q:∀k,k<=n->(∀i,i<k->byd b left key arr base i=true)->(∀i,k<=i->i<n->byd b left key arr base i=false)->Q (some k) st):wpS M A E s (OD left key arr base n lo hi) Q st:=by
 unfold OD;refine Yac (Ybz (λk c j=>j=st/\∃lo hi,c=(none,lo,hi)/\lo<=hi/\hi<=n/\hi-lo<=n-k/\(∀i,i<lo->byd b left key arr base i=true)/\(∀i,hi<=i->i<n->byd b left key arr base i=false)) ?_ ?_ ⟨rfl,lo,hi,rfl,h1,h2,by lia,B,D⟩)
 ·rintro k c j _ hk ⟨rfl,lo,hi,rfl,h1,h2,O,B,D⟩;dsimp only;split
  ·rename_i Y;have:lo=hi:=by lia
   subst this;refine Yaf ?_;dsimp only;exact Yaf (q lo h2 B D)
  ·rename_i Y;obtain ⟨x,Z,gx⟩:=G.it (lo+(hi-lo) / 2) (by lia);refine Yac (Ob L G.gk Z gx U ?_);dsimp only;cases hb:byd b left key arr base (lo+(hi-lo) / 2) with
   | true=>
    refine Yaf ⟨rfl,_,_,rfl,by lia,h2,by lia,λi hi'=>G.mono i (lo+(hi-lo) / 2) (by lia) (by lia) hb,D⟩
   | false=>
    refine Yaf ⟨rfl,_,_,rfl,by lia,by lia,by lia,B,λi h8 h9=>?_⟩;cases hc:byd b left key arr base i with
    | false=>rfl
    | true=>rw [G.mono _ i h8 h9 hc] at hb;cases hb
 ·rintro c j ⟨rfl,lo,hi,rfl,h1,h2,O,B,D⟩;have:lo=hi:=by simp at O;lia
  subst this;exact Yaf (q lo h2 B D)
theorem Jt (L:O9 M A E s kd b good)(G:Gal b good left key arr base n)(U:kindOf st=kd)(hn:hint<n)(q:∀k,k<=n->(∀i,i<k->byd b left key arr base i=true)->(∀i,k<=i->i<n->byd b left key arr base i=false)->Q (some k) st):wpS M A E s (J2 left key arr base n hint) Q st:=by
 rw [Yl];obtain ⟨x,hx,gx⟩:=G.it hint hn;have O:∀i j,byd b left key arr base i=false->i<=j->j<n->byd b left key arr base j=false:=λi j h1 h2 h3=>by
  cases hc:byd b left key arr base j with
  | false=>rfl
  | true=>rw [G.mono _ j h2 h3 hc] at h1;cases h1
 refine Yac (Ob L G.gk hx gx U ?_);cases hb:byd b left key arr base hint with
 | true=>
  show wpS M A E s (Vz left key arr base n hint) Q st;unfold Vz;refine Yac (Ybz (λk c D=>D=st/\∃last B,c=(none,last,B)/\last<B/\k+1<=B/\hint+last<n/\byd b left key arr base (hint+last)=true) ?_ ?_ ⟨rfl,0,1,rfl,by lia,by lia,hn,hb⟩)
  ·rintro k c D _ hk ⟨rfl,last,B,rfl,h1,h2,h3,Y⟩;dsimp only;split
   ·rename_i Z;refine Yaf ?_;dsimp only;rw [Nat.min_eq_right Z];exact G8 L G U (by lia) (by lia) (λi hi=>G.mono i _ (show i<=hint+last by lia) h3 Y) (λi h6 h7=>by lia) q
   ·rename_i Z;obtain ⟨y,hy,gy⟩:=G.it (hint+B) (by lia);refine Yac (Ob L G.gk hy gy U ?_);dsimp only;cases hb2:byd b left key arr base (hint+B) with
    | true=>exact Yaf ⟨rfl,_,_,rfl,by lia,by lia,by lia,hb2⟩
    | false=>
     refine Yaf ?_;dsimp only;rw [Yds (by lia)];exact G8 L G U (by lia) (by lia) (λi hi=>G.mono i _ (show i<=hint+last by lia) h3 Y) (λi h6 h7=>O _ i hb2 h6 h7) q
  ·rintro c D ⟨rfl,last,B,rfl,h1,h2,h3,Y⟩;dsimp only;have Z:n-hint<=B:=by simp at h2;lia
   rw [Nat.min_eq_right Z];exact G8 L G U (by lia) (by lia) (λi hi=>G.mono i _ (show i<=hint+last by lia) h3 Y) (λi h6 h7=>by lia) q
 | false=>
  show wpS M A E s (O0 left key arr base n hint) Q st;unfold O0;refine Yac (Ybz (λk c D=>D=st/\∃last B,c=(none,last,B)/\last<B/\k+1<=B/\last<=hint/\byd b left key arr base (hint-last)=false) ?_ ?_ ⟨rfl,0,1,rfl,by lia,by lia,by lia,hb⟩)
  ·rintro k c D _ hk ⟨rfl,last,B,rfl,h1,h2,h3,Y⟩;dsimp only;split
   ·rename_i Z;refine Yaf ?_;dsimp only;rw [Nat.min_eq_right Z];exact G8 L G U (by lia) (by lia) (λi hi=>by lia) (λi h6 h7=>O _ i Y h6 h7) q
   ·rename_i Z;obtain ⟨y,hy,gy⟩:=G.it (hint-B) (by lia);refine Yac (Ob L G.gk hy gy U ?_);dsimp only;cases hb2:byd b left key arr base (hint-B) with
    | false=>exact Yaf ⟨rfl,_,_,rfl,by lia,by lia,by lia,hb2⟩
    | true=>
     refine Yaf ?_;dsimp only;rw [Yds (by lia)];exact G8 L G U (by lia) (by lia) (λi hi=>G.mono i (hint-B) (by lia) (by lia) hb2) (λi h6 h7=>O _ i Y h6 h7) q
  ·rintro c D ⟨rfl,last,B,rfl,h1,h2,h3,Y⟩;dsimp only;have Z:hint+1<=B:=by simp at h2;lia
   rw [Nat.min_eq_right Z];exact G8 L G U (by lia) (by lia) (λi hi=>by lia) (λi h6 h7=>O _ i Y h6 h7) q
end
end
noncomputable abbrev MLs:=Option (Array Keyed)×Array Keyed×Nat×Nat×Nat×Nat
noncomputable abbrev MLt:=Option (Array Keyed)×Array Keyed×Nat×Nat×Nat×Nat×Nat
noncomputable def Oo (a b out:Array Keyed)(ia ib:Nat):Array Keyed:=out++a.extract ia++b.extract ib
noncomputable def U9 (a b out:Array Keyed)(ia ib:Nat):Array Keyed:=out++b.extract ib++a.extract ia
noncomputable def ZaS (a b:Array Keyed)(mg:Nat):Nat->MLs->StateT SortSt Sem (ForInStep MLs):=λ_ r=>
 let out:=r.2.1;let ia:=r.2.2.1;let ib:=r.2.2.2.1;let qZ:=r.2.2.2.2.1;let qX:=r.2.2.2.2.2
 do
 let x <- elem' b ib
 let y <- elem' a ia
 match <- lt' x y with
 | some bWins=>
  if bWins=true then do
   let z <- elem' b ib
   let out:=out.push z
   let ib:=ib+1
   let qX:=qX+1
   let qZ:=0
   if (ib == b.size)=true then pure (.done (some (Oo a b out ia ib),out,ia,ib,qZ,qX))
   else if qX>=mg then pure (.done (none,out,ia,ib,qZ,qX))
   else pure (.yield (none,out,ia,ib,qZ,qX))
  else do
   let z <- elem' a ia
   let out:=out.push z
   let ia:=ia+1
   let qZ:=qZ+1
   let qX:=0
   if (ia+1 == a.size)=true then pure (.done (some (U9 a b out ia ib),out,ia,ib,qZ,qX))
   else if qZ>=mg then pure (.done (none,out,ia,ib,qZ,qX))
   else pure (.yield (none,out,ia,ib,qZ,qX))
 | _=>pure (.done (some (Oo a b out ia ib),out,ia,ib,qZ,qX))
noncomputable def mlD (a b:Array Keyed)(B j k:Nat)(out:Array Keyed)(ia ib:Nat):StateT SortSt Sem (ForInStep MLt):=do
 let qX:=k
 let z <- elem' a ia
 let out:=out.push z
 let ia:=ia+1
 if (ia+1 == a.size)=true then pure (.done (some (U9 a b out ia ib),out,ia,ib,B,j,qX))
 else if (decide (j<7) && decide (qX<7))=true then pure (.done (none,out,ia,ib,B,j,qX))
 else pure (.yield (none,out,ia,ib,B,j,qX))
noncomputable def mlC (a b:Array Keyed)(j B D:Nat)(out:Array Keyed)(ia ib:Nat):StateT SortSt Sem (ForInStep MLt):=do
 let z <- elem' b ib
 let out:=out.push z
 let ib:=ib+1
 if (ib == b.size)=true then pure (.done (some (Oo a b out ia ib),out,ia,ib,j,B,D))
 else do
  let y <- elem' a ia
  match <- J2 true y b ib (b.size-ib) 0 with
  | some k=>
   let D:=k
   if k > 0 then
    let out:=out++b.extract ib (ib+k)
    let ib:=ib+k
    if (ib == b.size)=true then pure (.done (some (Oo a b out ia ib),out,ia,ib,j,B,D))
    else mlD a b j B k out ia ib
   else mlD a b j B k out ia ib
  | _=>pure (.done (some (Oo a b out ia ib),out,ia,ib,j,B,D))
noncomputable def mlB (a b:Array Keyed)(j B D:Nat)(out:Array Keyed)(ia ib:Nat):StateT SortSt Sem (ForInStep MLt):=do
 UB j
 let x <- elem' b ib
 match <- J2 false x a ia (a.size-ia) 0 with
 | some k=>
  let B:=k
  if k > 0 then
   let out:=out++a.extract ia (ia+k)
   let ia:=ia+k
   if (ia+1 == a.size)=true then pure (.done (some (U9 a b out ia ib),out,ia,ib,j,B,D))
   else if (ia == a.size)=true then pure (.done (some (Oo a b out ia ib),out,ia,ib,j,B,D))
   else mlC a b j B D out ia ib
  else mlC a b j B D out ia ib
 | _=>pure (.done (some (Oo a b out ia ib),out,ia,ib,j,B,D))
noncomputable def ZaT (a b:Array Keyed):Nat->MLt->StateT SortSt Sem (ForInStep MLt):=λ_ r=>
 let out:=r.2.1;let ia:=r.2.2.1;let ib:=r.2.2.2.1;let qJ:=r.2.2.2.2.1;let qZ:=r.2.2.2.2.2.1;let qX:=r.2.2.2.2.2.2
 if qJ > 1 then mlB a b (qJ-1) qZ qX out ia ib else mlB a b qJ qZ qX out ia ib
noncomputable abbrev MLo:=Option (Array Keyed)×Array Keyed×Nat×Nat×Nat
noncomputable def ZaU (a b:Array Keyed):Nat->MLo->StateT SortSt Sem (ForInStep MLo):=λ_ r=>
 let out:=r.2.1;let ia:=r.2.2.1;let ib:=r.2.2.2.1;let qJ:=r.2.2.2.2
 do
 let r <- forIn [:a.size+b.size] ((none,out,ia,ib,0,0):MLs) (ZaS a b qJ)
 match r.1 with
 | some x=>pure (.done (some x,r.2.1,r.2.2.1,r.2.2.2.1,qJ))
 | none=>do
  liftM (rule "list.sort.gallop")
  let r <- forIn [:a.size+b.size] ((none,r.2.1,r.2.2.1,r.2.2.2.1,qJ+1,r.2.2.2.2.1,r.2.2.2.2.2):MLt) (ZaT a b)
  match r.1 with
  | some x=>pure (.done (some x,r.2.1,r.2.2.1,r.2.2.2.1,r.2.2.2.2.1))
  | none=>do
   UB (r.2.2.2.2.1+1)
   pure (.yield (none,r.2.1,r.2.2.1,r.2.2.2.1,r.2.2.2.2.1+1))
theorem Ji {α β:Type}{m:StateT SortSt Sem α}{f g:α->StateT SortSt Sem β}(h:∀x,f x=g x):m >>= f=m >>= g:=by rw [funext h]
theorem VA {α:Type}{c:Prop}[Decidable c]{x y u v:α}(h1:x=y)(h2:u=v):(if c then x else u)=if c then y else v:=by rw [h1,h2]
theorem UC {β:Type}{r:Std.Legacy.Range}{c:β}{f g:Nat->β->StateT SortSt Sem (ForInStep β)}(h:∀i x,f i x=g i x):forIn r c f=forIn r c g:=by rw [funext λi=>funext (h i)]
theorem WT (a b:Array Keyed):Vx a b=(do
  liftM (rule "list.sort.merge-lo")
  let x <- elem' b 0
  let out:=#[x]
  if (1 == b.size)=true then pure (Oo a b out 0 1)
  else if (0+1 == a.size)=true then pure (U9 a b out 0 1)
  else do
   let st <- get
   let r <- forIn [:a.size+b.size] ((none,out,0,1,gallopOf st):MLo) (ZaU a b)
   match r.1 with
   | some r=>pure r
   | none=>liftM (unsupported "internal:list.sort.merge-bound")):=by
 refine Ji (m:=liftM (rule "list.sort.merge-lo")) λ_=>?_;refine Ji (m:=elem' b 0) λx=>?_;refine VA (c:=(1 == b.size)=true) rfl ?_;refine VA (c:=(0+1 == a.size)=true) rfl ?_;refine Ji (m:=get) λst=>?_;refine (Ybh (λm:StateT SortSt Sem MLo=>m >>= _) (UC (r:=[:a.size+b.size]) (c:=((none,#[x],0,1,gallopOf st):MLo)) (g:=ZaU a b) λi r=>?_)).trans ?_;rotate_left
 ·refine Ji λr=>?_;obtain ⟨B,L⟩:=r;cases B <;> rfl
 unfold ZaU;refine (Ybh (λm:StateT SortSt Sem MLs=>m >>= _) (UC (r:=[:a.size+b.size]) (g:=ZaS a b r.2.2.2.2) λi r=>rfl)).trans ?_;refine Ji λq=>?_;obtain ⟨j,D⟩:=q;cases j with
 | some z=>rfl
 | none=>
  refine Ji (m:=liftM (rule "list.sort.gallop")) λ_=>?_;refine (Ybh (λm:StateT SortSt Sem MLt=>m >>= _) (UC (r:=[:a.size+b.size]) (g:=ZaT a b) λi r=>rfl)).trans ?_;refine Ji λq=>?_;obtain ⟨j,D⟩:=q;cases j <;> rfl
section
variable {b:Keyed->Keyed->Bool}
noncomputable abbrev kle (b:Keyed->Keyed->Bool)(x y:Keyed):Prop:=b y x=false
theorem WO.le_trans (W:WO b){x y z:Keyed}(h1:kle b x y)(h2:kle b y z):kle b x z:=by
 cases h:b z x with
 | false=>exact h
 | true=>
  rcases W.neg z y x h with q | q
  ·rw [show b z y=false from h2] at q;cases q
  ·rw [show b y x=false from h1] at q;cases q
theorem WO.le_of_lt (W:WO b){x y:Keyed}(h:b x y=true):kle b x y:=by
 cases q:b y x with
 | false=>exact q
 | true=>
  have:=W.tr _ _ _ h q;rw [W.irr] at this;cases this
theorem WO.le_refl (W:WO b)(x:Keyed):kle b x x:=W.irr x
structure Mrg (b:Keyed->Keyed->Bool)(all out ra rb:List Keyed):Prop where
 perm:(out++ra++rb).Perm all
 so:out.Pairwise (kle b)
 le:∀x∈out,∀y∈ra++rb,kle b x y
 sa:ra.Pairwise (kle b)
 sb:rb.Pairwise (kle b)
theorem Mrg.len {all out j B:List Keyed}(h:Mrg b all out j B):out.length+j.length+B.length=all.length:=by
 have:=h.perm.length_eq;rw [Yae,Yae] at this;exact this
theorem Mrg.moveA {all out u D L:List Keyed}(h:Mrg b all out (u++D) L)(U:∀x∈u,∀y∈L,kle b x y):Mrg b all (out++u) D L:=by
 have O:=Ybr.mp h.sa;refine ⟨by rw [Ybg out u D];exact h.perm,Ybr.mpr ⟨h.so,O.1,λx B y j=>h.le x B y (by simp [j])⟩,λx B y j=>?_,O.2.1,h.sb⟩;rcases Yag.mp B with B | B
 ·refine h.le x B y ?_;rcases Yag.mp j with j | j
  ·simp [j]
  ·simp [j]
 ·rcases Yag.mp j with j | j
  ·exact O.2.2 x B y j
  ·exact U x B y j
theorem Mrg.moveB {all out u D O:List Keyed}(h:Mrg b all out D (u++O))(U:∀x∈u,∀y∈D,kle b x y):Mrg b all (out++u) D O:=by
 have L:=Ybr.mp h.sb;refine ⟨?_,Ybr.mpr ⟨h.so,L.1,λx B y j=>h.le x B y (by simp [j])⟩,λx B y j=>?_,h.sa,L.2.1⟩
 ·refine List.Perm.trans ?_ h.perm;simp only [Ybg];refine List.Perm.append_left _ ?_;rw [<-Ybg,<-Ybg];exact List.Perm.append_right _ List.perm_append_comm
 ·rcases Yag.mp B with B | B
  ·refine h.le x B y ?_;rcases Yag.mp j with j | j
   ·simp [j]
   ·simp [j]
  ·rcases Yag.mp j with j | j
   ·exact U x B y j
   ·exact L.2.2 x B y j
noncomputable def Jm (b:Keyed->Keyed->Bool)(all r:List Keyed):Prop:=r.Perm all/\r.Pairwise (kle b)
theorem Mrg.endA {all out j B:List Keyed}(h:Mrg b all out j B)(hz:∀x∈j,∀y∈B,kle b x y):Jm b all (out++j++B):=by
 refine ⟨h.perm,?_⟩;rw [Ybg];exact Ybr.mpr ⟨h.so,Ybr.mpr ⟨h.sa,h.sb,hz⟩,h.le⟩
theorem Mrg.endB {all out B D:List Keyed}(h:Mrg b all out B D)(hz:∀x∈D,∀y∈B,kle b x y):Jm b all (out++D++B):=by
 refine ⟨?_,?_⟩
 ·refine List.Perm.trans ?_ h.perm;rw [Ybg,Ybg];exact List.Perm.append_left _ List.perm_append_comm
 ·rw [Ybg];exact Ybr.mpr ⟨h.so,Ybr.mpr ⟨h.sb,h.sa,hz⟩,λx L y j=>h.le x L y (by
   rcases Yag.mp j with j | j <;> simp [j])⟩
end
theorem Ui (a:Array Keyed)(i:Nat):(a.extract i).toList=a.toList.drop i:=by
 rw [Ydz,Yea,Yeh];rw [Ydr];exact Yad _
theorem Xv (a:Array Keyed)(i k:Nat):(a.extract i (i+k)).toList=(a.toList.drop i).take k:=by
 rw [Ydz,Yea,Nat.add_sub_cancel_left]
theorem Jx {a:Array Keyed}{i:Nat}{x:Keyed}(h:a[i]?=some x):a.toList.drop i=x::a.toList.drop (i+1):=by
 rw [<-Ybw] at h;obtain ⟨h1,h2⟩:=Yaj.mp h;rw [Yde h1,h2]
noncomputable def SameG (st j:SortSt):Prop:=kindOf j=kindOf st/\arrOf j=arrOf st/\pendingOf j=pendingOf st/\failedOf j=failedOf st
theorem SameG.refl (st:SortSt):SameG st st:=⟨rfl,rfl,rfl,rfl⟩
theorem SameG.trans {st B j:SortSt}(h:SameG st B)(k:SameG B j):SameG st j:=⟨k.1.trans h.1,k.2.1.trans h.2.1,k.2.2.1.trans h.2.2.1,k.2.2.2.trans h.2.2.2⟩
section
variable {M:Model}{A:Around}{E:EX}{s:Shared}{kd:SortKind}{b:Keyed->Keyed->Bool}{good:Keyed->Prop}
theorem Oc {g:Nat}{st:SortSt}{Q:Unit->SortSt->Prop}(q:∀j,SameG st j->Q () j):wpS M A E s (UB g) Q st:=by
 refine Ycj (f:=λs=>SortSt.mk' (kindOf s) (arrOf s) (pendingOf s) g (failedOf s)) (q _ ⟨rfl,rfl,rfl,rfl⟩)
structure Two (b:Keyed->Keyed->Bool)(good:Keyed->Prop)(a c:Array Keyed):Prop where
 ga:∀x∈a.toList,good x
 gc:∀x∈c.toList,good x
 sa:a.toList.Pairwise (kle b)
 sc:c.toList.Pairwise (kle b)
 na:0<a.size
 nc:0<c.size
 first:∀x,c[0]?=some x->∀y∈a.toList,kle b x y
 last:∀z,a[a.size-1]?=some z->∀y∈c.toList,kle b y z
variable {a c:Array Keyed}
theorem Two.at (T:Two b good a c){i:Nat}(h:i<a.size):∃x,a[i]?=some x/\good x:=⟨a[i],by simp [h],T.ga _ (by simp)⟩
theorem Two.ct (T:Two b good a c){i:Nat}(h:i<c.size):∃x,c[i]?=some x/\good x:=⟨c[i],by simp [h],T.gc _ (by simp)⟩
noncomputable def ML (b:Keyed->Keyed->Bool)(a c out:Array Keyed)(ia ib:Nat):Prop:=Mrg b (a.toList++c.toList) out.toList (a.toList.drop ia) (c.toList.drop ib)
theorem ML.done {out:Array Keyed}{ia ib:Nat}(h:ML b a c out ia ib)(e:ib=c.size\/ia=a.size):Jm b (a.toList++c.toList) (Oo a c out ia ib).toList:=by
 unfold Oo;rw [Ycm,Ycm,Ui,Ui];refine Mrg.endA h λx j y B=>?_;rcases e with e | e
 ·rw [Yei (by rw [e,Ybd];exact Yad _)] at B;cases B
 ·rw [Yei (by rw [e,Ybd];exact Yad _)] at j;cases j
theorem ML.last {out:Array Keyed}{ia ib:Nat}(T:Two b good a c)(h:ML b a c out ia ib)(e:ia+1=a.size):Jm b (a.toList++c.toList) (U9 a c out ia ib).toList:=by
 unfold U9;rw [Ycm,Ycm,Ui,Ui];refine Mrg.endB h λx D y j=>?_;obtain ⟨z,B,_⟩:=T.at (i:=ia) (by lia);rw [Jx B,Yei (by rw [Ybd];lia)] at j;have:y=z:=by simpa using j
 subst this;exact T.last y (by rw [<-e];exact B) x (List.mem_of_mem_drop D)
theorem ML.pushB {out:Array Keyed}{ia ib:Nat}{x:Keyed}(h:ML b a c out ia ib)(j:c[ib]?=some x)(B:∀y∈a.toList.drop ia,kle b x y):ML b a c (out.push x) ia (ib+1):=by
 unfold ML at h ⊢;rw [Yeb];rw [Jx j] at h;exact Mrg.moveB (u:=[x]) h λz D y L=>by
  have:z=x:=by simpa using D
  subst this;exact B y L
theorem ML.pushA {out:Array Keyed}{ia ib:Nat}{x:Keyed}(h:ML b a c out ia ib)(j:a[ia]?=some x)(B:∀y∈c.toList.drop ib,kle b x y):ML b a c (out.push x) (ia+1) ib:=by
 unfold ML at h ⊢;rw [Yeb];rw [Jx j] at h;exact Mrg.moveA (u:=[x]) h λz D y L=>by
  have:z=x:=by simpa using D
  subst this;exact B y L
theorem ML.takeA {out:Array Keyed}{ia ib k:Nat}(h:ML b a c out ia ib)(j:∀x∈(a.toList.drop ia).take k,∀y∈c.toList.drop ib,kle b x y):ML b a c (out++a.extract ia (ia+k)) (ia+k) ib:=by
 unfold ML at h ⊢;rw [Ycm,Xv];rw [<-Ycy k (a.toList.drop ia),List.drop_drop] at h;exact Mrg.moveA h j
theorem ML.takeB {out:Array Keyed}{ia ib k:Nat}(h:ML b a c out ia ib)(j:∀x∈(c.toList.drop ib).take k,∀y∈a.toList.drop ia,kle b x y):ML b a c (out++c.extract ib (ib+k)) ia (ib+k):=by
 unfold ML at h ⊢;rw [Ycm,Xv];rw [<-Ycy k (c.toList.drop ib),List.drop_drop] at h;exact Mrg.moveB h j
theorem VB {l:List Keyed}{x:Keyed}(W:WO b)(h:(x::l).Pairwise (kle b)):∀y∈x::l,kle b x y:=λy j=>by
 rcases Yau.mp j with rfl | j
 ·exact W.le_refl _
 ·exact (Ycz.mp h).1 y j
theorem Zr (W:WO b)(L:O9 M A E s kd b good)(T:Two b good a c){out:Array Keyed}{ia ib mg:Nat}{st:SortSt}(hs:kindOf st=kd)(h:ML b a c out ia ib)(h1:ia+1<a.size)(h2:ib<c.size){Q:MLs->SortSt->Prop}(q1:∀r y O,SameG st O->Jm b (a.toList++c.toList) r.toList->Q (some r,y) O)(q2:∀j B D Z bc O,SameG st O->ML b a c j B D->B+1<a.size->D<c.size->out.size<j.size->Q (none,j,B,D,Z,bc) O) :
  wpS M A E s (forIn [:a.size+c.size] ((none,out,ia,ib,0,0):MLs) (ZaS a c mg)) Q st:=by
 refine Ybz (λk r O=>SameG st O/\∃j B D Z bc,r=(none,j,B,D,Z,bc)/\ML b a c j B D/\B+1<a.size/\D<c.size/\out.size+k<=j.size) ?_ ?_ ⟨SameG.refl _,_,_,_,_,_,rfl,h,h1,h2,Yad _⟩
 ·rintro k r Y _ hk ⟨U,j,B,D,Z,bc,rfl,h,h1,h2,h3⟩;have aa:kindOf Y=kd:=U.1.trans hs;unfold ZaS;dsimp only;obtain ⟨x,hx,gx⟩:=T.ct h2;obtain ⟨y,hy,gy⟩:=T.at (i:=B) (by lia);refine Yac (Gz hx (Yac (Gz hy (Yac (L x y Y _ gx gy aa ?_)))));have sA:(a.toList.drop B).Pairwise (kle b):=h.sa;have sB:(c.toList.drop D).Pairwise (kle b):=h.sb;rw [Jx hy] at sA;rw [Jx hx] at sB;dsimp only;cases hb:b x y with
  | true=>
   rw [if_pos rfl];refine Yac (Gz hx ?_);have h':=h.pushB hx λz hz=>by
    rw [Jx hy] at hz;exact W.le_trans (W.le_of_lt hb) (VB W sA z hz)
   split
   ·rename_i e;exact Yaf (q1 _ _ _ U (h'.done (.inl (eq_of_beq e))))
   ·rename_i e;have e:D+1<c.size:=by
     have:D+1≠c.size:=λz=>e (Ybe.mpr z)
     lia
    split
    ·exact Yaf (q2 _ _ _ _ _ _ U h' h1 e (by rw [Ycn];lia))
    ·exact Yaf ⟨U,_,_,_,_,_,rfl,h',h1,e,by rw [Ycn];lia⟩
  | false=>
   rw [if_neg Yar];refine Yac (Gz hy ?_);have h':=h.pushA hy λz hz=>by
    rw [Jx hx] at hz;exact W.le_trans hb (VB W sB z hz)
   split
   ·rename_i e;exact Yaf (q1 _ _ _ U (h'.last T (eq_of_beq e)))
   ·rename_i e;have e:B+1+1<a.size:=by
     have:B+1+1≠a.size:=λz=>e (Ybe.mpr z)
     lia
    split
    ·exact Yaf (q2 _ _ _ _ _ _ U h' e h2 (by rw [Ycn];lia))
    ·exact Yaf ⟨U,_,_,_,_,_,rfl,h',e,h2,by rw [Ycn];lia⟩
 ·rintro r Y ⟨U,j,B,D,Z,bc,rfl,h,h1,h2,h3⟩;exact q2 _ _ _ _ _ _ U h h1 h2 (by have:=T.na;simp at h3;lia)
end
noncomputable def Rng (b:Keyed->Keyed->Bool)(arr:Array Keyed)(lo hi:Nat):Prop:=∀i j x y,lo<=i->i<=j->j<hi->arr[i]?=some x->arr[j]?=some y->kle b x y
section
variable {M:Model}{A:Around}{E:EX}{s:Shared}{kd:SortKind}{b:Keyed->Keyed->Bool}{good:Keyed->Prop}
theorem ZaV (W:WO b):∀{l:List Keyed}{i j:Nat}{x y:Keyed},l.Pairwise (kle b)->i<=j->l[i]?=some x->l[j]?=some y->kle b x y
 | [],_,_,_,_,_,_,h,_=>by simp at h
 | z::l,0,0,x,y,_,_,h1,h2=>by
  simp at h1 h2;subst h1 h2;exact W.le_refl _
 | z::l,0,j+1,x,y,h,_,h1,h2=>by
  simp at h1 h2;subst h1;exact (Ycz.mp h).1 y (Yat h2)
 | z::l,i+1,0,_,_,_,h,_,_=>by lia
 | z::l,i+1,j+1,x,y,h,hij,h1,h2=>by
  simp at h1 h2;exact ZaV W (Ycz.mp h).2 (by lia) h1 h2
theorem ZbT (W:WO b){arr:Array Keyed}{lo:Nat}(h:(arr.toList.drop lo).Pairwise (kle b)):Rng b arr lo arr.size:=λi j x y h1 h2 L B D=>by
 refine ZaV (i:=i-lo) (j:=j-lo) W h (by lia) ?_ ?_
 ·rw [Ydt,Yda h1,Ybw];exact B
 ·rw [Ydt,Yda (Yca h1 h2),Ybw];exact D
theorem Va (W:WO b){left:Bool}{key:Keyed}{arr:Array Keyed}{base n:Nat}(Y:good key)(L:∀i,i<n->∃x,arr[base+i]?=some x/\good x)(h:Rng b arr base (base+n)):Gal b good left key arr base n:=by
 refine ⟨Y,L,λi j h1 h2 B=>?_⟩;obtain ⟨x,O,_⟩:=L i (by lia);obtain ⟨y,U,_⟩:=L j h2;have D:=h (base+i) (base+j) x y (by lia) (by lia) (by lia) O U;unfold byd at B ⊢;rw [U] at B;rw [O];dsimp only at B ⊢;cases left with
 | true=>
  rw [if_pos rfl] at B ⊢;rcases W.neg y x key B with z | z
  ·rw [show b y x=false from D] at z;cases z
  ·exact z
 | false=>
  rw [if_neg Yar] at B ⊢;rw [Bool.not_eq_true'] at B ⊢;exact W.le_trans (x:=x) (y:=y) (z:=key) D B
variable {a c:Array Keyed}
theorem Xw {arr:Array Keyed}{base k:Nat}{x:Keyed}(h:x∈(arr.toList.drop base).take k):∃i,i<k/\arr[base+i]?=some x:=by
 obtain ⟨i,hi⟩:=Ydu.mp h;rw [Yec] at hi;split at hi
 ·rw [Ydt,Ybw] at hi;exact ⟨i,by assumption,hi⟩
 ·cases hi
theorem Xx {arr:Array Keyed}{base:Nat}{x:Keyed}(h:x∈arr.toList.drop base):∃i,base+i<arr.size/\arr[base+i]?=some x:=by
 obtain ⟨i,hi⟩:=Ydu.mp h;rw [Ydt,Ybw] at hi;exact ⟨i,(Array.getElem?_eq_some_iff.mp hi).1,hi⟩
section
variable {out:Array Keyed}{ia ib:Nat}{st:SortSt}{Q:ForInStep MLt->SortSt->Prop}
structure ZaW (b:Keyed->Keyed->Bool)(a c:Array Keyed)(n:Nat)(st:SortSt)(Q:ForInStep MLt->SortSt->Prop):Prop where
 fin:∀r y st',SameG st st'->Jm b (a.toList++c.toList) r.toList->Q (.done (some r,y)) st'
 brk:∀out' ia' ib' y st',SameG st st'->ML b a c out' ia' ib'->ia'+1<a.size->ib'<c.size->n<=out'.size->Q (.done (none,out',ia',ib',y)) st'
 go:∀out' ia' ib' y st',SameG st st'->ML b a c out' ia' ib'->ia'+1<a.size->ib'<c.size->n<=out'.size->Q (.yield (none,out',ia',ib',y)) st'
theorem Zs (T:Two b good a c){mg D k n:Nat}(R:ZaW b a c n st Q)(h:ML b a c out ia ib)(h1:ia+1<a.size)(h2:ib<c.size)(O:n<=out.size)(L:∀x,a[ia]?=some x->∀y∈c.toList.drop ib,kle b x y) :
  wpS M A E s (mlD a c mg D k out ia ib) Q st:=by
 unfold mlD;obtain ⟨x,B,U⟩:=T.at (i:=ia) (by lia);refine Yac (Gz B ?_);have h':=h.pushA B (L x B);have j:n<=(out.push x).size:=by rw [Ycn];lia
 dsimp only;split
 ·rename_i e;exact Yaf (R.fin _ _ _ (SameG.refl _) (h'.last T (eq_of_beq e)))
 ·rename_i e;have e:ia+1+1<a.size:=by
   have:ia+1+1≠a.size:=λz=>e (Ybe.mpr z)
   lia
  split
  ·exact Yaf (R.brk _ _ _ _ _ (SameG.refl _) h' e h2 j)
  ·exact Yaf (R.go _ _ _ _ _ (SameG.refl _) h' e h2 j)
theorem Zt (W:WO b)(L:O9 M A E s kd b good)(T:Two b good a c){mg ac bc n:Nat}(R:ZaW b a c n st Q)(hs:kindOf st=kd)(h:ML b a c out ia ib)(h1:ia+1<a.size)(h2:ib<c.size)(hn:n<=out.size)(hl:∀x,c[ib]?=some x->∀y∈a.toList.drop ia,kle b x y):wpS M A E s (mlC a c mg ac bc out ia ib) Q st:=by
 unfold mlC;obtain ⟨x,Z,gx⟩:=T.ct h2;obtain ⟨y,D,gy⟩:=T.at (i:=ia) (by lia);refine Yac (Gz Z ?_);have h':=h.pushB Z (hl x Z);have O:n<=(out.push x).size:=by rw [Ycn];lia
 generalize out.push x=U at h' O;dsimp only;split
 ·rename_i e;exact Yaf (R.fin _ _ _ (SameG.refl _) (h'.done (.inl (eq_of_beq e))))
 ·rename_i e;have e:ib+1<c.size:=by
   have:ib+1≠c.size:=λz=>e (Ybe.mpr z)
   lia
  refine Yac (Gz D ?_);have sB:Rng b c (ib+1) c.size:=ZbT W h'.sb;have sA:(a.toList.drop ia).Pairwise (kle b):=h'.sa;rw [Jx D] at sA;have G:Gal b good true y c (ib+1) (c.size-(ib+1)):=Va W gy (λi hi=>T.ct (by lia)) (by rw [Yda (by lia)];exact sB);refine Yac (Jt L G hs (by lia) λk hk k1 k2=>?_);dsimp only;have tk:∀z∈(c.toList.drop (ib+1)).take k,∀v∈a.toList.drop ia,kle b z v:=λz hz v B=>by
   obtain ⟨i,hi,ez⟩:=Xw hz;have:=k1 i hi;unfold byd at this;rw [ez] at this;dsimp only at this;rw [if_pos rfl] at this;rw [Jx D] at B;exact W.le_trans (W.le_of_lt this) (VB W sA v B)
  have tr:∀v∈c.toList.drop (ib+1+k),kle b y v:=λv B=>by
   obtain ⟨i,hi,ev⟩:=Xx B;have:=k2 (k+i) (by lia) (by lia);unfold byd at this;rw [show ib+1+(k+i)=ib+1+k+i by lia,ev] at this;dsimp only at this;rw [if_pos rfl] at this;exact this
  split
  ·have h3:=h'.takeB tk;have aa:n<=(U++c.extract (ib+1) (ib+1+k)).size:=by rw [Array.size_append];lia
   split
   ·rename_i Y;exact Yaf (R.fin _ _ _ (SameG.refl _) (h3.done (.inl (eq_of_beq Y))))
   ·rename_i Y;have Y:ib+1+k<c.size:=by
     have:ib+1+k≠c.size:=λz=>Y (Ybe.mpr z)
     lia
    exact Zs T R h3 h1 Y aa λx' j v B=>by
     rw [D] at j;cases j;exact tr v B
  ·rename_i ab;have:k=0:=by lia
   subst this;exact Zs T R h' h1 e O λx' j v B=>by
    rw [D] at j;cases j;exact tr v B
theorem ZcI (W:WO b)(L:O9 M A E s kd b good)(T:Two b good a c){mg ac bc n:Nat}(R:∀O,SameG st O->ZaW b a c n O Q)(hs:kindOf st=kd)(h:ML b a c out ia ib)(h1:ia+1<a.size)(h2:ib<c.size)(hn:n<=out.size) :
  wpS M A E s (mlB a c mg ac bc out ia ib) Q st:=by
 unfold mlB;refine Yac (Oc λU sg=>?_);have R:=R U sg;have D:kindOf U=kd:=sg.1.trans hs;obtain ⟨x,Y,gx⟩:=T.ct h2;refine Yac (Gz Y ?_);have sA:Rng b a ia a.size:=ZbT W h.sa;have sB:(c.toList.drop ib).Pairwise (kle b):=h.sb;rw [Jx Y] at sB;have G:Gal b good false x a ia (a.size-ia):=Va W gx (λi hi=>T.at (by lia)) (by rw [Yda (by lia)];exact sA);refine Yac (Jt L G D (by lia) λk hk k1 k2=>?_);dsimp only;have tk:∀z∈(a.toList.drop ia).take k,∀v∈c.toList.drop ib,kle b z v:=λz hz v B=>by
  obtain ⟨i,hi,ez⟩:=Xw hz;have:=k1 i hi;unfold byd at this;rw [ez] at this;dsimp only at this;rw [if_neg Yar,Bool.not_eq_true'] at this;rw [Jx Y] at B;exact W.le_trans this (VB W sB v B)
 have tr:∀v∈a.toList.drop (ia+k),kle b x v:=λv B=>by
  obtain ⟨i,hi,ev⟩:=Xx B;have:=k2 (k+i) (by lia) (by lia);unfold byd at this;rw [show ia+(k+i)=ia+k+i by lia,ev] at this;dsimp only at this;rw [if_neg Yar,Bool.not_eq_false'] at this;exact W.le_of_lt this
 split
 ·have Z:=h.takeA tk;have aa:n<=(out++a.extract ia (ia+k)).size:=by rw [Array.size_append];lia
  split
  ·rename_i e2;exact Yaf (R.fin _ _ _ (SameG.refl _) (Z.last T (eq_of_beq e2)))
  ·rename_i e2;split
   ·rename_i e3;exact Yaf (R.fin _ _ _ (SameG.refl _) (Z.done (.inr (eq_of_beq e3))))
   ·rename_i e3;have e4:ia+k+1<a.size:=by
     have:ia+k+1≠a.size:=λz=>e2 (Ybe.mpr z);have:ia+k≠a.size:=λz=>e3 (Ybe.mpr z)
     lia
    exact Zt W L T R D Z e4 h2 aa λx' j v B=>by
     rw [Y] at j;cases j;exact tr v B
 ·have:k=0:=by lia
  subst this;exact Zt W L T R D h h1 h2 hn λx' j v B=>by
   rw [Y] at j;cases j;exact tr v B
end
theorem Zu (W:WO b)(L:O9 M A E s kd b good)(T:Two b good a c){out:Array Keyed}{ia ib n:Nat}{y:Nat×Nat×Nat}{st:SortSt}(hs:kindOf st=kd)(h:ML b a c out ia ib)(h1:ia+1<a.size)(h2:ib<c.size){Q:MLt->SortSt->Prop}(q1:∀r y D,SameG st D->Jm b (a.toList++c.toList) r.toList->Q (some r,y) D)(q2:∀B O U y D,SameG st D->ML b a c B O U->O+1<a.size->U<c.size->out.size<=B.size->Q (none,B,O,U,y) D) :
  wpS M A E s (forIn [:n] ((none,out,ia,ib,y):MLt) (ZaT a c)) Q st:=by
 refine Ybz (λk r D=>SameG st D/\∃B O U y,r=(none,B,O,U,y)/\ML b a c B O U/\O+1<a.size/\U<c.size/\out.size<=B.size) ?_ ?_ ⟨SameG.refl _,_,_,_,_,rfl,h,h1,h2,Yad _⟩
 ·rintro k r Y _ hk ⟨sg,B,O,U,y,rfl,h,h1,h2,h3⟩;have ab:kindOf Y=kd:=sg.1.trans hs;have R:∀D,SameG Y D->ZaW b a c out.size D (λr D=>match r with
   | .done c'=>Q c' D
   | .yield c'=>SameG st D/\∃B O U y,c'=(none,B,O,U,y)/\ML b a c B O U/\O+1<a.size/\U<c.size/\out.size<=B.size):=λD aa=>
   ⟨λr y Z g m=>q1 r y Z ((sg.trans aa).trans g) m,λo i j y Z g m p1 p2 p3=>q2 o i j y Z ((sg.trans aa).trans g) m p1 p2 p3,λo i j y Z g m p1 p2 p3=>⟨(sg.trans aa).trans g,o,i,j,y,rfl,m,p1,p2,p3⟩⟩
  unfold ZaT;dsimp only;have mono:∀mg,wpS M A E s (mlB a c mg y.2.1 y.2.2 B O U) _ Y:=λmg=>ZcI W L T R ab h h1 h2 h3;split
  ·exact wpS_mono (mono _) λr D hr=>by cases r <;> exact hr
  ·exact wpS_mono (mono _) λr D hr=>by cases r <;> exact hr
 ·rintro r Y ⟨sg,B,O,U,y,rfl,h,h1,h2,h3⟩;exact q2 _ _ _ _ _ sg h h1 h2 h3
theorem WU (W:WO b)(L:O9 M A E s kd b good)(T:Two b good a c){st:SortSt}(hs:kindOf st=kd){Q:Array Keyed->SortSt->Prop}(q:∀r U,SameG st U->Jm b (a.toList++c.toList) r.toList->Q r U):wpS M A E s (Vx a c) Q st:=by
 rw [WT];refine Yac (wpS_lift (wpAny_rule ⟨rfl,?_⟩));obtain ⟨x,hx,gx⟩:=T.ct T.nc;refine Yac (Gz hx ?_);have h0:ML b a c #[x] 0 1:=by
  have z:ML b a c #[] 0 0:=⟨by simp,by simp,by simp,by simpa using T.sa,by simpa using T.sc⟩;exact z.pushB hx λy hy=>T.first x hx y (by simpa using hy)
 have hc:=T.nc;have ha:=T.na;dsimp only;split
 ·rename_i e;exact Yaf (q _ _ (SameG.refl _) (h0.done (.inl (eq_of_beq e))))
 ·rename_i e;have e:1<c.size:=by
   have:1≠c.size:=λz=>e (Ybe.mpr z)
   lia
  split
  ·rename_i Y;exact Yaf (q _ _ (SameG.refl _) (h0.last T (eq_of_beq Y)))
  ·rename_i Y;have Y:0+1<a.size:=by
    have:0+1≠a.size:=λz=>Y (Ybe.mpr z)
    lia
   refine Yac (wpS_get ?_);refine Yac (Ybz (λk r U=>SameG st U/\∃B D O mg,r=(none,B,D,O,mg)/\ML b a c B D O/\D+1<a.size/\O<c.size/\k<B.size) ?_ ?_ ⟨SameG.refl _,_,_,_,_,rfl,h0,Y,e,by simp⟩)
   ·rintro k r Z _ hk ⟨sg,B,D,O,mg,rfl,h,h1,h2,h3⟩;have aa:kindOf Z=kd:=sg.1.trans hs;unfold ZaU;dsimp only;refine Yac (Zr W L T aa h h1 h2 (λr y ab g m=>?_) (λo i j ac bc ab g m p1 p2 p3=>?_))
    ·refine Yaf ?_;dsimp only;exact Yaf (q r ab (sg.trans g) m)
    ·dsimp only;refine Yac (wpS_lift (wpAny_rule ⟨rfl,?_⟩));refine Yac (Zu W L T (g.1.trans aa) m p1 p2 (λr y ad g3 m3=>?_) (λo3 i3 j3 y3 ad g3 m3 r1 r2 r3=>?_))
     ·refine Yaf ?_;dsimp only;exact Yaf (q r ad ((sg.trans g).trans g3) m3)
     ·dsimp only;refine Yac (Oc λae g4=>?_);exact Yaf ⟨((sg.trans g).trans g3).trans g4,_,_,_,_,rfl,m3,r1,r2,by lia⟩
   ·rintro r Z ⟨sg,B,D,O,mg,rfl,h,h1,h2,h3⟩;exfalso;have:=Mrg.len h;rw [Yae,Ydr,Ydr,Ybd,Ybd,Ybd] at this;simp at h3
    lia
end
noncomputable abbrev MHs:=Option (Array Keyed)×Nat×Nat×Array Keyed×Nat×Nat
noncomputable abbrev MHt:=Option (Array Keyed)×Nat×Nat×Array Keyed×Nat×Nat×Nat
noncomputable abbrev MHo:=Option (Array Keyed)×Nat×Nat×Array Keyed×Nat
noncomputable def Op (a b out:Array Keyed)(na nb:Nat):Array Keyed:=a.extract 0 na++b.extract 0 nb++out.reverse
noncomputable def O1 (a b out:Array Keyed)(na nb:Nat):Array Keyed:=b.extract 0 nb++a.extract 0 na++out.reverse
noncomputable def ZaX (a b:Array Keyed)(mg:Nat):Nat->MHs->StateT SortSt Sem (ForInStep MHs):=λ_ r=>
 let na:=r.2.1;let nb:=r.2.2.1;let out:=r.2.2.2.1;let qZ:=r.2.2.2.2.1;let qX:=r.2.2.2.2.2
 do
 let x <- elem' b (nb-1)
 let y <- elem' a (na-1)
 match <- lt' x y with
 | some aWins=>
  if aWins=true then do
   let na:=na-1
   let z <- elem' a na
   let out:=out.push z
   let qZ:=qZ+1
   let qX:=0
   if (na == 0)=true then pure (.done (some (Op a b out na nb),na,nb,out,qZ,qX))
   else if qZ>=mg then pure (.done (none,na,nb,out,qZ,qX))
   else pure (.yield (none,na,nb,out,qZ,qX))
  else do
   let nb:=nb-1
   let z <- elem' b nb
   let out:=out.push z
   let qX:=qX+1
   let qZ:=0
   if (nb == 1)=true then pure (.done (some (O1 a b out na nb),na,nb,out,qZ,qX))
   else if qX>=mg then pure (.done (none,na,nb,out,qZ,qX))
   else pure (.yield (none,na,nb,out,qZ,qX))
 | _=>pure (.done (some (Op a b out na nb),na,nb,out,qZ,qX))
noncomputable def mhD (a b:Array Keyed)(D j B:Nat)(na nb:Nat)(out:Array Keyed):StateT SortSt Sem (ForInStep MHt):=do
 let na:=na-1
 let z <- elem' a na
 let out:=out.push z
 if (na == 0)=true then pure (.done (some (Op a b out na nb),na,nb,out,D,j,B))
 else if (decide (j<7) && decide (B<7))=true then pure (.done (none,na,nb,out,D,j,B))
 else pure (.yield (none,na,nb,out,D,j,B))
noncomputable def mhC (a b:Array Keyed)(B D j:Nat)(na nb:Nat)(out:Array Keyed):StateT SortSt Sem (ForInStep MHt):=do
 let nb:=nb-1
 let z <- elem' b nb
 let out:=out.push z
 if (nb == 1)=true then pure (.done (some (O1 a b out na nb),na,nb,out,B,D,j))
 else do
  let y <- elem' a (na-1)
  match <- J2 true y b 0 nb (nb-1) with
  | some at_=>
   let k:=nb-at_
   let j:=k
   if k > 0 then
    let out:=out++(b.extract at_ nb).reverse
    let nb:=at_
    if (nb == 1)=true then pure (.done (some (O1 a b out na nb),na,nb,out,B,D,j))
    else if (nb == 0)=true then pure (.done (some (Op a b out na nb),na,nb,out,B,D,j))
    else mhD a b B D j na nb out
   else mhD a b B D j na nb out
  | _=>pure (.done (some (Op a b out na nb),na,nb,out,B,D,j))
noncomputable def mhB (a b:Array Keyed)(j B D:Nat)(na nb:Nat)(out:Array Keyed):StateT SortSt Sem (ForInStep MHt):=do
 UB j
 let x <- elem' b (nb-1)
 match <- J2 false x a 0 na (na-1) with
 | some at_=>
  let k:=na-at_
  let B:=k
  if k > 0 then
   let out:=out++(a.extract at_ na).reverse
   let na:=at_
   if (na == 0)=true then pure (.done (some (Op a b out na nb),na,nb,out,j,B,D))
   else mhC a b j B D na nb out
  else mhC a b j B D na nb out
 | _=>pure (.done (some (Op a b out na nb),na,nb,out,j,B,D))
noncomputable def ZaY (a b:Array Keyed):Nat->MHt->StateT SortSt Sem (ForInStep MHt):=λ_ r=>
 let na:=r.2.1;let nb:=r.2.2.1;let out:=r.2.2.2.1;let qJ:=r.2.2.2.2.1;let qZ:=r.2.2.2.2.2.1;let qX:=r.2.2.2.2.2.2
 if qJ > 1 then mhB a b (qJ-1) qZ qX na nb out else mhB a b qJ qZ qX na nb out
noncomputable def ZaZ (a b:Array Keyed):Nat->MHo->StateT SortSt Sem (ForInStep MHo):=λ_ r=>
 let na:=r.2.1;let nb:=r.2.2.1;let out:=r.2.2.2.1;let qJ:=r.2.2.2.2
 do
 let r <- forIn [:a.size+b.size] ((none,na,nb,out,0,0):MHs) (ZaX a b qJ)
 match r.1 with
 | some x=>pure (.done (some x,r.2.1,r.2.2.1,r.2.2.2.1,qJ))
 | none=>do
  liftM (rule "list.sort.gallop")
  let r <- forIn [:a.size+b.size] ((none,r.2.1,r.2.2.1,r.2.2.2.1,qJ+1,r.2.2.2.2.1,r.2.2.2.2.2):MHt) (ZaY a b)
  match r.1 with
  | some x=>pure (.done (some x,r.2.1,r.2.2.1,r.2.2.2.1,r.2.2.2.2.1))
  | none=>do
   UB (r.2.2.2.2.1+1)
   pure (.yield (none,r.2.1,r.2.2.1,r.2.2.2.1,r.2.2.2.2.1+1))
theorem WV (a b:Array Keyed):Vy a b=(do
  liftM (rule "list.sort.merge-hi")
  let x <- elem' a (a.size-1)
  let out:=#[x]
  if (a.size-1 == 0)=true then pure (Op a b out (a.size-1) b.size)
  else if (b.size == 1)=true then pure (O1 a b out (a.size-1) b.size)
  else do
   let st <- get
   let r <- forIn [:a.size+b.size] ((none,a.size-1,b.size,out,gallopOf st):MHo) (ZaZ a b)
   match r.1 with
   | some r=>pure r
   | none=>liftM (unsupported "internal:list.sort.merge-bound")):=by
 refine Ji (m:=liftM (rule "list.sort.merge-hi")) λ_=>?_;refine Ji (m:=elem' a (a.size-1)) λx=>?_;refine VA (c:=(a.size-1 == 0)=true) rfl ?_;refine VA (c:=(b.size == 1)=true) rfl ?_;refine Ji (m:=get) λst=>?_;refine (Ybh (λm:StateT SortSt Sem MHo=>m >>= _) (UC (r:=[:a.size+b.size]) (c:=((none,a.size-1,b.size,#[x],gallopOf st):MHo)) (g:=ZaZ a b) λi r=>?_)).trans ?_;rotate_left
 ·refine Ji λr=>?_;obtain ⟨B,L⟩:=r;cases B <;> rfl
 unfold ZaZ;refine (Ybh (λm:StateT SortSt Sem MHs=>m >>= _) (UC (r:=[:a.size+b.size]) (g:=ZaX a b r.2.2.2.2) λi r=>rfl)).trans ?_;refine Ji λq=>?_;obtain ⟨j,D⟩:=q;cases j with
 | some z=>rfl
 | none=>
  refine Ji (m:=liftM (rule "list.sort.gallop")) λ_=>?_;refine (Ybh (λm:StateT SortSt Sem MHt=>m >>= _) (UC (r:=[:a.size+b.size]) (g:=ZaY a b) λi r=>rfl)).trans ?_;refine Ji λq=>?_;obtain ⟨j,D⟩:=q;cases j <;> rfl
section
variable {b:Keyed->Keyed->Bool}
structure MrgH (b:Keyed->Keyed->Bool)(all out ra rb:List Keyed):Prop where
 perm:(ra++rb++out).Perm all
 so:out.Pairwise (kle b)
 le:∀x∈ra++rb,∀y∈out,kle b x y
 sa:ra.Pairwise (kle b)
 sb:rb.Pairwise (kle b)
theorem MrgH.len {all out j B:List Keyed}(h:MrgH b all out j B):j.length+B.length+out.length=all.length:=by
 have:=h.perm.length_eq;rw [Yae,Yae] at this;exact this
theorem MrgH.moveB {all out u D O:List Keyed}(h:MrgH b all out D (O++u))(U:∀x∈u,∀y∈D,kle b y x):MrgH b all (u++out) D O:=by
 have L:=Ybr.mp h.sb;refine ⟨?_,Ybr.mpr ⟨L.2.1,h.so,λx j y B=>h.le x (by simp [j]) y B⟩,λx j y B=>?_,h.sa,L.1⟩
 ·have:=h.perm;simp only [Ybg] at this ⊢;exact this
 ·rcases Yag.mp B with B | B
  ·rcases Yag.mp j with j | j
   ·exact U y B x j
   ·exact L.2.2 x j y B
  ·refine h.le x ?_ y B;rcases Yag.mp j with j | j <;> simp [j]
theorem MrgH.moveA {all out u O D:List Keyed}(h:MrgH b all out (O++u) D)(U:∀x∈u,∀y∈D,kle b y x):MrgH b all (u++out) O D:=by
 have L:=Ybr.mp h.sa;refine ⟨?_,Ybr.mpr ⟨L.2.1,h.so,λx j y B=>h.le x (by simp [j]) y B⟩,λx j y B=>?_,L.1,h.sb⟩
 ·refine List.Perm.trans ?_ h.perm;simp only [Ybg];refine List.Perm.append_left _ ?_;rw [<-Ybg,<-Ybg];exact List.Perm.append_right _ List.perm_append_comm
 ·rcases Yag.mp B with B | B
  ·rcases Yag.mp j with j | j
   ·exact L.2.2 x j y B
   ·exact U y B x j
  ·refine h.le x ?_ y B;rcases Yag.mp j with j | j <;> simp [j]
theorem MrgH.endA {all out j B:List Keyed}(h:MrgH b all out j B)(hz:∀x∈j,∀y∈B,kle b x y):Jm b all (j++B++out):=
 ⟨h.perm,Ybr.mpr ⟨Ybr.mpr ⟨h.sa,h.sb,hz⟩,h.so,h.le⟩⟩
theorem MrgH.endB {all out B D:List Keyed}(h:MrgH b all out B D)(hz:∀x∈D,∀y∈B,kle b x y):Jm b all (D++B++out):=by
 refine ⟨List.Perm.trans (List.Perm.append_right _ List.perm_append_comm) h.perm,Ybr.mpr ⟨Ybr.mpr ⟨h.sb,h.sa,hz⟩,h.so,λx j y L=>h.le x ?_ y L⟩⟩;rcases Yag.mp j with j | j <;> simp [j]
end
theorem Xy (a:Array Keyed)(k:Nat):(a.extract 0 k).toList=a.toList.take k:=by
 rw [Ydz,Yea,List.drop_zero,Nat.sub_zero]
theorem Zv (a:Array Keyed){i j:Nat}(h:i<=j):a.toList.take j=a.toList.take i++(a.extract i j).toList:=by
 rw [Ydz,Yea];have:=Ycy i (a.toList.take j);rw [List.take_take,Yds h,List.drop_take] at this;exact this.symm
theorem Zw {a:Array Keyed}{i:Nat}{x:Keyed}(h:a[i]?=some x):a.toList.take (i+1)=a.toList.take i++[x]:=by
 rw [<-Ybw] at h;rw [Ybu,h]
 rfl
theorem Za0 {arr:Array Keyed}{k:Nat}{x:Keyed}(h:x∈arr.toList.take k):∃i,i<k/\arr[i]?=some x:=by
 obtain ⟨i,hi⟩:=Ydu.mp h;rw [Yec] at hi;split at hi
 ·rw [Ybw] at hi;exact ⟨i,by assumption,hi⟩
 ·cases hi
theorem WW {arr:Array Keyed}{i j:Nat}{x:Keyed}(h:x∈(arr.extract i j).toList):∃k,i<=k/\k<j/\arr[k]?=some x:=by
 rw [Ydz,Yea] at h;obtain ⟨k,B⟩:=Ydu.mp h;rw [Yec] at B;split at B
 ·rw [Ydt,Ybw] at B;exact ⟨i+k,by lia,by lia,B⟩
 ·cases B
section
variable {M:Model}{A:Around}{E:EX}{s:Shared}{kd:SortKind}{b:Keyed->Keyed->Bool}{good:Keyed->Prop}{a c:Array Keyed}
noncomputable def MH (b:Keyed->Keyed->Bool)(a c:Array Keyed)(na nb:Nat)(out:Array Keyed):Prop:=MrgH b (a.toList++c.toList) out.toList.reverse (a.toList.take na) (c.toList.take nb)
theorem Zx (W:WO b){arr:Array Keyed}{hi:Nat}(h:(arr.toList.take hi).Pairwise (kle b)):Rng b arr 0 (0+hi):=λi j x y h1 h2 L B D=>by
 refine ZaV (i:=i) (j:=j) W h h2 ?_ ?_
 ·rw [Yec,if_pos (by lia),Ybw];exact B
 ·rw [Yec,if_pos (by lia),Ybw];exact D
theorem MH.done {out:Array Keyed}{na nb:Nat}(h:MH b a c na nb out)(e:na=0\/nb=0):Jm b (a.toList++c.toList) (Op a c out na nb).toList:=by
 unfold Op;rw [Ycm,Ycm,Xy,Xy,Ydn];refine MrgH.endA h λx j y B=>?_;rcases e with e | e
 ·rw [e] at j;simp at j
 ·rw [e] at B;simp at B
theorem MH.first {out:Array Keyed}{na nb:Nat}(T:Two b good a c)(h:MH b a c na nb out)(e:nb=1):Jm b (a.toList++c.toList) (O1 a c out na nb).toList:=by
 unfold O1;rw [Ycm,Ycm,Xy,Xy,Ydn];refine MrgH.endB h λx j y B=>?_;obtain ⟨i,hi,ex⟩:=Za0 j;have:i=0:=by lia
 subst this;exact T.first x ex y (Yej B)
theorem MH.pushB {out:Array Keyed}{na nb:Nat}{x:Keyed}(h:MH b a c na (nb+1) out)(j:c[nb]?=some x)(B:∀y∈a.toList.take na,kle b y x):MH b a c na nb (out.push x):=by
 unfold MH at h ⊢;rw [Yeb,List.reverse_append];rw [Zw j] at h;exact MrgH.moveB (u:=[x]) h λz D y L=>by
  have:z=x:=by simpa using D
  subst this;exact B y L
theorem MH.pushA {out:Array Keyed}{na nb:Nat}{x:Keyed}(h:MH b a c (na+1) nb out)(j:a[na]?=some x)(B:∀y∈c.toList.take nb,kle b y x):MH b a c na nb (out.push x):=by
 unfold MH at h ⊢;rw [Yeb,List.reverse_append];rw [Zw j] at h;exact MrgH.moveA (u:=[x]) h λz D y L=>by
  have:z=x:=by simpa using D
  subst this;exact B y L
theorem MH.takeA {out:Array Keyed}{na nb k:Nat}(h:MH b a c na nb out)(j:k<=na)(B:∀x∈(a.extract k na).toList,∀y∈c.toList.take nb,kle b y x):MH b a c k nb (out++(a.extract k na).reverse):=by
 unfold MH at h ⊢;rw [Ycm,Ydn,List.reverse_append,List.reverse_reverse];rw [Zv a j] at h;exact MrgH.moveA h B
theorem MH.takeB {out:Array Keyed}{na nb k:Nat}(h:MH b a c na nb out)(j:k<=nb)(B:∀x∈(c.extract k nb).toList,∀y∈a.toList.take na,kle b y x):MH b a c na k (out++(c.extract k nb).reverse):=by
 unfold MH at h ⊢;rw [Ycm,Ydn,List.reverse_append,List.reverse_reverse];rw [Zv c j] at h;exact MrgH.moveB h B
theorem VC (W:WO b){arr:Array Keyed}{k:Nat}{x:Keyed}(h:(arr.toList.take (k+1)).Pairwise (kle b))(j:arr[k]?=some x):∀y∈arr.toList.take (k+1),kle b y x:=λy B=>by
 obtain ⟨i,hi,D⟩:=Za0 B;exact Zx W h i k y x (Yao _) (by lia) (by lia) D j
theorem Zy (W:WO b)(L:O9 M A E s kd b good)(T:Two b good a c){out:Array Keyed}{na nb mg:Nat}{st:SortSt}(hs:kindOf st=kd)(h:MH b a c na nb out)(h1:0<na/\na<=a.size)(h2:1<nb/\nb<=c.size){Q:MHs->SortSt->Prop}(q1:∀r y O,SameG st O->Jm b (a.toList++c.toList) r.toList->Q (some r,y) O)(q2:∀j B D Z bc O,SameG st O->MH b a c j B D->(0<j/\j<=a.size)->(1<B/\B<=c.size)->out.size<D.size->Q (none,j,B,D,Z,bc) O) :
  wpS M A E s (forIn [:a.size+c.size] ((none,na,nb,out,0,0):MHs) (ZaX a c mg)) Q st:=by
 refine Ybz (λk r O=>SameG st O/\∃j B D Z bc,r=(none,j,B,D,Z,bc)/\MH b a c j B D/\(0<j/\j<=a.size)/\(1<B/\B<=c.size)/\out.size+k<=D.size) ?_ ?_ ⟨SameG.refl _,_,_,_,_,_,rfl,h,h1,h2,Yad _⟩
 ·rintro k r Y _ hk ⟨U,j,B,D,Z,bc,rfl,h,h1,h2,h3⟩;have aa:kindOf Y=kd:=U.1.trans hs;obtain ⟨j,rfl⟩:∃n,j=n+1:=⟨j - 1,by lia⟩;obtain ⟨B,rfl⟩:∃n,B=n+1:=⟨B - 1,by lia⟩;unfold ZaX;dsimp only [Nat.add_sub_cancel];obtain ⟨x,hx,gx⟩:=T.ct (i:=B) (by lia);obtain ⟨y,hy,gy⟩:=T.at (i:=j) (by lia);refine Yac (Gz hx (Yac (Gz hy (Yac (L x y Y _ gx gy aa ?_)))));dsimp only;cases hb:b x y with
  | true=>
   rw [if_pos rfl];refine Yac (Gz hy ?_);have h':=h.pushA hy λz hz=>W.le_trans (VC W h.sb hx z hz) (W.le_of_lt hb);split
   ·rename_i e;exact Yaf (q1 _ _ _ U (h'.done (.inl (eq_of_beq e))))
   ·rename_i e;have e:0<j:=by
     have:j≠0:=λz=>e (Ybe.mpr z)
     lia
    split
    ·exact Yaf (q2 _ _ _ _ _ _ U h' ⟨e,by lia⟩ h2 (by rw [Ycn];lia))
    ·exact Yaf ⟨U,_,_,_,_,_,rfl,h',⟨e,by lia⟩,h2,by rw [Ycn];lia⟩
  | false=>
   rw [if_neg Yar];refine Yac (Gz hx ?_);have h':=h.pushB hx λz hz=>W.le_trans (VC W h.sa hy z hz) hb;split
   ·rename_i e;exact Yaf (q1 _ _ _ U (h'.first T (eq_of_beq e)))
   ·rename_i e;have e:1<B:=by
     have:B≠1:=λz=>e (Ybe.mpr z)
     lia
    split
    ·exact Yaf (q2 _ _ _ _ _ _ U h' h1 ⟨e,by lia⟩ (by rw [Ycn];lia))
    ·exact Yaf ⟨U,_,_,_,_,_,rfl,h',h1,⟨e,by lia⟩,by rw [Ycn];lia⟩
 ·rintro r Y ⟨U,j,B,D,Z,bc,rfl,h,h1,h2,h3⟩;exact q2 _ _ _ _ _ _ U h h1 h2 (by have:=T.na;simp at h3;lia)
section
variable {out:Array Keyed}{na nb:Nat}{st:SortSt}{Q:ForInStep MHt->SortSt->Prop}
structure Za1 (b:Keyed->Keyed->Bool)(a c:Array Keyed)(n:Nat)(st:SortSt)(Q:ForInStep MHt->SortSt->Prop):Prop where
 fin:∀r y st',SameG st st'->Jm b (a.toList++c.toList) r.toList->Q (.done (some r,y)) st'
 brk:∀na' nb' out' y st',SameG st st'->MH b a c na' nb' out'->(0<na'/\na'<=a.size)->(1<nb'/\nb'<=c.size)->n<=out'.size->Q (.done (none,na',nb',out',y)) st'
 go:∀na' nb' out' y st',SameG st st'->MH b a c na' nb' out'->(0<na'/\na'<=a.size)->(1<nb'/\nb'<=c.size)->n<=out'.size->Q (.yield (none,na',nb',out',y)) st'
theorem Zz (T:Two b good a c){mg D L n:Nat}(R:Za1 b a c n st Q)(h:MH b a c (na+1) nb out)(h1:na+1<=a.size)(h2:1<nb/\nb<=c.size)(U:n<=out.size)(O:∀x,a[na]?=some x->∀y∈c.toList.take nb,kle b y x) :
  wpS M A E s (mhD a c mg D L (na+1) nb out) Q st:=by
 unfold mhD;dsimp only [Nat.add_sub_cancel];obtain ⟨x,B,Y⟩:=T.at (i:=na) (by lia);refine Yac (Gz B ?_);have h':=h.pushA B (O x B);have j:n<=(out.push x).size:=by rw [Ycn];lia
 split
 ·rename_i e;exact Yaf (R.fin _ _ _ (SameG.refl _) (h'.done (.inl (eq_of_beq e))))
 ·rename_i e;have e:0<na:=by
   have:na≠0:=λz=>e (Ybe.mpr z)
   lia
  split
  ·exact Yaf (R.brk _ _ _ _ _ (SameG.refl _) h' ⟨e,by lia⟩ h2 j)
  ·exact Yaf (R.go _ _ _ _ _ (SameG.refl _) h' ⟨e,by lia⟩ h2 j)
theorem ZA (W:WO b)(L:O9 M A E s kd b good)(T:Two b good a c){mg ac bc n:Nat}(R:Za1 b a c n st Q)(hs:kindOf st=kd)(h:MH b a c (na+1) (nb+1) out)(h1:na+1<=a.size)(h2:0<nb/\nb+1<=c.size)(hn:n<=out.size)(hl:∀x,c[nb]?=some x->∀y∈a.toList.take (na+1),kle b y x):wpS M A E s (mhC a c mg ac bc (na+1) (nb+1) out) Q st:=by
 unfold mhC;dsimp only [Nat.add_sub_cancel];obtain ⟨x,Y,gx⟩:=T.ct (i:=nb) (by lia);obtain ⟨y,U,gy⟩:=T.at (i:=na) (by lia);refine Yac (Gz Y ?_);have h':=h.pushB Y (hl x Y);have D:n<=(out.push x).size:=by rw [Ycn];lia
 generalize out.push x=O at h' D;split
 ·rename_i e;exact Yaf (R.fin _ _ _ (SameG.refl _) (h'.first T (eq_of_beq e)))
 ·rename_i e;have e:1<nb:=by
   have:nb≠1:=λz=>e (Ybe.mpr z)
   lia
  refine Yac (Gz U ?_);have G:Gal b good true y c 0 nb:=Va W gy (λi hi=>by rw [Ydo];exact T.ct (by lia)) (Zx W h'.sb);refine Yac (Jt L G hs (by lia) λk hk k1 k2=>?_);dsimp only;have tk:∀z∈(c.extract k nb).toList,∀v∈a.toList.take (na+1),kle b v z:=λz hz v B=>by
   obtain ⟨i,hi,hj,ez⟩:=WW hz;have:=k2 i hi hj;unfold byd at this;rw [Ydo,ez] at this;dsimp only at this;rw [if_pos rfl] at this;exact W.le_trans (VC W h'.sa U v B) this
  have tr:∀v∈c.toList.take k,kle b v y:=λv B=>by
   obtain ⟨i,hi,ev⟩:=Za0 B;have:=k1 i hi;unfold byd at this;rw [Ydo,ev] at this;dsimp only at this;rw [if_pos rfl] at this;exact W.le_of_lt this
  split
  ·have Z:=h'.takeB hk tk;have aa:n<=(O++(c.extract k nb).reverse).size:=by rw [Array.size_append];lia
   split
   ·rename_i e2;exact Yaf (R.fin _ _ _ (SameG.refl _) (Z.first T (eq_of_beq e2)))
   ·rename_i e2;split
    ·rename_i e3;exact Yaf (R.fin _ _ _ (SameG.refl _) (Z.done (.inr (eq_of_beq e3))))
    ·rename_i e3;have e4:1<k:=by
      have:k≠1:=λz=>e2 (Ybe.mpr z);have:k≠0:=λz=>e3 (Ybe.mpr z)
      lia
     exact Zz T R Z h1 ⟨e4,by lia⟩ aa λx' j v B=>by
      rw [U] at j;cases j;exact tr v B
  ·have:k=nb:=by lia
   subst this;exact Zz T R h' h1 ⟨e,by lia⟩ D λx' j v B=>by
    rw [U] at j;cases j;exact tr v B
theorem ZcJ (W:WO b)(L:O9 M A E s kd b good)(T:Two b good a c){mg ac bc n:Nat}(R:∀O,SameG st O->Za1 b a c n O Q)(hs:kindOf st=kd)(h:MH b a c na (nb+1) out)(h1:0<na/\na<=a.size)(h2:0<nb/\nb+1<=c.size)(hn:n<=out.size) :
  wpS M A E s (mhB a c mg ac bc na (nb+1) out) Q st:=by
 unfold mhB;refine Yac (Oc λU sg=>?_);have R:=R U sg;have B:kindOf U=kd:=sg.1.trans hs;dsimp only [Nat.add_sub_cancel];obtain ⟨x,Y,gx⟩:=T.ct (i:=nb) (by lia);refine Yac (Gz Y ?_);have G:Gal b good false x a 0 na:=Va W gx (λi hi=>by rw [Ydo];exact T.at (by lia)) (Zx W h.sa);refine Yac (Jt L G B (by lia) λk hk k1 k2=>?_);dsimp only;have tk:∀z∈(a.extract k na).toList,∀v∈c.toList.take (nb+1),kle b v z:=λz hz v D=>by
  obtain ⟨i,hi,hj,ez⟩:=WW hz;have:=k2 i hi hj;unfold byd at this;rw [Ydo,ez] at this;dsimp only at this;rw [if_neg Yar,Bool.not_eq_false'] at this;exact W.le_trans (VC W h.sb Y v D) (W.le_of_lt this)
 have tr:∀v∈a.toList.take k,kle b v x:=λv D=>by
  obtain ⟨i,hi,ev⟩:=Za0 D;have:=k1 i hi;unfold byd at this;rw [Ydo,ev] at this;dsimp only at this;rw [if_neg Yar,Bool.not_eq_true'] at this;exact this
 split
 ·have h3:=h.takeA hk tk;have Z:n<=(out++(a.extract k na).reverse).size:=by rw [Array.size_append];lia
  split
  ·rename_i e2;exact Yaf (R.fin _ _ _ (SameG.refl _) (h3.done (.inl (eq_of_beq e2))))
  ·rename_i e2;have:k≠0:=λz=>e2 (Ybe.mpr z);obtain ⟨k,rfl⟩:∃n,k=n+1:=⟨k-1,by lia⟩;exact ZA W L T R B h3 (by lia) h2 Z λx' j v D=>by
    rw [Y] at j;cases j;exact tr v D
 ·have:k=na:=by lia
  subst this;obtain ⟨k,rfl⟩:∃n,k=n+1:=⟨k-1,by lia⟩;exact ZA W L T R B h (by lia) h2 hn λx' j v D=>by
   rw [Y] at j;cases j;exact tr v D
end
theorem ZB (W:WO b)(L:O9 M A E s kd b good)(T:Two b good a c){out:Array Keyed}{na nb n:Nat}{y:Nat×Nat×Nat}{st:SortSt}(hs:kindOf st=kd)(h:MH b a c na nb out)(h1:0<na/\na<=a.size)(h2:1<nb/\nb<=c.size){Q:MHt->SortSt->Prop}(q1:∀r y U,SameG st U->Jm b (a.toList++c.toList) r.toList->Q (some r,y) U)(q2:∀O D B y U,SameG st U->MH b a c O D B->(0<O/\O<=a.size)->(1<D/\D<=c.size)->out.size<=B.size->Q (none,O,D,B,y) U) :
  wpS M A E s (forIn [:n] ((none,na,nb,out,y):MHt) (ZaY a c)) Q st:=by
 refine Ybz (λk r U=>SameG st U/\∃O D B y,r=(none,O,D,B,y)/\MH b a c O D B/\(0<O/\O<=a.size)/\(1<D/\D<=c.size)/\out.size<=B.size) ?_ ?_ ⟨SameG.refl _,_,_,_,_,rfl,h,h1,h2,Yad _⟩
 ·rintro k r Y _ hk ⟨sg,O,D,B,y,rfl,h,h1,h2,h3⟩;have ab:kindOf Y=kd:=sg.1.trans hs;have R:∀U,SameG Y U->Za1 b a c out.size U (λr U=>match r with
   | .done c'=>Q c' U
   | .yield c'=>SameG st U/\∃O D B y,c'=(none,O,D,B,y)/\MH b a c O D B/\(0<O/\O<=a.size)/\(1<D/\D<=c.size)/\out.size<=B.size):=λU aa=>
   ⟨λr y Z g m=>q1 r y Z ((sg.trans aa).trans g) m,λo i j y Z g m p1 p2 p3=>q2 o i j y Z ((sg.trans aa).trans g) m p1 p2 p3,λo i j y Z g m p1 p2 p3=>⟨(sg.trans aa).trans g,o,i,j,y,rfl,m,p1,p2,p3⟩⟩
  unfold ZaY;dsimp only;obtain ⟨D,rfl⟩:∃n,D=n+1:=⟨D - 1,by lia⟩;have mono:∀mg,wpS M A E s (mhB a c mg y.2.1 y.2.2 O (D+1) B) _ Y:=λmg=>ZcJ W L T R ab h h1 ⟨by lia,h2.2⟩ h3;split
  ·exact wpS_mono (mono _) λr U hr=>by cases r <;> exact hr
  ·exact wpS_mono (mono _) λr U hr=>by cases r <;> exact hr
 ·rintro r Y ⟨sg,O,D,B,y,rfl,h,h1,h2,h3⟩;exact q2 _ _ _ _ _ sg h h1 h2 h3
theorem WX (W:WO b)(L:O9 M A E s kd b good)(T:Two b good a c){st:SortSt}(hs:kindOf st=kd){Q:Array Keyed->SortSt->Prop}(q:∀r U,SameG st U->Jm b (a.toList++c.toList) r.toList->Q r U):wpS M A E s (Vy a c) Q st:=by
 rw [WV];refine Yac (wpS_lift (wpAny_rule ⟨rfl,?_⟩));have hc:=T.nc;have ha:=T.na;obtain ⟨x,hx,gx⟩:=T.at (i:=a.size-1) (by lia);refine Yac (Gz hx ?_);have h0:MH b a c (a.size-1) c.size #[x]:=by
  have z:MH b a c (a.size-1+1) c.size #[]:=by
   unfold MH;rw [Nat.sub_add_cancel (by lia),Yeh (by simp),Yeh (by simp)];exact ⟨by simp,by simp,by simp,T.sa,T.sc⟩
  exact z.pushA hx λy hy=>T.last x hx y (Yej hy)
 dsimp only;split
 ·rename_i e;exact Yaf (q _ _ (SameG.refl _) (h0.done (.inl (eq_of_beq e))))
 ·rename_i e;have e:0<a.size-1:=by
   have:a.size-1≠0:=λz=>e (Ybe.mpr z)
   lia
  split
  ·rename_i Y;exact Yaf (q _ _ (SameG.refl _) (h0.first T (eq_of_beq Y)))
  ·rename_i Y;have Y:1<c.size:=by
    have:c.size≠1:=λz=>Y (Ybe.mpr z)
    lia
   refine Yac (wpS_get ?_);refine Yac (Ybz (λk r U=>SameG st U/\∃D O B mg,r=(none,D,O,B,mg)/\MH b a c D O B/\(0<D/\D<=a.size)/\(1<O/\O<=c.size)/\k<B.size) ?_ ?_ ⟨SameG.refl _,_,_,_,_,rfl,h0,⟨e,by lia⟩,⟨Y,Yad _⟩,by simp⟩)
   ·rintro k r Z _ hk ⟨sg,D,O,B,mg,rfl,h,h1,h2,h3⟩;have aa:kindOf Z=kd:=sg.1.trans hs;unfold ZaZ;dsimp only;refine Yac (Zy W L T aa h h1 h2 (λr y ab g m=>?_) (λo i j ac bc ab g m p1 p2 p3=>?_))
    ·refine Yaf ?_;dsimp only;exact Yaf (q r ab (sg.trans g) m)
    ·dsimp only;refine Yac (wpS_lift (wpAny_rule ⟨rfl,?_⟩));refine Yac (ZB W L T (g.1.trans aa) m p1 p2 (λr y ad g3 m3=>?_) (λo3 i3 j3 y3 ad g3 m3 r1 r2 r3=>?_))
     ·refine Yaf ?_;dsimp only;exact Yaf (q r ad ((sg.trans g).trans g3) m3)
     ·dsimp only;refine Yac (Oc λae g4=>?_);exact Yaf ⟨((sg.trans g).trans g3).trans g4,_,_,_,_,rfl,m3,r1,r2,by lia⟩
   ·rintro r Z ⟨sg,D,O,B,mg,rfl,h,h1,h2,h3⟩;exfalso;have:=MrgH.len h;rw [Yae,Yba,Yba,List.length_reverse,Ybd,Ybd,Ybd] at this;simp at h3
    lia
end
noncomputable abbrev Asc:=Option (Option Nat)×Nat
noncomputable abbrev Dsc:=Option (Option Nat)×Nat×Nat
noncomputable def ZcK (lo:Nat):Nat->Asc->StateT SortSt Sem (ForInStep Asc):=λ_ r=>do
 match <- ltAt' (lo+r.2) (lo+r.2-1) with
 | some smaller=>if smaller=true then pure (.done (none,r.2)) else pure (.yield (none,r.2+1))
 | _=>pure (.done (some none,r.2))
noncomputable def Zfw (lo:Nat):Nat->Dsc->StateT SortSt Sem (ForInStep Dsc):=λ_ r=>do
 match <- ltAt' (lo+r.2.1) (lo+r.2.1-1) with
 | some smaller=>
  if smaller=true then
   if r.2.2 > 0 then do
    reverseSlice' (lo+r.2.1-(r.2.2+1)) (lo+r.2.1)
    pure (.yield (none,r.2.1+1,0))
   else pure (.yield (none,r.2.1+1,0))
  else do
   match <- ltAt' (lo+r.2.1-1) (lo+r.2.1) with
   | some larger=>if larger=true then pure (.done (none,r.2.1,r.2.2)) else pure (.yield (none,r.2.1+1,r.2.2+1))
   | _=>pure (.done (some none,r.2.1,r.2.2))
 | _=>pure (.done (some none,r.2.1,r.2.2))
noncomputable def Wo (lo n j:Nat):StateT SortSt Sem (Option Nat):=do
 reverseSlice' lo (lo+n)
 let r <- forIn [n:j] ((none,n):Asc) (ZcK lo)
 match r.1 with
 | some x=>pure x
 | none=>pure (some r.2)
noncomputable def Ym (lo n j:Nat):StateT SortSt Sem (Option Nat):=do
 liftM (rule "list.sort.descending-run")
 let r <- forIn [n+1:j] ((none,n+1,0):Dsc) (Zfw lo)
 match r.1 with
 | some x=>pure x
 | none=>(if r.2.2 > 0 then (do
   reverseSlice' (lo+r.2.1-(r.2.2+1)) (lo+r.2.1)
   Wo lo r.2.1 j) else Wo lo r.2.1 j)
theorem WY (lo B:Nat):countRun' lo B=(do
  let r <- forIn [1:B] ((none,1):Asc) (ZcK lo)
  match r.1 with
  | some x=>pure x
  | none=>(if (r.2 == B)=true then pure (some r.2) else (if r.2 > 1 then (do
    match <- ltAt' lo (lo+r.2-1) with
    | some rose=>(if rose=true then pure (some r.2) else (do
      reverseSlice' lo (lo+r.2)
      Ym lo r.2 B))
    | _=>pure none)
   else Ym lo r.2 B))):=by
 rw [countRun'_eq];refine (Ybh (λm:StateT SortSt Sem Asc=>m >>= _) (UC (r:=[1:B]) (c:=((none,1):Asc)) (g:=ZcK lo) λi r=>rfl)).trans ?_;refine Ji λr=>?_;obtain ⟨D,j⟩:=r;cases D with
 | some z=>rfl
 | none=>
  refine VA (c:=(j == B)=true) rfl ?_;refine VA (c:=j > 1) ?_ ?_
  ·refine Ji λz=>?_;cases z with
   | none=>rfl
   | some z=>
    refine VA (c:=z=true) rfl ?_;refine Ji λ_=>?_;unfold Ym;refine Ji λ_=>?_;refine (Ybh (λm:StateT SortSt Sem Dsc=>m >>= _) (UC (r:=[j+1:B]) (c:=((none,j+1,0):Dsc)) (g:=Zfw lo) λi r=>rfl)).trans ?_;refine Ji λr=>?_;obtain ⟨D,j,L⟩:=r;cases D with
    | some z=>rfl
    | none=>
     refine VA (c:=L > 0) (Ji λ_=>?_) ?_
     all_goals
      unfold Wo;refine Ji λ_=>?_;refine (Ybh (λm:StateT SortSt Sem Asc=>m >>= _) (UC (r:=[j:B]) (c:=((none,j):Asc)) (g:=ZcK lo) λi r=>rfl)).trans ?_;refine Ji λr=>?_;obtain ⟨D,j⟩:=r;cases D <;> rfl
  ·unfold Ym;refine Ji λ_=>?_;refine (Ybh (λm:StateT SortSt Sem Dsc=>m >>= _) (UC (r:=[j+1:B]) (c:=((none,j+1,0):Dsc)) (g:=Zfw lo) λi r=>rfl)).trans ?_;refine Ji λr=>?_;obtain ⟨D,j,L⟩:=r;cases D with
   | some z=>rfl
   | none=>
    refine VA (c:=L > 0) (Ji λ_=>?_) ?_
    all_goals
     unfold Wo;refine Ji λ_=>?_;refine (Ybh (λm:StateT SortSt Sem Asc=>m >>= _) (UC (r:=[j:B]) (c:=((none,j):Asc)) (g:=ZcK lo) λi r=>rfl)).trans ?_;refine Ji λr=>?_;obtain ⟨D,j⟩:=r;cases D <;> rfl
structure Ah (lo:Nat)(st st':SortSt):Prop where
 kd:kindOf st'=kindOf st
 pe:pendingOf st'=pendingOf st
 fa:failedOf st'=failedOf st
 pm:(arrOf st').Perm (arrOf st)
 lw:∀i,i<lo->(arrOf st')[i]?=(arrOf st)[i]?
theorem Ah.refl (lo:Nat)(st:SortSt):Ah lo st st:=⟨rfl,rfl,rfl,.refl _,λ_ _=>rfl⟩
theorem Ah.trans {lo:Nat}{st B j:SortSt}(h:Ah lo st B)(k:Ah lo B j):Ah lo st j:=
 ⟨k.kd.trans h.kd,k.pe.trans h.pe,k.fa.trans h.fa,k.pm.trans h.pm,λi hi=>(k.lw i hi).trans (h.lw i hi)⟩
theorem Ah.size {lo:Nat}{st j:SortSt}(h:Ah lo st j):(arrOf j).size=(arrOf st).size:=h.pm.size_eq
noncomputable def AllG (good:Keyed->Prop)(arr:Array Keyed):Prop:=∀x∈arr.toList,good x
theorem AllG.perm {good:Keyed->Prop}{a c:Array Keyed}(h:AllG good a)(p:c.Perm a):AllG good c:=λx j=>h x (p.toList.mem_iff.mp j)
theorem AllG.at {good:Keyed->Prop}{a:Array Keyed}(h:AllG good a){i:Nat}(hi:i<a.size):∃x,a[i]?=some x/\good x:=⟨a[i],by simp [hi],h _ (by simp)⟩
noncomputable def Zat (b:Keyed->Keyed->Bool)(arr:Array Keyed)(lo hi:Nat):Prop:=∀i j x y,lo<=i->i<=j->j<hi->arr[i]?=some x->arr[j]?=some y->kle b y x
section
variable {M:Model}{A:Around}{E:EX}{s:Shared}{kd:SortKind}{b:Keyed->Keyed->Bool}{good:Keyed->Prop}
theorem OE {st:SortSt}{i j:Nat}{Q:Option Bool->SortSt->Prop}(L:O9 M A E s kd b good)(O:kindOf st=kd)(G:AllG good (arrOf st))(hi:i<(arrOf st).size)(U:j<(arrOf st).size)(q:∀x y,(arrOf st)[i]?=some x->(arrOf st)[j]?=some y->Q (some (b x y)) st):wpS M A E s (ltAt' i j) Q st:=by
 obtain ⟨x,B,Y⟩:=G.at hi;obtain ⟨y,D,Z⟩:=G.at U;rw [ltAt'_eq];refine Yac (wpS_get ?_);exact Yac (Gz B (Yac (Gz D (L x y st Q Y Z O (q x y B D)))))
theorem ZcL (arr:Array Keyed)(W:WO b)(lo:Nat):Rng b arr lo (lo+1):=λi j x y h1 h2 L D B=>by
 have:i=j:=by lia
 subst this;rw [D] at B;cases B;exact W.le_refl _
theorem Za2 {arr:Array Keyed}(W:WO b){lo n:Nat}{x y:Keyed}(h:Rng b arr lo (lo+n))(Z:0<n)(U:arr[lo+n-1]?=some x)(O:arr[lo+n]?=some y)(D:kle b x y):Rng b arr lo (lo+n+1):=λi j u v h1 h2 h3 B L=>by
 by_cases Y:j<lo+n
 ·exact h i j u v h1 h2 Y B L
 ·have:j=lo+n:=by lia
  subst this;rw [O] at L;cases L;by_cases hi:i=lo+n
  ·subst hi;rw [O] at B;cases B;exact W.le_refl _
  ·exact W.le_trans (h i (lo+n-1) u x h1 (by lia) (by lia) B U) D
theorem J3 {arr:Array Keyed}(W:WO b){lo n:Nat}{x y:Keyed}(h:Zat b arr lo (lo+n))(Z:0<n)(U:arr[lo+n-1]?=some x)(O:arr[lo+n]?=some y)(D:kle b y x):Zat b arr lo (lo+n+1):=λi j u v h1 h2 h3 B L=>by
 by_cases Y:j<lo+n
 ·exact h i j u v h1 h2 Y B L
 ·have:j=lo+n:=by lia
  subst this;rw [O] at L;cases L;by_cases hi:i=lo+n
  ·subst hi;rw [O] at B;cases B;exact W.le_refl _
  ·exact W.le_trans D (h i (lo+n-1) u x h1 (by lia) (by lia) B U)
theorem ZC (W:WO b)(L:O9 M A E s kd b good){st:SortSt}{lo a j:Nat}{Q:Asc->SortSt->Prop}(hs:kindOf st=kd)(G:AllG good (arrOf st))(hn:lo+j<=(arrOf st).size)(h1:1<=a)(h2:a<=j)(h3:Rng b (arrOf st) lo (lo+a))(q:∀n,a<=n->n<=j->Rng b (arrOf st) lo (lo+n)->(n=j\/∃x y,(arrOf st)[lo+n-1]?=some x/\(arrOf st)[lo+n]?=some y/\b y x=true)->Q (none,n) st):wpS M A E s (forIn [a:j] ((none,a):Asc) (ZcK lo)) Q st:=by
 refine Ybz (λk r B=>B=st/\r=(none,k)/\a<=k/\k<=j/\Rng b (arrOf st) lo (lo+k)) ?_ ?_ ⟨rfl,rfl,Yad _,h2,h3⟩
 ·rintro k r B _ hk ⟨rfl,rfl,U,Y,D⟩;unfold ZcK;refine Yac (OE L hs G (by show lo+k<_;lia) (by show lo+k-1<_;lia) λy x Z hx=>?_);dsimp only;split
  ·rename_i O;exact Yaf (q k U Y D (.inr ⟨x,y,hx,Z,O⟩))
  ·rename_i O;exact Yaf ⟨rfl,rfl,by lia,by lia,Za2 W D (by lia) hx Z (Ydy.mpr O)⟩
 ·rintro r B ⟨rfl,rfl,U,Y,D⟩;rw [Nat.max_eq_right h2] at D ⊢;exact q j h2 (Yad _) D (.inl rfl)
noncomputable def ZD (b:Keyed->Keyed->Bool)(arr:Array Keyed)(lo hi:Nat):Prop:=∀i j x y,lo<=i->i<hi->lo<=j->j<hi->arr[i]?=some x->arr[j]?=some y->kle b x y
theorem OF {st:SortSt}{lo i j:Nat}(h:lo<=i)(B:j<=(arrOf st).size):Ah lo st (setArr st (mirror (arrOf st) i j ((j-i) / 2))):=by
 refine ⟨rfl,rfl,rfl,mirror_perm _ _ _ _,λk D=>?_⟩;show (mirror (arrOf st) i j ((j-i) / 2))[k]?=_;rw [Ydv B,if_neg (by lia)]
theorem Yn {arr:Array Keyed}{lo hi:Nat}(L:hi<=arr.size)(h:Zat b arr lo hi):Rng b (mirror arr lo hi ((hi-lo) / 2)) lo hi:=λi j x y h1 h2 O B D=>by
 rw [Ydv L,if_pos (by lia)] at B D;exact h (lo+hi-1-j) (lo+hi-1-i) y x (by lia) (by lia) (by lia) D B
theorem Os {arr:Array Keyed}{lo hi i j:Nat}(Z:j<=arr.size)(h1:lo<=i)(h2:i<=j)(h3:j<=hi)(hA:ZD b arr i j)(h:Zat b arr lo hi):Zat b (mirror arr i j ((j-i) / 2)) lo hi:=λp q x y O k2 U D B=>by
 rw [Ydv Z] at D B;by_cases Y:i<=p/\p<j
 ·rw [if_pos Y] at D;by_cases L:i<=q/\q<j
  ·rw [if_pos L] at B;exact hA (i+j-1-q) (i+j-1-p) y x (by lia) (by lia) (by lia) (by lia) B D
  ·rw [if_neg L] at B;exact h _ q x y (by lia) (by lia) U D B
 ·rw [if_neg Y] at D;by_cases L:i<=q/\q<j
  ·rw [if_pos L] at B;exact h p _ x y O (by lia) (by lia) D B
  ·rw [if_neg L] at B;exact h p q x y O k2 U D B
noncomputable def Zf9 (b:Keyed->Keyed->Bool)(lo B:Nat)(st:SortSt)(Q:Option Nat->SortSt->Prop):Prop:=∀m j,Ah lo st j->1<=m->m<=B->Rng b (arrOf j) lo (lo+m)->Q (some m) j
theorem Wp (W:WO b)(L:O9 M A E s kd b good){st:SortSt}{lo n O:Nat}{Q:Option Nat->SortSt->Prop}(U:kindOf st=kd)(G:AllG good (arrOf st))(Y:lo+O<=(arrOf st).size)(h1:1<=n)(h2:n<=O)(Z:Zat b (arrOf st) lo (lo+n))(q:Zf9 b lo O st Q):wpS M A E s (Wo lo n O) Q st:=by
 unfold Wo;rw [reverseSlice'_eq];refine Yac (Ycj ?_);have B:=OF (st:=st) (lo:=lo) (i:=lo) (j:=lo+n) (Yad _) (by lia);have r:=Yn (arr:=arrOf st) (lo:=lo) (hi:=lo+n) (by lia) Z;generalize hst:setArr st (mirror (arrOf st) lo (lo+n) ((lo+n-lo) / 2))=D at B;have e1:arrOf D=mirror (arrOf st) lo (lo+n) ((lo+n-lo) / 2):=by rw [<-hst]
 rw [<-e1] at r;refine Yac (ZC W L (B.kd.trans U) (G.perm B.pm) (by rw [B.size];exact Y) h1 h2 r λm k1 k2 k3 _=>?_);dsimp only;exact Yaf (q m D B (by lia) k2 k3)
theorem Wq (W:WO b)(L:O9 M A E s kd b good){st:SortSt}{lo n U:Nat}{Q:Option Nat->SortSt->Prop}(hs:kindOf st=kd)(G:AllG good (arrOf st))(hn:lo+U<=(arrOf st).size)(h2:n+1<=U)(h3:Zat b (arrOf st) lo (lo+(n+1)))(q:Zf9 b lo U st Q):wpS M A E s (Ym lo n U) Q st:=by
 unfold Ym;refine Yac (wpS_lift (wpAny_rule ⟨rfl,?_⟩));have fin:∀m B D,Ah lo st D->n+1<=m->m<=U->Zat b (arrOf D) lo (lo+m)->B+1<=m->ZD b (arrOf D) (lo+m-(B+1)) (lo+m) ->
   wpS M A E s (if B > 0 then (do reverseSlice' (lo+m-(B+1)) (lo+m);Wo lo m U) else Wo lo m U) Q D:=by
  intro m B D O k1 k2 k3 k4 k5;have G1:=G.perm O.pm;have ae:lo+U<=(arrOf D).size:=by rw [O.size];exact hn
  split
  ·rw [reverseSlice'_eq];refine Yac (Ycj ?_);have Y:=OF (st:=D) (lo:=lo) (i:=lo+m-(B+1)) (j:=lo+m) (by lia) (by lia);have r:=Os (arr:=arrOf D) (lo:=lo) (hi:=lo+m) (i:=lo+m-(B+1)) (j:=lo+m) (by lia) (by lia) (by lia) (Yad _) k5 k3;generalize hst:setArr D (mirror (arrOf D) (lo+m-(B+1)) (lo+m) ((lo+m-(lo+m-(B+1))) / 2))=ab at Y;have e1:arrOf ab=mirror (arrOf D) (lo+m-(B+1)) (lo+m) ((lo+m-(lo+m-(B+1))) / 2):=by rw [<-hst]
   rw [<-e1] at r;have aa:=O.trans Y;exact Wp W L (aa.kd.trans hs) (G.perm aa.pm) (by rw [aa.size];exact hn) (by lia) k2 r λm' ac a'=>q m' ac (aa.trans a')
  ·exact Wp W L (O.kd.trans hs) G1 ae (by lia) k2 k3 λm' ac a'=>q m' ac (O.trans a')
 have ad:∀(arr:Array Keyed) m,ZD b arr (lo+m-(0+1)) (lo+m):=λarr m i j x y i1 i2 i3 i4 e1 e2=>by
  have:i=j:=by lia
  subst this;rw [e1] at e2;cases e2;exact W.le_refl _
 refine Yac (Ybz (λk r D=>Ah lo st D/\∃B,r=(none,k,B)/\n+1<=k/\k<=U/\Zat b (arrOf D) lo (lo+k)/\B+1<=k/\ZD b (arrOf D) (lo+k-(B+1)) (lo+k)) ?_ ?_ ⟨Ah.refl _ _,0,rfl,Yad _,h2,h3,by lia,ad _ _⟩)
 ·rintro k r D _ hk ⟨O,B,rfl,k1,k2,k3,k4,k5⟩;have G1:=G.perm O.pm;have ae:lo+U<=(arrOf D).size:=by rw [O.size];exact hn
  have af:=O.kd.trans hs;unfold Zfw;refine Yac (OE L af G1 (by show lo+k<_;lia) (by show lo+k-1<_;lia) λy x hy hx=>?_);dsimp only;split
  ·rename_i hb;have Z:=W.le_of_lt hb;split
   ·rw [reverseSlice'_eq];refine Yac (Ycj ?_);have Y:=OF (st:=D) (lo:=lo) (i:=lo+k-(B+1)) (j:=lo+k) (by lia) (by lia);have r:=Os (arr:=arrOf D) (lo:=lo) (hi:=lo+k) (i:=lo+k-(B+1)) (j:=lo+k) (by lia) (by lia) (by lia) (Yad _) k5 k3;have e3:(mirror (arrOf D) (lo+k-(B+1)) (lo+k) ((lo+k-(lo+k-(B+1))) / 2))[lo+k]?=some y:=by rw [Ydv (by lia),if_neg (by lia)];exact hy
    have e4:∃z,(mirror (arrOf D) (lo+k-(B+1)) (lo+k) ((lo+k-(lo+k-(B+1))) / 2))[lo+k-1]?=some z/\kle b y z:=by
     obtain ⟨z,hz,_⟩:=G1.at (i:=lo+k-(B+1)) (by lia);refine ⟨z,?_,W.le_trans Z (k3 (lo+k-(B+1)) (lo+k-1) z x (by lia) (by lia) (by lia) hz hx)⟩;rw [Ydv (by lia),if_pos (by lia),<-hz]
     congr 1
     lia
    generalize hst:setArr D (mirror (arrOf D) (lo+k-(B+1)) (lo+k) ((lo+k-(lo+k-(B+1))) / 2))=ab at Y;have e1:arrOf ab=mirror (arrOf D) (lo+k-(B+1)) (lo+k) ((lo+k-(lo+k-(B+1))) / 2):=by rw [<-hst]
    rw [<-e1] at r e3 e4;obtain ⟨z,hz,ak⟩:=e4;exact Yaf ⟨O.trans Y,0,rfl,by lia,by lia,J3 W r (by lia) hz e3 ak,by lia,ad _ _⟩
   ·exact Yaf ⟨O,0,rfl,by lia,by lia,J3 W k3 (by lia) hx hy Z,by lia,ad _ _⟩
  ·rename_i hb;have am:kle b x y:=Ydy.mpr hb;refine Yac (OE L af G1 (by show lo+k-1<_;lia) (by show lo+k<_;lia) λx' y' ag ai=>?_);rw [hx] at ag;cases ag;rw [hy] at ai;cases ai;dsimp only;split
   ·refine Yaf ?_;dsimp only;exact fin k B D O k1 k2 k3 k4 k5
   ·rename_i an;have Z:kle b y x:=Ydy.mpr an;refine Yaf ⟨O,B+1,rfl,by lia,by lia,J3 W k3 (by lia) hx hy Z,by lia,λi j u v i1 i2 i3 i4 e1 e2=>?_⟩;have aj:∀i u,lo+k-(B+1)<=i->i<lo+(k+1)->(arrOf D)[i]?=some u->kle b u x/\kle b x u:=λi u p1 p2 e=>by
     by_cases hi:i<lo+k
     ·exact ⟨k5 i (lo+k-1) u x p1 hi (by lia) (by lia) e hx,k5 (lo+k-1) i x u (by lia) (by lia) p1 hi hx e⟩
     ·have:i=lo+k:=by lia
      subst this;rw [hy] at e;cases e;exact ⟨Z,am⟩
    exact W.le_trans (aj i u (by lia) i2 e1).1 (aj j v (by lia) i4 e2).2
 ·rintro r D ⟨O,B,rfl,k1,k2,k3,k4,k5⟩;dsimp only;rw [Nat.max_eq_right h2] at *;exact fin U B D O k1 k2 k3 k4 k5
theorem VD (W:WO b)(L:O9 M A E s kd b good){st:SortSt}{lo O:Nat}{Q:Option Nat->SortSt->Prop}(hs:kindOf st=kd)(G:AllG good (arrOf st))(hn:lo+O<=(arrOf st).size)(h1:1<=O)(q:Zf9 b lo O st Q):wpS M A E s (countRun' lo O) Q st:=by
 rw [WY];refine Yac (ZC W L hs G hn (Yad _) h1 (ZcL _ W _) λn k1 k2 k3 k4=>?_);dsimp only;split
 ·exact Yaf (q n st (Ah.refl _ _) k1 k2 k3)
 ·rename_i e;have e:n≠O:=λz=>e (Ybe.mpr z);obtain ⟨x,y,hx,hy,hb⟩:=k4.resolve_left e;have U:=W.le_of_lt hb;split
  ·rename_i B;refine Yac (OE L hs G (by lia) (by lia) λu v hu hv=>?_);rw [hx] at hv;cases hv;dsimp only;split
   ·exact Yaf (q n st (Ah.refl _ _) k1 k2 k3)
   ·rename_i aa;have Y:kle b x u:=Ydy.mpr aa;have al:ZD b (arrOf st) lo (lo+n):=λi j p r i1 i2 i3 i4 B D=>
     W.le_trans (k3 i (lo+n-1) p x i1 (by lia) (by lia) B hx) (W.le_trans Y (k3 lo j u r (Yad _) i3 i4 hu D))
    have ni:Zat b (arrOf st) lo (lo+n):=λi j p r i1 i2 i3 B D=>al j i r p (by lia) i3 i1 (by lia) D B;rw [reverseSlice'_eq];refine Yac (Ycj ?_);have Z:=OF (st:=st) (lo:=lo) (i:=lo) (j:=lo+n) (Yad _) (by lia);have r:=Os (arr:=arrOf st) (lo:=lo) (hi:=lo+n) (i:=lo) (j:=lo+n) (by lia) (Yad _) (by lia) (Yad _) al ni;have e3:(mirror (arrOf st) lo (lo+n) ((lo+n-lo) / 2))[lo+n]?=some y:=by rw [Ydv (by lia),if_neg (by lia)];exact hy
    have e4:(mirror (arrOf st) lo (lo+n) ((lo+n-lo) / 2))[lo+n-1]?=some u:=by
     rw [Ydv (by lia),if_pos (by lia),<-hu]
     congr 1
     lia
    generalize hst:setArr st (mirror (arrOf st) lo (lo+n) ((lo+n-lo) / 2))=ab at Z;have B:arrOf ab=mirror (arrOf st) lo (lo+n) ((lo+n-lo) / 2):=by rw [<-hst]
    rw [<-B] at r e3 e4;exact Wq W L (Z.kd.trans hs) (G.perm Z.pm) (by rw [Z.size];exact hn) (by lia) (J3 W r (by lia) e4 e3 (W.le_trans U Y)) λm' ac a'=>q m' ac (Z.trans a')
  ·have:n=1:=by lia
   subst this;refine Wq W L hs G hn (by lia) (J3 W (λi j p r i1 i2 i3 B D=>?_) (by lia) hx hy U) q;have:i=j:=by lia
   subst this;rw [B] at D;cases D;exact W.le_refl _
theorem Yo (W:WO b){arr:Array Keyed}{lo k l:Nat}{p:Keyed}(hk:lo+k<arr.size)(hl:l<=k)(h:Rng b arr lo (lo+k))(hp:arr[lo+k]?=some p)(h1:∀i x,i<l->arr[lo+i]?=some x->kle b x p)(h2:∀i x,l<=i->i<k->arr[lo+i]?=some x->kle b p x) :
  Rng b (bubble arr (lo+k) (lo+k-(lo+l))) lo (lo+(k+1)):=by
 have e0:lo+k-(lo+k-(lo+l))=lo+l:=by lia
 have at_:∀q,(bubble arr (lo+k) (lo+k-(lo+l)))[q]?=if q=lo+l then some p else if lo+l<q/\q<=lo+k then arr[q-1]? else arr[q]?:=λq=>by
  rw [getElem?_bubble hk _ (by lia),e0,hp]
 intro i j x y i1 i2 i3 D B;rw [at_] at D B;have low:∀q z,lo<=q->q<lo+l->arr[q]?=some z->kle b z p:=λq z O q2 e=>h1 (q-lo) z (by lia) (by rw [Yda O];exact e);have high:∀q z,lo+l<=q->q<lo+k->arr[q]?=some z->kle b p z:=λq z O q2 e=>h2 (q-lo) z (by lia) (by lia) (by rw [Yda (by lia)];exact e);by_cases U:i=lo+l
 ·rw [if_pos U] at D;cases D;by_cases L:j=lo+l
  ·rw [if_pos L] at B;cases B;exact W.le_refl _
  ·rw [if_neg L,if_pos (by lia)] at B;exact high (j-1) y (by lia) (by lia) B
 ·rw [if_neg U] at D;by_cases Y:lo+l<i/\i<=lo+k
  ·rw [if_pos Y] at D;rw [if_neg (by lia),if_pos (by lia)] at B;exact h (i-1) (j-1) x y (by lia) (by lia) (by lia) D B
  ·rw [if_neg Y] at D;by_cases L:j=lo+l
   ·rw [if_pos L] at B;cases B;exact low i x i1 (by lia) D
   ·rw [if_neg L] at B;by_cases Z:lo+l<j/\j<=lo+k
    ·rw [if_pos Z] at B;exact h i (j-1) x y i1 (by lia) (by lia) D B
    ·rw [if_neg Z] at B;exact h i j x y i1 i2 (by lia) D B
theorem ZE {st:SortSt}{lo src d:Nat}(h1:src<(arrOf st).size)(h2:d<=src)(j:lo<=src-d):Ah lo st (setArr st (bubble (arrOf st) src d)):=by
 refine ⟨rfl,rfl,rfl,bubble_perm _ _ _,λk B=>?_⟩;show (bubble (arrOf st) src d)[k]?=_;rw [getElem?_bubble h1 _ h2,if_neg (by lia),if_neg (by lia)]
theorem Yp (W:WO b)(L:O9 M A E s kd b good){st:SortSt}{lo n ok:Nat}{Q:Bool->SortSt->Prop}(hs:kindOf st=kd)(G:AllG good (arrOf st))(hn:lo+n<=(arrOf st).size)(h1:1<=ok)(h2:ok<=n)(h3:Rng b (arrOf st) lo (lo+ok))(q:∀D,Ah lo st D->Rng b (arrOf D) lo (lo+n)->Q true D):wpS M A E s (binarySort' lo n ok) Q st:=by
 rw [binarySort'_eq,Nat.max_eq_left h1];refine Yac (Ybz (λk r B=>Ah lo st B/\r=(none,())/\ok<=k/\k<=n/\Rng b (arrOf B) lo (lo+k)) ?_ ?_ ⟨Ah.refl _ _,rfl,Yad _,h2,h3⟩)
 ·rintro k r B _ hk ⟨O,rfl,k1,k2,U⟩;have G1:=G.perm O.pm;have ad:lo+n<=(arrOf B).size:=by rw [O.size];exact hn
  have ab:=O.kd.trans hs;obtain ⟨p,hp,gp⟩:=G1.at (i:=lo+k) (by lia);have fin:∀l,l<=k->(∀i x,i<l->(arrOf B)[lo+i]?=some x->kle b x p)->(∀i x,l<=i->i<k->(arrOf B)[lo+i]?=some x->kle b p x) ->
    wpS M A E s (do moveDown' (lo+k) (lo+l);pure (ForInStep.yield ((none,()):Option Bool×Unit))) (λr D=>match r with
     | .done c'=>False
     | .yield c'=>Ah lo st D/\c'=(none,())/\ok<=k+1/\k+1<=n/\Rng b (arrOf D) lo (lo+(k+1))) B:=by
   intro l hl g1 Y;rw [moveDown'_eq];refine Yac (Ycj ?_);have ac:=ZE (st:=B) (lo:=lo) (src:=lo+k) (d:=lo+k-(lo+l)) (by lia) (by lia) (by lia);exact Yaf ⟨O.trans ac,rfl,by lia,by lia,Yo W (by lia) hl U hp g1 Y⟩
  dsimp only;refine Yac (Ybz (λi c D=>D=B/\∃l r,c=(none,l,r)/\l<=r/\r<=k/\r-l<=k-i/\(∀i x,i<l->(arrOf B)[lo+i]?=some x->kle b x p)/\(∀i x,r<=i->i<k->(arrOf B)[lo+i]?=some x->kle b p x)) ?_ ?_ ⟨rfl,0,k,rfl,by lia,by lia,by lia,λi x hi=>by lia,λi x h1 h2=>by lia⟩)
  ·rintro i c D _ hi ⟨rfl,l,r,rfl,g1,Y,g3,g4,g5⟩;dsimp only;split
   ·have:l=r:=by lia
    subst this;refine Yaf ?_;dsimp only;exact wpS_mono (fin l Y g4 g5) λr D Z=>by
     cases r with
     | done z=>exact False.elim Z
     | yield z=>exact Z
   ·refine Yac (OE L ab G1 (by lia) (by lia) λp' m aa hm=>?_);rw [hp] at aa;cases aa;dsimp only;split
    ·rename_i hb;refine Yaf ⟨rfl,_,_,rfl,by lia,by lia,by lia,g4,λj x j1 j2 e=>?_⟩;exact W.le_trans (W.le_of_lt hb) (U _ (lo+j) m x (by lia) (by lia) (by lia) hm e)
    ·rename_i hb;refine Yaf ⟨rfl,_,_,rfl,by lia,by lia,by lia,λj x j1 e=>?_,g5⟩;exact W.le_trans (U (lo+j) _ x m (by lia) (by lia) (by lia) e hm) (Ydy.mpr hb)
  ·rintro c D ⟨rfl,l,r,rfl,g1,Y,g3,g4,g5⟩;have:l=r:=by simp at g3;lia
   subst this;dsimp only;exact wpS_mono (fin l Y g4 g5) λr D Z=>by
     cases r with
     | done z=>exact False.elim Z
     | yield z=>exact Z
 ·rintro r B ⟨O,rfl,k1,k2,U⟩;dsimp only;rw [Nat.max_eq_right h2] at U;exact Yaf (q B O U)
noncomputable def OG (arr:Array Keyed)(base:Nat)(l:List Keyed):Array Keyed:=List.foldl (λa (x:Keyed×Nat)=>a.setIfInBounds (base+x.2) x.1) arr l.zipIdx
noncomputable def Za3 (B:Nat)(j:Array Keyed):StateT SortSt Sem Bool:=do
 modify λs=>setArr s (OG (arrOf s) B j.toList)
 let s <- get
 pure (failedOf s).isNone
noncomputable def Zed (st:SortSt)(B na j nb:Nat):StateT SortSt Sem Bool:=(if (nb == 0)=true then pure true else (if na<=nb then (do
  let m <- Vx ((arrOf st).extract B j) ((arrOf st).extract j (j+nb))
  Za3 B m) else (do
  let m <- Vy ((arrOf st).extract B j) ((arrOf st).extract j (j+nb))
  Za3 B m)))
noncomputable def Zee (st:SortSt)(j na B nb:Nat):StateT SortSt Sem Bool:=(if (na == 0)=true then pure true else (do
  let y <- elem' (arrOf st) (j+na-1)
  match <- J2 true y (arrOf st) B nb (nb-1) with
  | some nb=>Zed st j na B nb
  | _=>pure false))
theorem WZ (i:Nat):mergeAt' i=(do
  let st <- get
  match (pendingOf st)[i]?,(pendingOf st)[i+1]? with
  | some (sa,na,power),some (sb,nb,_)=>do
   set (setPending st (((pendingOf st).setIfInBounds i (sa,na+nb,power)).eraseIdxIfInBounds (i+1)))
   let x <- elem' (arrOf st) sb
   match <- J2 false x (arrOf st) sa na 0 with
   | some k=>Zee st (sa+k) (na-k) sb nb
   | _=>pure false
  | _,_=>liftM (unsupported "internal:list.sort.pending")):=by
 refine Ji (m:=get) λst=>?_;cases (pendingOf st)[i]? with
 | none=>rfl
 | some p=>
  cases (pendingOf st)[i+1]? with
  | none=>rfl
  | some q=>
   obtain ⟨sa,na,B⟩:=p;obtain ⟨sb,nb,j⟩:=q
   rfl
theorem ZbU:∀(l:List Keyed)(arr:Array Keyed)(base n i:Nat),base+n+l.length<=arr.size ->
  (List.foldl (λa (x:Keyed×Nat)=>a.setIfInBounds (base+x.2) x.1) arr (l.zipIdx n))[i]?=if base+n<=i/\i<base+n+l.length then l[i-(base+n)]? else arr[i]?
 | [],arr,base,n,i,_=>by
  rw [if_neg (by simp)]
  rfl
 | x::l,arr,base,n,i,h=>by
  rw [List.zipIdx_cons,List.foldl_cons];rw [Ybq] at h;have ih:=ZbU l (arr.setIfInBounds (base+n) x) base (n+1) i (by rw [Array.size_setIfInBounds];lia);refine ih.trans ?_;rw [Ybq];by_cases h1:base+(n+1)<=i/\i<base+(n+1)+l.length
  ·rw [if_pos h1,if_pos (by lia)];rw [show i-(base+n)=(i-(base+(n+1)))+1 by lia,List.getElem?_cons_succ]
  ·rw [if_neg h1,Array.getElem?_setIfInBounds];by_cases h2:base+n=i
   ·subst h2;rw [if_pos rfl,if_pos (by lia),if_pos (by lia),Ych]
    rfl
   ·rw [if_neg h2,if_neg (by lia)]
theorem ZbV {arr:Array Keyed}{base:Nat}{l:List Keyed}(h:base+l.length<=arr.size)(i:Nat):(OG arr base l)[i]?=if base<=i/\i<base+l.length then l[i-base]? else arr[i]?:=ZbU l arr base 0 i h
theorem Za4 {arr:Array Keyed}{base:Nat}{l:List Keyed}(h:base+l.length<=arr.size)(p:l.Perm ((arr.toList.drop base).take l.length)):(OG arr base l).Perm arr:=by
 have e:(OG arr base l).toList=arr.toList.take base++l++arr.toList.drop (base+l.length):=by
  refine List.ext_getElem? λi=>?_;have j:arr.toList.length=arr.size:=Ybd;rw [Ybw,ZbV h];rw [Ybg,List.getElem?_append,Yba,j,Yds (by lia)];by_cases h1:i<base
  ·rw [if_neg (by lia),if_pos h1,Yec,if_pos h1,Ybw]
  ·rw [if_neg h1,List.getElem?_append];by_cases h2:i<base+l.length
   ·rw [if_pos (by lia),if_pos (by lia)]
   ·rw [if_neg (by lia),if_neg (by lia),Ydt,Ybw]
    congr 1
    lia
 have B:arr.toList=arr.toList.take base++(arr.toList.drop base).take l.length++arr.toList.drop (base+l.length):=by
  rw [Ybg,<-List.drop_drop,Ycy,Ycy]
 rw [Array.perm_iff_toList_perm,e];exact ((List.Perm.append_left _ p).append_right _).trans (.of_eq B.symm)
theorem Uj {arr:Array Keyed}{lo mid hi:Nat}(h1:Rng b arr lo mid)(h2:Rng b arr mid hi)(O:∀i j x y,lo<=i->i<mid->mid<=j->j<hi->arr[i]?=some x->arr[j]?=some y->kle b x y):Rng b arr lo hi:=λi j x y i1 i2 L B D=>by
 by_cases U:j<mid
 ·exact h1 i j x y i1 i2 U B D
 ·by_cases Y:i<mid
  ·exact O i j x y i1 Y (by lia) L B D
  ·exact h2 i j x y (by lia) i2 L B D
theorem ZbW {arr:Array Keyed}{lo hi:Nat}(B:hi<=arr.size)(h:Rng b arr lo hi):(arr.extract lo hi).toList.Pairwise (kle b):=by
 rw [Ydf];intro i j hi' D L;have sz:(arr.extract lo hi).toList.length=hi-lo:=by rw [Ybd,Yed,Yds B]
 refine h (lo+i) (lo+j) _ _ (by lia) (by lia) (by lia) ?_ ?_
 ·simp [Array.getElem_extract]
 ·simp [Array.getElem_extract]
noncomputable def MgQ (b:Keyed->Keyed->Bool)(st:SortSt)(lo hi:Nat)(Q:Bool->SortSt->Prop):Prop:=∀j,kindOf j=kindOf st->pendingOf j=pendingOf st->failedOf j=failedOf st->(arrOf j).Perm (arrOf st) ->
 (∀i,i<lo\/hi<=i->(arrOf j)[i]?=(arrOf st)[i]?)->Rng b (arrOf j) lo hi->Q true j
structure GalF (b:Keyed->Keyed->Bool)(arr:Array Keyed)(sa k sb nb hi:Nat):Prop where
 k0:sa<=k
 k1:k<sb
 n0:0<nb
 n1:sb+nb<=hi
 ra:Rng b arr sa sb
 rb:Rng b arr sb hi
 lowA:∀i x y,sa<=i->i<k->arr[i]?=some x->arr[sb]?=some y->kle b x y
 highA:∀i x y,k<=i->i<sb->arr[i]?=some x->arr[sb]?=some y->kle b y x
 lowB:∀i x y,sb<=i->i<sb+nb->arr[i]?=some x->arr[sb-1]?=some y->kle b x y
 highB:∀i x y,sb+nb<=i->i<hi->arr[i]?=some x->arr[sb-1]?=some y->kle b y x
theorem GalF.two {arr:Array Keyed}{sa k D nb hi:Nat}(F:GalF b arr sa k D nb hi)(hh:hi<=arr.size)(G:AllG good arr):Two b good (arr.extract k D) (arr.extract D (D+nb)):=by
 have h0:=F.k0;have h1:=F.k1;have h2:=F.n0;have h3:=F.n1;have B:∀{i j x},x∈(arr.extract i j).toList->good x:=λ{i j x} L=>by
  obtain ⟨q,_,_,e⟩:=WW L;rw [<-Ybw] at e;exact G x (Yat e)
 refine ⟨λx=>B,λx=>B,ZbW (by lia) λi j x y i1 i2 Z=>F.ra i j x y (by lia) i2 Z,ZbW (by lia) λi j x y i1 i2 Z=>F.rb i j x y i1 i2 (by lia),by rw [Yed];lia,by rw [Yed];lia,λx L y U=>?_,λz O y U=>?_⟩
 ·have L:arr[D]?=some x:=by
   rw [Array.getElem?_extract,if_pos (by lia)] at L;exact L
  obtain ⟨q,Y,q2,e⟩:=WW U;exact F.highA q y x Y q2 e L
 ·have O:arr[D-1]?=some z:=by
   rw [Yed,Array.getElem?_extract,if_pos (by lia)] at O;rw [<-O]
   congr 1
   lia
  obtain ⟨q,Y,q2,e⟩:=WW U;exact F.lowB q y z Y (by lia) e O
theorem GalF.fin (W:WO b){st:SortSt}{sa k B nb hi:Nat}{Q:Bool->SortSt->Prop}(F:GalF b (arrOf st) sa k B nb hi)(hh:hi<=(arrOf st).size)(q:MgQ b st sa hi Q)(hf:failedOf st=none){m:Array Keyed}{O:SortSt}(U:SameG st O)(hm:Jm b (((arrOf st).extract k B).toList++((arrOf st).extract B (B+nb)).toList) m.toList):wpS M A E s (Za3 k m) Q O:=by
 have h0:=F.k0;have h1:=F.k1;have h2:=F.n0;have h3:=F.n1;unfold Za3;refine Yac (Ycj (Yac (wpS_get (Yaf ?_))));show Q (failedOf O).isNone _;rw [U.2.2.2,hf];have hl:m.toList.length=B+nb-k:=by
  have:=hm.1.length_eq;rw [Yae,Ybd,Ybd,Ybd,Yed,Yed] at this;rw [Ybd]
  lia
 have hb:k+m.toList.length<=(arrOf st).size:=by lia
 have D:((arrOf st).toList.drop k).take m.toList.length=((arrOf st).extract k B).toList++((arrOf st).extract B (B+nb)).toList:=by
  have x1:((arrOf st).extract k (B+nb)).toList=((arrOf st).toList.drop k).take m.toList.length:=by
   rw [hl,Ydz,Yea]
  rw [<-x1,<-Ycm,Array.extract_append_extract]
  congr 2 <;> lia
 have at_:=ZbV (arr:=arrOf st) (base:=k) (l:=m.toList) hb;have mem:∀i x,k<=i->i<B+nb->(OG (arrOf st) k m.toList)[i]?=some x->(∃j,k<=j/\j<B/\(arrOf st)[j]?=some x)\/(∃j,B<=j/\j<B+nb/\(arrOf st)[j]?=some x):=λi x i1 i2 e=>by
  rw [at_,if_pos (by lia)] at e;have hx:=hm.1.mem_iff.mp (Yat e);rcases Yag.mp hx with hx | hx
  ·exact .inl (WW hx)
  ·exact .inr (WW hx)
 obtain ⟨b0,Y⟩:∃x,(arrOf st)[B]?=some x:=⟨_,Yee (by lia)⟩;obtain ⟨aL,aa⟩:∃x,(arrOf st)[B-1]?=some x:=⟨_,Yee (by lia)⟩;refine q _ U.1 U.2.2.1 ?_ ?_ (λi hi'=>?_) ?_
 ·show failedOf O=failedOf st;exact U.2.2.2
 ·show (OG (arrOf O) k m.toList).Perm (arrOf st);rw [U.2.1];exact Za4 hb (hm.1.trans (.of_eq D.symm))
 ·show (OG (arrOf O) k m.toList)[i]?=_;rw [U.2.1,at_,if_neg (by lia)]
 ·show Rng b (OG (arrOf O) k m.toList) sa hi;rw [U.2.1];have old:∀i,i<k\/B+nb<=i->(OG (arrOf st) k m.toList)[i]?=(arrOf st)[i]?:=λi hi'=>by rw [at_,if_neg (by lia)]
  refine Uj (mid:=k) (λi j x y i1 i2 Z D L=>?_) (Uj (mid:=B+nb) (λi j x y i1 i2 Z D L=>?_) (λi j x y i1 i2 Z D L=>?_) (λi j x y i1 i2 Z i4 D L=>?_)) (λi j x y i1 i2 Z i4 D L=>?_)
  ·rw [old i (by lia)] at D;rw [old j (by lia)] at L;exact F.ra i j x y i1 i2 (by lia) D L
  ·rw [at_,if_pos (by lia)] at D L;exact ZaV W hm.2 (by lia) D L
  ·rw [old i (by lia)] at D;rw [old j (by lia)] at L;exact F.rb i j x y (by lia) i2 Z D L
  ·rw [old j (by lia)] at L;rcases mem i x i1 i2 D with ⟨p,p1,p2,e⟩ | ⟨p,p1,p2,e⟩
   ·exact W.le_trans (F.ra p (B-1) x aL (by lia) (by lia) (by lia) e aa) (F.highB j y aL Z i4 L aa)
   ·exact F.rb p j x y p1 (by lia) i4 e L
  ·rw [old i (by lia)] at D;have xb:=F.lowA i x b0 i1 i2 D Y;by_cases cj:j<B+nb
   ·rcases mem j y Z cj L with ⟨p,p1,p2,e⟩ | ⟨p,p1,p2,e⟩
    ·exact F.ra i p x y i1 (by lia) p2 D e
    ·exact W.le_trans xb (F.rb B p b0 y (Yad _) p1 (by lia) Y e)
   ·rw [old j (by lia)] at L;exact W.le_trans xb (F.rb B j b0 y (Yad _) (by lia) i4 Y L)
theorem W1 (W:WO b)(L:O9 M A E s kd b good){st:SortSt}{i D na sb nb pw af:Nat}{Q:Bool->SortSt->Prop}(hs:kindOf st=kd)(hf:failedOf st=none)(G:AllG good (arrOf st))(p1:(pendingOf st)[i]?=some (D,na,pw))(p2:(pendingOf st)[i+1]?=some (sb,nb,af))(e:sb=D+na)(ag:0<na)(an:0<nb)(hh:sb+nb<=(arrOf st).size)(ra:Rng b (arrOf st) D sb)(rb:Rng b (arrOf st) sb (sb+nb))(q:MgQ b (setPending st (((pendingOf st).setIfInBounds i (D,na+nb,pw)).eraseIdxIfInBounds (i+1))) D (sb+nb) Q):wpS M A E s (mergeAt' i) Q st:=by
 subst e;rw [WZ];refine Yac (wpS_get ?_);rw [p1,p2];dsimp only;refine Yac ?_;show wpS M A E s (set _) _ st;refine (show wpS M A E s (modify λ_=>setPending st (((pendingOf st).setIfInBounds i (D,na+nb,pw)).eraseIdxIfInBounds (i+1))) _ st from Ycj ?_);generalize hst:setPending st (((pendingOf st).setIfInBounds i (D,na+nb,pw)).eraseIdxIfInBounds (i+1))=B at q;have ea:arrOf B=arrOf st:=by rw [<-hst]
 have ek:kindOf B=kd:=by rw [<-hst];exact hs
 have ef:failedOf B=none:=by rw [<-hst];exact hf
 rw [<-ea] at G hh ra rb ⊢;obtain ⟨b0,Y,ah⟩:=G.at (i:=D+na) (by lia);obtain ⟨aL,Z,ai⟩:=G.at (i:=D+na-1) (by lia);refine Yac (Gz Y ?_);have G1:Gal b good false b0 (arrOf B) D na:=Va W ah (λi hi=>G.at (by lia)) ra;refine Yac (Jt L G1 ek ag λk hk k1 k2=>?_);have ac:∀i x y,D<=i->i<D+k->(arrOf B)[i]?=some x->(arrOf B)[D+na]?=some y->kle b x y:=λi x y i1 i2 O U=>by
  rw [Y] at U;cases U;have:=k1 (i-D) (by lia);unfold byd at this;rw [Yda i1,O] at this;dsimp only at this;rw [if_neg Yar,Bool.not_eq_true'] at this;exact this
 have ad:∀i x y,D+k<=i->i<D+na->(arrOf B)[i]?=some x->(arrOf B)[D+na]?=some y->kle b y x:=λi x y i1 i2 O U=>by
  rw [Y] at U;cases U;have:=k2 (i-D) (by lia) (by lia);unfold byd at this;rw [Yda (by lia),O] at this;dsimp only at this;rw [if_neg Yar,Bool.not_eq_false'] at this;exact W.le_of_lt this
 dsimp only;unfold Zee;rw [show arrOf st=arrOf B from ea.symm];split
 ·rename_i e0;have e0:na-k=0:=eq_of_beq e0;refine Yaf (q B rfl rfl rfl (.refl _) (λ_ _=>rfl) (Uj ra rb λi j x y i1 i2 i3 i4 O U=>?_));exact W.le_trans (ac i x b0 i1 (by lia) O Y) (rb (D+na) j b0 y (Yad _) i3 i4 Y U)
 ·rename_i e0;have e0:na-k≠0:=λz=>e0 (Ybe.mpr z);refine Yac (Gz (show (arrOf B)[D+k+(na-k)-1]?=some aL by rw [<-Z];congr 1;lia) ?_);have G2:Gal b good true aL (arrOf B) (D+na) nb:=Va W ai (λi hi=>G.at (by lia)) rb;refine Yac (Jt L G2 ek (by lia) λaa ao aj ak=>?_);have ae:∀i x y,D+na<=i->i<D+na+aa->(arrOf B)[i]?=some x->(arrOf B)[D+na-1]?=some y->kle b x y:=λi x y i1 i2 O U=>by
   rw [Z] at U;cases U;have:=aj (i-(D+na)) (by lia);unfold byd at this;rw [Yda i1,O] at this;dsimp only at this;rw [if_pos rfl] at this;exact W.le_of_lt this
  have ab:∀i x y,D+na+aa<=i->i<D+na+nb->(arrOf B)[i]?=some x->(arrOf B)[D+na-1]?=some y->kle b y x:=λi x y i1 i2 O U=>by
   rw [Z] at U;cases U;have:=ak (i-(D+na)) (by lia) (by lia);unfold byd at this;rw [Yda (by lia),O] at this;dsimp only at this;rw [if_pos rfl] at this;exact this
  dsimp only;unfold Zed;split
  ·rename_i O;have O:aa=0:=eq_of_beq O;refine Yaf (q B rfl rfl rfl (.refl _) (λ_ _=>rfl) (Uj ra rb λi j x y i1 i2 i3 i4 f1 f2=>?_));exact W.le_trans (ra i (D+na-1) x aL i1 (by lia) (by lia) f1 Z) (ab j y aL (by lia) i4 f2 Z)
  ·rename_i O;have O:aa≠0:=λz=>O (Ybe.mpr z);have F:GalF b (arrOf B) D (D+k) (D+na) aa (D+na+nb):=⟨by lia,by lia,by lia,by lia,ra,rb,ac,ad,ae,ab⟩;have T:=F.two hh G;split
   ·refine Yac ?_;rw [show arrOf st=arrOf B from ea.symm];exact WU W L T ek λr am sg m=>F.fin W hh q ef sg m
   ·refine Yac ?_;rw [show arrOf st=arrOf B from ea.symm];exact WX W L T ek λr am sg m=>F.fin W hh q ef sg m
end
noncomputable def Runs (b:Keyed->Keyed->Bool)(arr:Array Keyed):Nat->List (Nat×Nat×Nat)->Nat->Prop
 | s,[],e=>s=e
 | s,x::rest,e=>x.1=s/\0<x.2.1/\Rng b arr s (s+x.2.1)/\Runs b arr (s+x.2.1) rest e
section
variable {b:Keyed->Keyed->Bool}{arr arr':Array Keyed}
theorem Runs.le:∀{p:List (Nat×Nat×Nat)}{s e:Nat},Runs b arr s p e->s+p.length<=e
 | [],s,e,h=>by have h:s=e:=h;simp [h]
 | x::p,s,e,h=>by
  have:=Runs.le h.2.2.2;have:=h.2.1;rw [Ybq]
  lia
theorem Runs.app:∀{u v:List (Nat×Nat×Nat)}{s e:Nat},Runs b arr s (u++v) e↔∃m,Runs b arr s u m/\Runs b arr m v e
 | [],v,s,e=>⟨λh=>⟨s,rfl,h⟩,λ⟨m,h1,h2⟩=>by have h1:s=m:=h1;rw [h1];exact h2⟩
 | x::u,v,s,e=>by
  constructor
  ·rintro ⟨h1,h2,h3,h4⟩;obtain ⟨m,k1,k2⟩:=Runs.app.mp h4;exact ⟨m,⟨h1,h2,h3,k1⟩,k2⟩
  ·rintro ⟨m,⟨h1,h2,h3,k1⟩,k2⟩;exact ⟨h1,h2,h3,Runs.app.mpr ⟨m,k1,k2⟩⟩
theorem Runs.keep:∀{p:List (Nat×Nat×Nat)}{s e:Nat},Runs b arr s p e->(∀i,s<=i->i<e->arr'[i]?=arr[i]?)->Runs b arr' s p e
 | [],_,_,h,_=>h
 | x::p,s,e,h,k=>by
  have:=Runs.le h.2.2.2;refine ⟨h.1,h.2.1,λi j u v i1 i2 L B D=>?_,Runs.keep h.2.2.2 λi i1 i2=>k i (by lia) i2⟩;rw [k i i1 (by lia)] at B;rw [k j (by lia) (by lia)] at D;exact h.2.2.1 i j u v i1 i2 L B D
theorem Runs.push {p:List (Nat×Nat×Nat)}{s lo n j:Nat}(h:Runs b arr s p lo)(B:0<n)(D:Rng b arr lo (lo+n)):Runs b arr s (p++[(lo,n,j)]) (lo+n):=
 Runs.app.mpr ⟨lo,h,rfl,B,D,rfl⟩
theorem Runs.two {p:List (Nat×Nat×Nat)}{i e B na O D nb L:Nat}(h:Runs b arr 0 p e)(h1:p[i]?=some (B,na,O))(h2:p[i+1]?=some (D,nb,L)) :
  D=B+na/\0<na/\0<nb/\D+nb<=e/\Rng b arr B D/\Rng b arr D (D+nb) /\
   ((∀i,i<B\/D+nb<=i->arr'[i]?=arr[i]?)->Rng b arr' B (D+nb)->Runs b arr' 0 ((p.set i (B,na+nb,O)).eraseIdx (i+1)) e):=by
 obtain ⟨l1,e1⟩:=Yaj.mp h1;obtain ⟨l2,e2⟩:=Yaj.mp h2;have d:p=p.take i++(B,na,O)::(D,nb,L)::p.drop (i+2):=by
  conv=>lhs;rw [<-Ycy i p,Yde l1,e1,Yde l2,e2]
 have Y:(p.take i).length=i:=by rw [Yba];lia
 generalize p.take i=u at d Y;generalize p.drop (i+2)=v at d;subst d;obtain ⟨m,k1,Z,k3,k4,k5,k6,k7,U⟩:=Runs.app.mp h;have Z:B=m:=Z;have k3:0<na:=k3;have k5:D=m+na:=k5;have k6:0<nb:=k6;have k4:Rng b arr m (m+na):=k4;have k7:Rng b arr (m+na) (m+na+nb):=k7;have U:Runs b arr (m+na+nb) v e:=U;subst Z k5;have k9:B+na+nb+v.length<=e:=U.le;refine ⟨rfl,k3,k6,by lia,k4,k7,λho hr=>?_⟩;have es:((u++(B,na,O)::(B+na,nb,L)::v).set i (B,na+nb,O)).eraseIdx (i+1)=u++(B,na+nb,O)::v:=by
  rw [List.set_append,if_neg (by lia),Y,Ych,List.set_cons_zero,List.eraseIdx_append_of_length_le (by lia),Y,Nat.add_sub_cancel_left]
  rfl
 rw [es];refine Runs.app.mpr ⟨B,k1.keep λj j1 j2=>ho j (.inl j2),rfl,by show 0<na+nb;lia,by show Rng b arr' B (B+(na+nb));rw [<-Nat.add_assoc];exact hr,?_⟩;show Runs b arr' (B+(na+nb)) v e;rw [<-Nat.add_assoc];exact U.keep λj j1 j2=>ho j (.inr j1)
theorem Runs.pow:∀{p:List (Nat×Nat×Nat)}{s e:Nat}(i:Nat)(f:Nat×Nat×Nat->Nat×Nat×Nat),(∀x,(f x).1=x.1/\(f x).2.1=x.2.1)->Runs b arr s p e->Runs b arr s (p.modify i f) e
 | [],_,_,i,f,_,h=>by cases i <;> exact h
 | x::p,s,e,0,f,hf,h=>by
  rw [List.modify_zero_cons];obtain ⟨q1,q2⟩:=hf x;refine ⟨q1.trans h.1,by rw [q2];exact h.2.1,by rw [q2];exact h.2.2.1,by rw [q2];exact h.2.2.2⟩
 | x::p,s,e,i+1,f,hf,h=>by
  rw [List.modify_succ_cons];exact ⟨h.1,h.2.1,h.2.2.1,Runs.pow i f hf h.2.2.2⟩
theorem Runs.one (W:WO b){p:List (Nat×Nat×Nat)}{e:Nat}(h:Runs b arr 0 p e)(B:p.length<=1):Rng b arr 0 e:=by
 match p,h,B with
 | [],h,_=>
  have h:0=e:=h;subst h;intro i j x y i1 i2 L
  lia
 | [x],h,_=>
  have D:0+x.2.1=e:=h.2.2.2;rw [<-D];exact h.2.2.1
end
section
variable {M:Model}{A:Around}{E:EX}{s:Shared}{kd:SortKind}{b:Keyed->Keyed->Bool}{good:Keyed->Prop}
structure SI (b:Keyed->Keyed->Bool)(kd:SortKind)(st0 st:SortSt)(lo:Nat):Prop where
 ki:kindOf st=kd
 fa:failedOf st=none
 pm:(arrOf st).Perm (arrOf st0)
 ru:Runs b (arrOf st) 0 (pendingOf st).toList lo
theorem SI.size {j st:SortSt}{lo:Nat}(h:SI b kd j st lo):(arrOf st).size=(arrOf j).size:=h.pm.size_eq
theorem SI.merge (W:WO b)(L:O9 M A E s kd b good){D st:SortSt}{lo i:Nat}{Q:Bool->SortSt->Prop}(G:AllG good (arrOf D))(h:SI b kd D st lo)(aa:lo<=(arrOf D).size)(hi:i+1<(pendingOf st).size)(q:∀B,SI b kd D B lo->(pendingOf B).size+1=(pendingOf st).size->(∀i,lo<=i->(arrOf B)[i]?=(arrOf st)[i]?)->Q true B):wpS M A E s (mergeAt' i) Q st:=by
 obtain ⟨⟨O,na,U⟩,Z⟩:∃x,(pendingOf st)[i]?=some x:=⟨_,Yee (by lia)⟩;obtain ⟨⟨sb,nb,ab⟩,p2⟩:∃x,(pendingOf st)[i+1]?=some x:=⟨_,Yee hi⟩;have two:=λarr'=>Runs.two (arr':=arr') h.ru (by rw [Ybw];exact Z) (by rw [Ybw];exact p2);obtain ⟨t1,t2,t3,t4,t5,t6,_⟩:=two (arrOf st);have ac:=h.size;refine W1 W L h.ki h.fa (G.perm h.pm) Z p2 t1 t2 t3 (by lia) t5 t6 λB k1 k2 k3 k4 Y k6=>?_;have e0:arrOf (setPending st (((pendingOf st).setIfInBounds i (O,na+nb,U)).eraseIdxIfInBounds (i+1)))=arrOf st:=rfl;rw [e0] at k4 Y;have e1:pendingOf B=((pendingOf st).setIfInBounds i (O,na+nb,U)).eraseIdxIfInBounds (i+1):=k2;have e2:(pendingOf B).toList=((pendingOf st).toList.set i (O,na+nb,U)).eraseIdx (i+1):=by
  rw [e1,Array.toList_eraseIdxIfInBounds,Array.toList_setIfInBounds]
 refine q B ⟨k1.trans h.ki,k3.trans h.fa,k4.trans h.pm,?_⟩ ?_ λj hj=>Y j (.inr (by lia))
 ·rw [e2];exact (two (arrOf B)).2.2.2.2.2.2 Y k6
 ·have:=Ybh List.length e2;rw [Ybd,List.length_eraseIdx,List.length_set,Ybd,if_pos hi] at this
  lia
theorem JV (W:WO b)(L:O9 M A E s kd b good){st:SortSt}{Q:Unit->SortSt->Prop}(hs:kindOf st=kd)(hf:failedOf st=none)(hp:pendingOf st=#[])(G:AllG good (arrOf st))(q:∀ad,(arrOf ad).Perm (arrOf st)->failedOf ad=none->Rng b (arrOf ad) 0 (arrOf st).size->Q () ad):wpS M A E s sortRuns' Q st:=by
 rw [sortRuns'_eq];refine Yac (wpS_get ?_);dsimp only;generalize hsz:(arrOf st).size=size at q;generalize minRun' size size 0=Y;refine Yac (wpS_mono (Q:=λr aa=>r=(none,size)/\SI b kd st aa size) (Ybz (λk r aa=>∃lo,r=(none,lo)/\k<=lo/\lo<=size/\SI b kd st aa lo) ?_ ?_ ⟨0,rfl,Yad _,Yao _,hs,hf,.refl _,by rw [hp];rfl⟩) ?_)
 ·rintro k r aa _ hk ⟨lo,rfl,k1,k2,I⟩;dsimp only;split
  ·have:lo=size:=by lia
   subst this;exact Yaf ⟨rfl,I⟩
  ·rename_i ak;have s1:(arrOf aa).size=size:=I.size.trans hsz;refine Yac (VD W L I.ki (G.perm I.pm) (by lia) (by lia) λn O ah n1 n2 n3=>?_);have Z:SI b kd st O lo:=⟨ah.kd.trans I.ki,ah.fa.trans I.fa,ah.pm.trans I.pm,by rw [ah.pe];exact I.ru.keep λi _ hi=>ah.lw i hi⟩;dsimp only;have U:∀D n,SI b kd st D lo->0<n->Rng b (arrOf D) lo (lo+n)->SI b kd st (setPending D ((pendingOf D).push (lo,n,0))) (lo+n):=by
    intro D n I3 n1 n3;refine ⟨I3.ki,I3.fa,I3.pm,?_⟩;show Runs b (arrOf D) 0 ((pendingOf D).push (lo,n,0)).toList (lo+n);rw [Yeb];exact I3.ru.push n1 n3
   have pow:∀D pw,SI b kd st D lo->SI b kd st (setPending D ((pendingOf D).modify ((pendingOf D).size-1) λx=>(x.1,x.2.1,pw))) lo:=by
    intro D pw I3;refine ⟨I3.ki,I3.fa,I3.pm,?_⟩;show Runs b (arrOf D) 0 ((pendingOf D).modify ((pendingOf D).size-1) λx=>(x.1,x.2.1,pw)).toList lo;rw [Array.toList_modify];exact I3.ru.pow _ _ λx=>⟨rfl,rfl⟩
   split
   ·rename_i ae;refine Yac (wpS_lift (wpAny_rule ⟨rfl,?_⟩));have s2:(arrOf O).size=size:=Z.size.trans hsz;refine Yac (Yp W L Z.ki (G.perm Z.pm) (by lia) n1 (by lia) n3 λD ac r3=>?_);have I3:SI b kd st D lo:=⟨ac.kd.trans Z.ki,ac.fa.trans Z.fa,ac.pm.trans Z.pm,by rw [ac.pe];exact Z.ru.keep λi _ hi=>ac.lw i hi⟩;rw [show (!true)=false from rfl,if_neg Yar];have hN:1<=min (size-lo) Y/\lo+min (size-lo) Y<=size:=by lia
    clear ae;generalize min (size-lo) Y=N at r3 hN;refine Yac (wpS_get ?_);cases hbk:(pendingOf D).back? with
    | none=>exact Yac (Ycj (Yaf ⟨_,rfl,by lia,by lia,U D _ I3 (by lia) r3⟩))
    | some x=>
     obtain ⟨s1,n1,af⟩:=x;dsimp only;refine Yac (wpS_mono (Q:=λr B=>r=(none,())/\SI b kd st B lo/\∀i,lo<=i->(arrOf B)[i]?=(arrOf D)[i]?) (Ybz (λ_ r B=>r=(none,())/\SI b kd st B lo/\∀i,lo<=i->(arrOf B)[i]?=(arrOf D)[i]?) ?_ (λ_ _ z=>z) ⟨rfl,I3,λ_ _=>rfl⟩) ?_)
     ·rintro k' r B _ ag ⟨rfl,I4,same⟩;refine Yac (wpS_get ?_);by_cases hz:(pendingOf B).size > 1
      ·obtain ⟨⟨z1,z2,z3⟩,pz⟩:∃x,(pendingOf B)[(pendingOf B).size-2]?=some x:=⟨_,Yee (by lia)⟩;rw [if_pos hz,pz];dsimp only;split
       ·exact Yaf ⟨rfl,I4,same⟩
       ·refine Yac (I4.merge W L G (by lia) (by lia) λai I5 _ ab=>?_);rw [show (!true)=false from rfl,if_neg Yar];exact Yaf ⟨rfl,I5,λi hi=>(ab i hi).trans (same i hi)⟩
      ·rw [if_neg hz];exact Yaf ⟨rfl,I4,same⟩
     ·rintro r B ⟨rfl,I4,same⟩;dsimp only;refine Yac (Ycj (Yac (Ycj (Yaf ⟨_,rfl,by lia,by lia,?_⟩))));refine U _ _ (pow B _ I4) (by lia) λi j x y i1 i2 i3 e1 e2=>?_;have e1:(arrOf B)[i]?=some x:=e1;have e2:(arrOf B)[j]?=some y:=e2;rw [same i i1] at e1;rw [same j (by lia)] at e2;exact r3 i j x y i1 i2 i3 e1 e2
   ·have hN:1<=n/\lo+n<=size:=by lia
    refine Yac (wpS_get ?_);cases hbk:(pendingOf O).back? with
    | none=>exact Yac (Ycj (Yaf ⟨_,rfl,by lia,by lia,U O _ Z (by lia) n3⟩))
    | some x=>
     obtain ⟨s1,n1,af⟩:=x;dsimp only;refine Yac (wpS_mono (Q:=λr B=>r=(none,())/\SI b kd st B lo/\∀i,lo<=i->(arrOf B)[i]?=(arrOf O)[i]?) (Ybz (λ_ r B=>r=(none,())/\SI b kd st B lo/\∀i,lo<=i->(arrOf B)[i]?=(arrOf O)[i]?) ?_ (λ_ _ z=>z) ⟨rfl,Z,λ_ _=>rfl⟩) ?_)
     ·rintro k' r B _ ag ⟨rfl,I4,same⟩;refine Yac (wpS_get ?_);by_cases hz:(pendingOf B).size > 1
      ·obtain ⟨⟨z1,z2,z3⟩,pz⟩:∃x,(pendingOf B)[(pendingOf B).size-2]?=some x:=⟨_,Yee (by lia)⟩;rw [if_pos hz,pz];dsimp only;split
       ·exact Yaf ⟨rfl,I4,same⟩
       ·refine Yac (I4.merge W L G (by lia) (by lia) λai I5 _ ab=>?_);rw [show (!true)=false from rfl,if_neg Yar];exact Yaf ⟨rfl,I5,λi hi=>(ab i hi).trans (same i hi)⟩
      ·rw [if_neg hz];exact Yaf ⟨rfl,I4,same⟩
     ·rintro r B ⟨rfl,I4,same⟩;dsimp only;refine Yac (Ycj (Yac (Ycj (Yaf ⟨_,rfl,by lia,by lia,?_⟩))));refine U _ _ (pow B _ I4) (by lia) λi j x y i1 i2 i3 e1 e2=>?_;have e1:(arrOf B)[i]?=some x:=e1;have e2:(arrOf B)[j]?=some y:=e2;rw [same i i1] at e1;rw [same j (by lia)] at e2;exact n3 i j x y i1 i2 i3 e1 e2
 ·rintro r aa ⟨lo,rfl,k1,k2,I⟩;have:lo=size:=by simp at k1;lia
  subst this;exact ⟨rfl,I⟩
 ·rintro r aa ⟨rfl,I⟩;dsimp only;refine Yac (wpS_mono (Q:=λr O=>r=(none,())/\SI b kd st O size/\(pendingOf O).size<=1) (Ybz (λk r O=>r=(none,())/\SI b kd st O size/\(pendingOf O).size+k<=size+1) ?_ ?_ ⟨rfl,I,?_⟩) ?_)
  ·rintro k r O _ hk ⟨rfl,Z,hz⟩;refine Yac (wpS_get ?_);split
   ·rename_i h1;exact Yaf ⟨rfl,Z,h1⟩
   ·rename_i h1;generalize hi:(if Option.any _ _=true then (pendingOf O).size-2-1 else (pendingOf O).size-2)=i;have aj:i+1<(pendingOf O).size:=by
     rw [<-hi];have key:∀(c:Prop)[Decidable c](m:Nat),(if c then m-1 else m)<=m:=λc _ m=>by split <;> lia
     refine Nat.lt_of_le_of_lt (Nat.succ_le_succ (key _ ((pendingOf O).size-2))) ?_
     lia
    refine Yac (Z.merge W L G (by lia) aj λD I3 h3 _=>?_);rw [show (!true)=false from rfl,if_neg Yar];exact Yaf ⟨rfl,I3,by lia⟩
  ·rintro r O ⟨rfl,Z,hz⟩;exact ⟨rfl,Z,by simp at hz;lia⟩
  ·have:=I.ru.le;rw [Ybd] at this
   lia
  ·rintro r O ⟨rfl,Z,h1⟩;refine Yaf (q O Z.pm Z.fa ?_);exact Z.ru.one W (by rw [Ybd];exact h1)
end
section
variable {prog:Program}{w:World}{A:Around}{E:EX}{s:Shared}{kd:SortKind}{b:Keyed->Keyed->Bool}{good:Keyed->Prop}
noncomputable def OH (s:Shared)(a:Addr)(vs:List Value):Shared:={ s with heap:=((s.heap.update a (Obj.mapSeq λ_=>#[])).push (seqObj "tuple" vs.toArray 0)).push (seqObj "list" #[] 0) }
theorem ZG (W:WO b){arr:Array Keyed}(h:arr.size<2):Rng b arr 0 arr.size:=λi j x y i1 i2 L D B=>by
 have:i=j:=by lia
 subst this;rw [D] at B;cases B;exact W.le_refl _
theorem VE {a:Addr}{vs:List Value}{n:Nat}{P:PySem.Fin->Shared->Prop}(W:WO b)(ha:s.heap.get? a=some (seqObj "list" vs.toArray n))(hz:vs.length<=sizeLine)(hg:∀v∈vs,good (v,v))(hk:2<=vs.length->∀{E':EX}{R:SortKind->Shared->Prop},R kd (OH s a vs)->wpAny (model prog w) A (keyKind' vs.toArray) R E' (OH s a vs))(L:O9 (model prog w) A E (OH s a vs) kd b good)(q:∀out:Array Keyed,out.Perm (pairsOf vs)->Rng b out 0 vs.length->P (.done (.ret .none)) { s with heap:=sortedHeap s.heap a vs (out.map (·.2)) }) :
  wpAny (model prog w) A (Builtin.«list.sort» { pos:=[.ref a] }) P E s:=by
 rw [list_sort_plain];refine Yaa (Yco ha rfl ?_);refine Yaa (Ydw ha rfl ?_ (by rw [Yas];exact hz) (Yao _));have B:=get?_update_seq ha (λ_=>#[]);generalize (if ((#[]:Array Value).size == vs.toArray.size)=true then n else n+1)=n1 at B;refine Yaa (seqEpoch_at B rfl ?_);refine Yaa (wpAny_newTuple ?_ hz);refine Yaa (wpAny_newList ?_ (Yao _));refine Ydc ?_;have j:(OH s a vs).heap.get? a=some (seqObj "list" #[] n1):=Yan _ (Yan _ B);show wpAny (model prog w) A _ P E (OH s a vs);have O:(pairsOf vs).size=vs.length:=pairsOf_size vs;dsimp only [Yas];split
 ·rename_i h2;have h2:vs.length<2:=by simpa using h2
  refine Yaa (Yah ?_);refine Yaa (Ybp (Q:=λr s'=>s'=OH s a vs/\failedOf r.2=none/\(arrOf r.2).Perm (pairsOf vs)/\Rng b (arrOf r.2) 0 vs.length) (Yah ⟨rfl,rfl,.refl _,?_⟩) ?_ (λ_ _ z=>z))
  ·have:=ZG W (arr:=pairsOf vs) (by lia);rw [O] at this;exact this
  ·rintro ⟨_,st⟩ s' ⟨rfl,D,U,Z⟩;dsimp only;refine Yaa (seqEpoch_at j rfl ?_);have D:failedOf st=none:=D;have hl:((arrOf st).map (·.2)).size<=sizeLine+1:=by
    have this:(arrOf st).size=(pairsOf vs).size:=U.size_eq;rw [pairsOf_size] at this;rw [Array.size_map]
    lia
   refine Yaa (Ydw j rfl ?_ (Yao _) hl);have:(n1 != n1)=false:=by simp
   rw [this,D];exact Yah (q (arrOf st) U Z)
 ·rename_i h2;have h2:¬ vs.length<2:=by simpa using h2
  refine Yaa (hk (by lia) ?_);refine Yaa (Ybp (Q:=λr s'=>s'=OH s a vs/\failedOf r.2=none/\(arrOf r.2).Perm (pairsOf vs)/\Rng b (arrOf r.2) 0 vs.length) ?_ ?_ (λ_ _ z=>z))
  ·refine JV (st:=SortSt.mk' kd (vs.toArray.zip vs.toArray) #[] 7 none) (Q:=λ_ st=>failedOf st=none/\(arrOf st).Perm (pairsOf vs)/\Rng b (arrOf st) 0 vs.length) W L rfl rfl rfl (λx Y=>?_) λaa k1 k2 k3=>⟨k2,k1,?_⟩
   ·have Y:x∈(pairsOf vs).toList:=Y;rw [pairsOf_toList] at Y;obtain ⟨e,hm⟩:=mem_zip_self Y;obtain ⟨x1,x2⟩:=x;have e:x1=x2:=e;subst e;exact hg _ hm
   ·have e:(arrOf (SortSt.mk' kd (vs.toArray.zip vs.toArray) #[] 7 none)).size=vs.length:=O;rw [e] at k3;exact k3
  ·rintro ⟨_,st⟩ s' ⟨rfl,D,U,Z⟩;dsimp only;refine Yaa (seqEpoch_at j rfl ?_);have D:failedOf st=none:=D;have hl:((arrOf st).map (·.2)).size<=sizeLine+1:=by
    have this:(arrOf st).size=(pairsOf vs).size:=U.size_eq;rw [pairsOf_size] at this;rw [Array.size_map]
    lia
   refine Yaa (Ydw j rfl ?_ (Yao _) hl);have:(n1 != n1)=false:=by simp
   rw [this,D];exact Yah (q (arrOf st) U Z)
theorem JN {h:Heap}{a c:Addr}{o:Obj}{f:Obj->Obj}(j:c≠a)(e:h.get? c=some o):(h.update a f).get? c=some o:=(Heap.get?_update_ne h c a f j).trans e
theorem Vb {l:Addr}{vs:List Value}{Q:EX}(W:WO b)(D:s.heap.IsList l vs.toArray)(hz:vs.length<=sizeLine)(O:∀v∈vs,good (v,v))(U:∀h':Heap,(∀c o,s.heap.get? c=some o->h'.get? c=some o)->2<=vs.length->∀{Y:EX}{R:SortKind->Shared->Prop},R kd { s with heap:=h' }->wpAny (model prog w) A.in1.in1 (keyKind' vs.toArray) R Y { s with heap:=h' })(L:∀h':Heap,(∀c o,s.heap.get? c=some o->h'.get? c=some o)->O9 (model prog w) A.in1.in1 E { s with heap:=h' } kd b good)(q:∀out:Array Keyed,out.Perm (pairsOf vs)->Rng b out 0 vs.length->Q (.ref (s.heap.objs.size+1)) { s with heap:=sortedAll s.heap vs (out.map (·.2)) }) :
  wpAny (model prog w) A (call (.builtin "sorted") [.ref l]) Q E s:=by
 refine Calls.call_function_entry kind_sorted plain_sorted entry_sorted (args_sorted1 _) ?_;unfold Builtin.sorted;refine Yaa (Yah ?_);refine Yaa (collect_list D ?_ hz);refine Yaa (wpAny_newList ?_ hz);refine Yaa (Ydc ?_);generalize hh1:(s.heap.push (seqObj "list" #[] 0)).update s.heap.objs.size (Obj.mapSeq λx=>x++vs.toArray)=h1;have j:h1.objs.size=s.heap.objs.size+1:=by rw [<-hh1,Heap.size_update,Ycx]
 have Z:∀c o,s.heap.get? c=some o->h1.get? c=some o:=λc o e=>by
  rw [<-hh1];exact JN (Yay (Yal e)) (Yan _ e)
 generalize hh2:h1.push { cls:=Value.type "list", data:=Data.seq vs.toArray }=h2;have ha:h2.get? h1.objs.size=some (seqObj "list" vs.toArray 0):=by rw [<-hh2];exact Ybj _ rfl
 have k2:∀c o,s.heap.get? c=some o->h2.get? c=some o:=λc o e=>by
  rw [<-hh2];exact Yan _ (Z c o e)
 have B:∀c o,s.heap.get? c=some o->(OH { s with heap:=h2 } h1.objs.size vs).heap.get? c=some o:=λc o e=>by
  unfold OH;refine Yan _ (Yan _ (JN ?_ (k2 c o e)));have:=Yal e;rw [j];exact Yay (Nat.lt_succ_of_lt this)
 refine wpAny_call_entry (s:={ s with heap:=h2 }) slot_list_sort ⟨_,ha,rfl⟩ entry_list_sort ?_ (args_list_sort _);refine VE (s:={ s with heap:=h2 }) W ha hz O (λh=>U _ B h) (L _ B) λout p r=>⟨.none,rfl,Yah ⟨_,rfl,?_⟩⟩;have e:({ s with heap:=sortedHeap h2 h1.objs.size vs (out.map (·.2)) }:Shared)={ s with heap:=sortedAll s.heap vs (out.map (·.2)) }:=by
  unfold sortedAll;rw [j,<-hh2,<-hh1]
 show Q (.ref h1.objs.size) { s with heap:=sortedHeap h2 h1.objs.size vs (out.map (·.2)) };rw [e,j];exact q out p r
noncomputable def Zhq:Keyed->Keyed->Bool:=λx y=>match x.1,y.1 with
 | .int i _,.int j _=>decide (i<j)
 | _,_=>false
noncomputable def UP:Value->Int
 | .int i _=>i
 | _=>0
end
section
variable {X:Cx}(K:W.Frag)
noncomputable abbrev Tri:=Int×Int×Int
inductive Trs (H:Hp):List V->List Tri->Prop
 | nil:Trs H [] []
 | cons {p:Addr} {a b c:Int} {xs:List V} {rs:List Tri}:H p=some (.tup [.int a,.int b,.int c])->Trs H xs rs->Trs H (.ref p::xs) ((a,b,c)::rs)
theorem Trs.len {H:Hp}{xs:List V}{rs:List Tri}(h:Trs H xs rs):xs.length=rs.length:=by
 induction h with
 | nil=>rfl
 | cons _ _ ih=>rw [Ybq,Ybq,ih]
theorem Trs.snoc {H:Hp}{xs:List V}{rs:List Tri}(h:Trs H xs rs){p:Addr}{a b c:Int}(e:H p=some (.tup [.int a,.int b,.int c])):Trs H (xs++[.ref p]) (rs++[(a,b,c)]):=by
 induction h with
 | nil=>exact .cons e .nil
 | cons e1 _ ih=>exact .cons e1 ih
theorem Trs.keep {H H':Hp}{xs:List V}{rs:List Tri}(h:Trs H xs rs)(k:∀p ys,H p=some (.tup ys)->H' p=some (.tup ys)):Trs H' xs rs:=by
 induction h with
 | nil=>exact .nil
 | cons e1 _ ih=>exact .cons (k _ _ e1) ih
theorem Trs.same {H H':Hp}{xs:List V}{rs:List Tri}(h:Trs H xs rs)(k:Same H H'):Trs H' xs rs:=h.keep λp ys e=>k p _ e
theorem Trs.get {H:Hp}{xs:List V}{rs:List Tri}(g:Trs H xs rs){i:Nat}{x:V}(h:xs[i]?=some x):∃t r,x=.ref t/\H t=some (.tup [.int r.1,.int r.2.1,.int r.2.2])/\rs[i]?=some r:=by
 induction g generalizing i with
 | nil=>simp at h
 | cons e _ ih=>cases i with
  | zero=>
   simp at h;subst h;exact ⟨_,(_,_,_),rfl,e,rfl⟩
  | succ i=>
   rw [List.getElem?_cons_succ] at h ⊢;exact ih h
theorem Trs.at {H:Hp}{xs:List V}{rs:List Tri}(h:Trs H xs rs){i:Nat}{r:Tri}(e:rs[i]?=some r):∃t,xs[i]?=some (.ref t)/\H t=some (.tup [.int r.1,.int r.2.1,.int r.2.2]):=by
 have hi:i<xs.length:=by rw [h.len];exact (Yaj.mp e).1
 obtain ⟨t,r',B,D,j⟩:=h.get (Yaz hi);rw [e] at j;cases j;exact ⟨t,by rw [Yaz hi,B],D⟩
noncomputable def trD (r:Tri):PyData:=.tuple [.int r.1,.int r.2.1,.int r.2.2]
theorem Trs.dats {K:W.Frag}{H:Hp}{xs:List V}{rs:List Tri}(h:Trs H xs rs):DatVs K H xs (rs.map trD):=by
 induction h with
 | nil=>exact .nil
 | cons e _ ih=>exact .cons (.tup (SqT.of e) (.cons (.int _) (.cons (.int _) (.cons (.int _) .nil)))) ih
theorem ZcM (r q:Tri):PyData.eqv (trD r) (trD q)=decide (r=q):=by
 obtain ⟨a,b,c⟩:=r;obtain ⟨d,e,f⟩:=q;simp only [trD,PyData.eqv,PyData.eqvAll,Prod.mk.injEq];by_cases h1:a=d <;> by_cases h2:b=e <;> by_cases j:c=f <;> simp [h1,h2,j]
theorem W2:∀rs qs:List Tri,PyData.eqvAll (rs.map trD) (qs.map trD)=decide (rs=qs)
 | [],[]=>by simp [PyData.eqvAll]
 | [],_::_=>by simp [PyData.eqvAll]
 | _::_,[]=>by simp [PyData.eqvAll]
 | r::rs,q::qs=>by
  rw [Yaq,Yaq];simp only [PyData.eqvAll,ZcM,W2 rs qs];by_cases h1:r=q <;> by_cases h2:rs=qs <;> simp [h1,h2]
theorem VF:∀rs:List Tri,PyData.canLayAll0 (rs.map trD)=true
 | []=>by simp [PyData.canLayAll0]
 | r::rs=>by
  rw [Yaq];simp [PyData.canLayAll0,trD,PyData.canLay0,VF rs]
theorem OI:∀rs:List Tri,PyData.depthAll (rs.map trD)<=2
 | []=>by simp [PyData.depthAll]
 | r::rs=>by
  have ih:=OI rs;rw [Yaq];simp only [PyData.depthAll,trD,PyData.depth]
  lia
theorem Vc (n:Int)(rs:List Tri):SeqAt.shaped (.tuple [.int n,.list (rs.map trD)])=true:=by
 unfold SeqAt.shaped;rw [Ycc];have:=OI rs;refine ⟨by simp only [PyData.canLay0,PyData.canLayAll0,VF rs,Bool.and_self],Ybm ?_⟩;simp only [PyData.depth,PyData.depthAll]
 lia
theorem W3 (n m:Int)(rs j:List Tri):PyData.eqv (.tuple [.int n,.list (rs.map trD)]) (.tuple [.int m,.list (j.map trD)])=(decide (n=m) && decide (rs=j)):=by
 simp only [PyData.eqv,PyData.eqvAll,W2,Bool.and_true];by_cases h:n=m <;> simp [h]
theorem Zfx (h:X.K=K:=by rfl):SlR X (ZgH K):=h▸ZdY
end
noncomputable def Nd (ts:List Tri)(c:Int)(r:Tri):Prop:=2<=c/\ts[(c-2).toNat]?=some r
noncomputable def At (ts:List Tri)(c lo:Int):Prop:=c=0\/c=1\/∃r,Nd ts c r/\lo<r.1
noncomputable def TabOk (ts:List Tri):Prop:=∀(i:Nat)(r:Tri),ts[i]?=some r->(0<=r.1/\r.1<30)/\At ts r.2.1 r.1/\At ts r.2.2 r.1
theorem Nd.one {ts:List Tri}{c:Int}{r r':Tri}(h:Nd ts c r)(h':Nd ts c r'):r=r':=by
 have:=h.2.symm.trans h'.2;cases this
 rfl
theorem Nd.lt {ts:List Tri}{c:Int}{r:Tri}(h:Nd ts c r):c<ts.length+2:=by
 have:=(Yaj.mp h.2).1;have:=h.1
 lia
theorem Nd.app {ts:List Tri}{c:Int}{r:Tri}(h:Nd ts c r)(us:List Tri):Nd (ts++us) c r:=
 ⟨h.1,by rw [Ybl (Yaj.mp h.2).1];exact h.2⟩
theorem Nd.last (ts:List Tri)(r:Tri):Nd (ts++[r]) (ts.length+2) r:=by
 refine ⟨by lia,?_⟩;have e:((ts.length:Int)+2-2).toNat=ts.length:=by lia
 rw [e,Ybt (Yad _),Ych]
 rfl
theorem At.app {ts:List Tri}{c lo:Int}(h:At ts c lo)(us:List Tri):At (ts++us) c lo:=by
 rcases h with h | h | ⟨r,h,g⟩
 ·exact .inl h
 ·exact .inr (.inl h)
 ·exact .inr (.inr ⟨r,h.app us,g⟩)
theorem At.mono {ts:List Tri}{c lo lo':Int}(h:At ts c lo)(j:lo'<=lo):At ts c lo':=by
 rcases h with h | h | ⟨r,h,g⟩
 ·exact .inl h
 ·exact .inr (.inl h)
 ·exact .inr (.inr ⟨r,h,by lia⟩)
theorem At.lt {ts:List Tri}{c lo:Int}(h:At ts c lo):0<=c/\c<ts.length+2:=by
 rcases h with rfl | rfl | ⟨r,h,g⟩
 ·lia
 ·lia
 ·have:=h.lt;have:=h.1
  lia
theorem At.nd {ts:List Tri}{c lo:Int}(h:At ts c lo)(j:1<c):∃r,Nd ts c r/\lo<r.1:=by
 rcases h with h | h | h
 ·lia
 ·lia
 ·exact h
theorem TabOk.nil:TabOk []:=λi r h=>by simp at h
theorem TabOk.snoc {ts:List Tri}{r:Tri}(h:TabOk ts)(h0:0<=r.1/\r.1<30)(h1:At ts r.2.1 r.1)(h2:At ts r.2.2 r.1):TabOk (ts++[r]):=by
 intro i q e;by_cases hi:i<ts.length
 ·rw [Ybl hi] at e;obtain ⟨a,b,c⟩:=h i q e;exact ⟨a,b.app _,c.app _⟩
 ·rw [Ybt (by lia)] at e;have j:i-ts.length=0:=by
   have:=(Yaj.mp e).1;rw [Yap] at this
   lia
  rw [j] at e;cases e;exact ⟨h0,h1.app _,h2.app _⟩
theorem TabOk.nd {ts:List Tri}{c:Int}{r:Tri}(h:TabOk ts)(n:Nd ts c r):(0<=r.1/\r.1<30)/\At ts r.2.1 r.1/\At ts r.2.2 r.1:=h _ r n.2
inductive Has (ts:List Tri):Int->List Int->Prop
 | one:Has ts 1 []
 | low {c:Int} {r:Tri} {rs:List Int}:Nd ts c r->Has ts r.2.1 rs->Has ts c rs
 | high {c:Int} {r:Tri} {rs:List Int}:Nd ts c r->Has ts r.2.2 rs->Has ts c (r.1::rs)
theorem Has.zero {ts:List Tri}{rs:List Int}:¬ Has ts 0 rs:=by
 intro h;cases h with
 | low n _=>exact absurd n.1 (by decide)
 | high n _=>exact absurd n.1 (by decide)
theorem Has.at1 {ts:List Tri}{rs:List Int}:Has ts 1 rs↔rs=[]:=by
 constructor
 ·intro h;cases h with
  | one=>rfl
  | low n _=>exact absurd n.1 (by decide)
  | high n _=>exact absurd n.1 (by decide)
 ·rintro rfl;exact .one
theorem Has.small {ts:List Tri}{c:Int}{rs:List Int}(h0:0<=c)(h1:¬ 1<c):Has ts c rs↔(c=1/\rs=[]):=by
 have j:c=0\/c=1:=by lia
 rcases j with rfl | rfl
 ·exact ⟨λh=>absurd h Has.zero,λh=>absurd h.1 (by decide)⟩
 ·rw [Has.at1];exact ⟨λh=>⟨rfl,h⟩,λh=>h.2⟩
theorem Has.nil {ts:List Tri}{c:Int}{r:Tri}(n:Nd ts c r):Has ts c []↔Has ts r.2.1 []:=by
 constructor
 ·intro h;cases h with
  | one=>exact absurd n.1 (by decide)
  | low n' h'=>rw [n.one n'];exact h'
 ·exact .low n
theorem Has.cons {ts:List Tri}{c:Int}{r:Tri}{x:Int}{rs:List Int}(n:Nd ts c r):Has ts c (x::rs)↔(Has ts r.2.1 (x::rs)\/(x=r.1/\Has ts r.2.2 rs)):=by
 constructor
 ·intro h;cases h with
  | low n' h'=>rw [n.one n'];exact .inl h'
  | high n' h'=>rw [n.one n'];exact .inr ⟨rfl,h'⟩
 ·rintro (h | ⟨rfl,h⟩)
  ·exact .low n h
  ·exact .high n h
theorem Has.gt {ts:List Tri}(T:TabOk ts){c:Int}{rs:List Int}(h:Has ts c rs):∀{lo x:Int}{xs:List Int},At ts c lo->rs=x::xs->lo<x:=by
 induction h with
 | one=>intro lo x xs _ e;cases e
 | @low c r rs n h ih=>
  intro lo x xs a e;obtain ⟨r',j,g⟩:=a.nd (by have:=n.1;lia);rw [j.one n] at g;have:=ih (T.nd n).2.1 e
  lia
 | @high c r rs n h ih=>
  intro lo x xs a e;obtain ⟨r',j,g⟩:=a.nd (by have:=n.1;lia);rw [j.one n] at g;cases e;exact g
theorem Has.skip {ts:List Tri}(T:TabOk ts){c:Int}{r:Tri}{x:Int}{xs:List Int}(n:Nd ts c r)(h:r.1≠x):Has ts c (x::xs)↔Has ts r.2.1 (x::xs):=by
 rw [Has.cons n];exact ⟨λz=>z.elim id λz=>absurd z.1.symm h,.inl⟩
theorem Has.take {ts:List Tri}(T:TabOk ts){c:Int}{r:Tri}{x:Int}{xs:List Int}(n:Nd ts c r)(h:r.1=x):Has ts c (x::xs)↔Has ts r.2.2 xs:=by
 rw [Has.cons n];constructor
 ·rintro (z | z)
  ·have:=z.gt T (T.nd n).2.1 rfl
   lia
  ·exact z.2
 ·intro z;exact .inr ⟨h.symm,z⟩
theorem Has.none {ts:List Tri}(T:TabOk ts){c:Int}{r:Tri}{x:Int}{xs:List Int}(n:Nd ts c r)(h:x<r.1):¬ Has ts c (x::xs):=by
 rw [Has.cons n];rintro (z | z)
 ·have:=z.gt T (T.nd n).2.1 rfl
  lia
 ·lia
noncomputable def J4 (fs:List Int)(n:Int):Option Int:=if n=0 then some 0 else if n=1 then some 1 else (fs.idxOf? n).map λ(i:Nat)=>(i:Int)+2
theorem idxOf?_app (fs:List Int)(n m:Int)(B:m ∉ fs):(fs++[m]).idxOf? n=if n=m then some fs.length else fs.idxOf? n:=by
 induction fs with
 | nil=>
  by_cases h:n=m
  ·subst h;simp [List.idxOf?,List.findIdx?_cons]
  ·have:¬ m=n:=λz=>h z.symm;simp [List.idxOf?,List.findIdx?_cons,h,this]
 | cons a fs ih=>
  have h1:m ∉ fs:=λz=>B (Ybf _ z);have h2:a≠m:=λz=>B (z▸Yaw);have j:=ih h1;rw [List.cons_append,List.idxOf?_cons,List.idxOf?_cons,j,Ybq];by_cases ha:(a == n)=true
  ·have:a=n:=by simpa using ha
   subst this;simp [h2]
  ·by_cases D:n=m
   ·subst D;simp [ha]
   ·simp [ha,D]
theorem Za5 (fs:List Int)(n m:Int)(j:J4 fs m=none):J4 (fs++[m]) n=if n=m then some ((fs.length:Int)+2) else J4 fs n:=by
 unfold J4 at j ⊢;by_cases h0:m=0
 ·rw [if_pos h0] at j;cases j
 rw [if_neg h0] at j;by_cases h1:m=1
 ·rw [if_pos h1] at j;cases j
 rw [if_neg h1] at j;have D:m ∉ fs:=by
  intro z;rw [Ydg,List.idxOf?_eq_none_iff] at j;exact j z
 rw [idxOf?_app fs n m D];by_cases B:n=m
 ·subst B;simp [h0,h1]
 ·simp [B]
theorem Wr (fs:List Int):J4 fs 0=some 0:=by unfold J4;rw [if_pos rfl]
theorem Xz (fs:List Int):J4 fs 1=some 1:=by unfold J4;rw [if_neg (by decide),if_pos rfl]
theorem ZH {fs:List Int}{m:Int}(h:J4 fs m=none):m≠0/\m≠1/\m ∉ fs:=by
 unfold J4 at h;by_cases h0:m=0
 ·rw [if_pos h0] at h;cases h
 rw [if_neg h0] at h;by_cases h1:m=1
 ·rw [if_pos h1] at h;cases h
 rw [if_neg h1] at h;refine ⟨h0,h1,λz=>?_⟩;rw [Ydg,List.idxOf?_eq_none_iff] at h;exact h z
noncomputable def Said (ks:List Tri)(fs:List Int)(us:List Tri)(i:Nat):Prop:=∀(j:Nat)(x:Int),j<i->fs[j]?=some x->∃(r:Tri)(a b:Int),Nd ks x r/\J4 fs r.2.1=some a/\J4 fs r.2.2=some b/\us[j]?=some (r.1,a,b)
theorem Said.snoc {ks:List Tri}{fs:List Int}{us:List Tri}{i:Nat}(S:Said ks fs us i)(D:us.length=i){x:Int}{r:Tri}{a b:Int}(e:fs[i]?=some x)(n:Nd ks x r)(ha:J4 fs r.2.1=some a)(L:J4 fs r.2.2=some b):Said ks fs (us++[(r.1,a,b)]) (i+1):=by
 intro j y hj B;by_cases h:j<i
 ·obtain ⟨r',O,U,h1,h2,Y,Z⟩:=S j y h B;exact ⟨r',O,U,h1,h2,Y,by rw [Ybl (by lia)];exact Z⟩
 ·have:j=i:=by lia
  subst this;rw [e] at B;cases B;refine ⟨r,a,b,n,ha,L,?_⟩;rw [Ybt (by lia),D,Ych]
  rfl
noncomputable def UQ (r:Tri):List Key:=[.inl r.1,.inl r.2.1,.inl r.2.2]
theorem Za6 {r q:Tri}(h:UQ r=UQ q):r=q:=by
 obtain ⟨a,b,c⟩:=r;obtain ⟨d,e,f⟩:=q;unfold UQ at h;simp only [List.cons.injEq,Sum.inl.injEq,and_true] at h;obtain ⟨rfl,rfl,rfl⟩:=h
 rfl
noncomputable def SeenOk (kvs:List (List Key×V))(ks:List Tri):Prop:=∀r:Tri,∀v:V,JW kvs (UQ r)=some v->∃c:Int,v=.int c/\Nd ks c r
theorem SeenOk.add {kvs:List (List Key×V)}{ks:List Tri}(S:SeenOk kvs ks){r:Tri}{c:Int}(j:c=(ks.length:Int)+2):SeenOk (JI kvs (UQ r) (.int c)) (ks++[r]):=by
 intro q v e;rw [Jr] at e;by_cases h:UQ q=UQ r
 ·rw [if_pos h] at e;cases e;have:=Za6 h;subst this;exact ⟨c,rfl,j▸Nd.last ks q⟩
 ·rw [if_neg h] at e;obtain ⟨d,B,D⟩:=S q v e;exact ⟨d,B,D.app _⟩
noncomputable def chT (ks:List Tri)(x:Int):List Int:=match ks[(x-2).toNat]? with | some r=>[r.2.1,r.2.2] | none=>[]
theorem XA {ks:List Tri}{x:Int}{r:Tri}(n:Nd ks x r):chT ks x=[r.2.1,r.2.2]:=by unfold chT;rw [n.2]
noncomputable def JD (ks:List Tri)(root:Int)(f:List Int):List Int:=root::f.flatMap (chT ks)
theorem JH (ks:List Tri)(root:Int)(f:List Int)(x:Int):JD ks root (f++[x])=JD ks root f++chT ks x:=by
 unfold JD;rw [List.flatMap_append,List.flatMap_cons,List.flatMap_nil,Ybv]
 rfl
noncomputable def New (f:List Int)(x:Int):Prop:=x≠0/\x≠1/\x ∉ f
theorem New.num {f:List Int}{x:Int}:New f x↔J4 f x=none:=by
 constructor
 ·rintro ⟨h0,h1,h2⟩;unfold J4;rw [if_neg h0,if_neg h1,Ydg,List.idxOf?_eq_none_iff];exact h2
 ·intro h;exact ZH h
noncomputable def Ext (ks:List Tri)(root:Int)(f:List Int)(x:Int):Prop:=∃p q,JD ks root f=p++x::q/\New f x/\∀y∈p,¬ New f y
theorem Ext.one {ks:List Tri}{root:Int}{f:List Int}{x y:Int}(h:Ext ks root f x)(h':Ext ks root f y):x=y:=by
 obtain ⟨p,q,e,n,a⟩:=h;obtain ⟨D,Y,L,O,U⟩:=h';have j:(JD ks root f)[p.length]?=some x:=by rw [e,Ybt (Yad _),Ych];rfl
 have B:(JD ks root f)[D.length]?=some y:=by rw [L,Ybt (Yad _),Ych];rfl
 rcases Nat.lt_trichotomy p.length D.length with z | z | z
 ·rw [L,Ybl z] at j;exact absurd n (U x (Yat j))
 ·rw [z,B] at j;cases j
  rfl
 ·rw [e,Ybl z] at B;exact absurd O (a y (Yat B))
inductive Rch (ks:List Tri)(root:Int):List Int->Prop
 | nil:Rch ks root []
 | snoc {f:List Int} {x:Int}:Rch ks root f->Ext ks root f x->Rch ks root (f++[x])
noncomputable def Fin (ks:List Tri)(root:Int)(f:List Int):Prop:=∀y∈JD ks root f,¬ New f y
theorem Ext.notFin {ks:List Tri}{root:Int}{f:List Int}{x:Int}(h:Ext ks root f x)(g:Fin ks root f):False:=by
 obtain ⟨p,q,e,n,_⟩:=h;exact g x (by rw [e];exact Ybs _ Yaw) n
theorem Rch.at {ks:List Tri}{root:Int}{g:List Int}(h:Rch ks root g):∀i x,g[i]?=some x->Ext ks root (g.take i) x:=by
 induction h with
 | nil=>intro i x e;simp at e
 | @snoc f y h ex ih=>
  intro i x e;by_cases hi:i<f.length
  ·rw [Ybl hi] at e;rw [List.take_append_of_le_length (Ycr hi)];exact ih i x e
  ·have j:i=f.length:=by
    have:=(Yaj.mp e).1;rw [Yae,Yap] at this
    lia
   subst j;rw [Ybt (Yad _),Ych] at e;cases e;rw [List.take_left];exact ex
theorem Rch.eq {ks:List Tri}{root:Int}{f g:List Int}(j:Rch ks root f)(D:Fin ks root f)(B:Rch ks root g)(L:Fin ks root g):f=g:=by
 have key:∀i,i<=f.length->i<=g.length->f.take i=g.take i:=by
  intro i
  induction i with
  | zero=>intro _ _;rw [List.take_zero,List.take_zero]
  | succ i ih=>
   intro h1 h2;have e:=ih (by lia) (by lia);have a:=j.at i _ (Yaz (by lia));have b:=B.at i _ (Yaz (by lia));rw [e] at a;have:=a.one b;rw [List.take_succ_eq_append_getElem (by lia),List.take_succ_eq_append_getElem (by lia),e,this]
 rcases Nat.lt_trichotomy f.length g.length with z | z | z
 ·exfalso;have e:=key f.length (Yad _) (by lia);rw [Ybn] at e;have b:=B.at f.length _ (Yaz z);rw [<-e] at b;exact b.notFin D
 ·have e:=key f.length (Yad _) (by lia);rw [Ybn,z,Ybn] at e;exact e
 ·exfalso;have e:=key g.length (by lia) (Yad _);rw [Ybn] at e;have b:=j.at g.length _ (Yaz z);rw [e] at b;exact b.notFin L
noncomputable def JA (n:Nat):List Int:=(List.range n).map λ(i:Nat)=>(i:Int)+2
theorem XB (n:Nat):(JA n).length=n:=by unfold JA;rw [Yab,List.length_range]
theorem VG {n i:Nat}(h:i<n):(JA n)[i]?=some ((i:Int)+2):=by
 unfold JA;rw [Ybb,List.getElem?_range h]
 rfl
theorem Vd (n:Nat):(JA n).Nodup:=by
 unfold JA;show List.Pairwise (·≠·) _;rw [Yct];have h:(List.range n).Pairwise (·≠·):=List.nodup_range;exact h.imp λ{a b} j z=>j (by have B:(a:Int)+2=(b:Int)+2:=z;lia)
theorem numI_of {fs:List Int}{x:Int}{i:Nat}(nd:fs.Nodup)(h0:1<x)(e:fs[i]?=some x):J4 fs x=some ((i:Int)+2):=by
 unfold J4;rw [if_neg (by lia),if_neg (by lia)];have:fs.idxOf? x=some i:=by
  rw [List.idxOf?_eq_some_iff];obtain ⟨hi,D⟩:=Yaj.mp e;refine ⟨hi,D,λj L z=>?_⟩;have B:fs.Pairwise (·≠·):=nd;exact (Ydf.mp B) j i (by lia) hi L (z.trans D.symm)
 rw [this]
 rfl
set_option maxRecDepth 8000 in
theorem Yq (l:Addr)(B:Array Value)(n:Nat)(b:Addr)(j:Array Value)(Y:Nat)(Z:Option Addr)(sl:Array (Option Value))(aa:¬(!B.isEmpty && Builtin.List.listTooLong (B.size+j.size))=true)(D:B.size<=sizeLine)(L:B.size+j.size<=sizeLine+1) :
  Meets (Builtin.«list.extend» ⟨[.ref l,.ref b],[]⟩) (λ_ R s=>s.heap.get? l=some { cls:=.type "list", dict:=none,data:=.seq B n,slots:=#[] }/\s.heap.get? b=some { cls:=.type "tuple", dict:=Z,data:=.seq j Y,slots:=sl }/\R (.ok (.ret Value.none)) { s with heap:=s.heap.update l (Obj.mapSeq λx=>x++j),toks:=s.toks }):=
 .of_wp λprog w A R s h=>by
  obtain ⟨hp,g,d,tk,os⟩:=s;obtain ⟨U,hb,h⟩:=h;have f1:=AutoSeq1.idx_int;have f2:=AutoSeq1.sub_tuple_tuple;have f3:=AutoSeq1.sub_list_list;have f4:=AutoSeq1.sub_tuple_list;have f5:=AutoSeq1.sub_list_tuple;have O:(B++j).size<=sizeLine+1:=by rw [Array.size_append];exact L
  wp_walk using (wpAny_updateSeq U rfl (hz:=D) (_hz':=O)),AutoSeq1.wpAny_loadPart' U,AutoSeq1.wpAny_loadPart' hb
  exact ⟨_,rfl,h⟩
section
variable {X:Cx}
noncomputable def Za7:V->List V->Hp->VK->Prop:=λx vs H Q=>∃l b xs zs,x=.ref l/\vs=[.ref b]/\H l=some (.lst xs)/\H b=some (.tup zs)/\xs.length+zs.length<=sizeLine/\Q .non (upd H l (.lst (xs++zs)))
theorem Ve:MtM X "list.extend" Za7:=by
 intro qQ s σ H x vs v us Q I Y Z h;obtain ⟨l,b,xs,zs,rfl,rfl,L,hB,hz,q⟩:=h;cases Y;obtain ⟨u,rfl,ru⟩:=Z.one;cases ru;obtain ⟨z,its,n,r,hl,e⟩:=I.lstM L;obtain ⟨_,j,O,o,ho,U,n2,hd⟩:=I.hok b _ hB;have aa:=O.length;have ab:=r.length;have D:its.toArray.size+j.toArray.size<=sizeLine:=by rw [Yas,Yas];lia
 have B:¬ (!its.toArray.isEmpty && Builtin.List.listTooLong (its.toArray.size+j.toArray.size))=true:=by
  rw [Xk D,Bool.and_false];exact Yar
 refine call_meets F.slot_list_extend ⟨_,e,rfl⟩ F.entry_list_extend (F.args_list_extend_2 _ _)
  (Yq l its.toArray n b j.toArray n2 o.dict o.slots B (by rw [Yas];lia) (by lia)) ⟨e,?_,?_⟩
 ·rw [ho];cases o;simp only at U hd;rw [U,hd]
 refine ⟨.non,_,I.lset (its':=its++j) L e (by simp) (r.append O) ?_,rfl,q⟩;rw [Yae]
 lia
end
theorem ZcN (ks:List Tri)(x:Int):(chT ks x).length<=2:=by
 unfold chT;split <;> simp
theorem Za8 (ks:List Tri)(root:Int)(f:List Int):(JD ks root f).length<=1+2 * f.length:=by
 unfold JD;rw [Ybq];have:(f.flatMap (chT ks)).length<=2 * f.length:=by
  induction f with
  | nil=>simp
  | cons x f ih=>
   have:=ZcN ks x;rw [List.flatMap_cons,Yae,Ybq]
   lia
 lia
theorem Za9 {ks:List Tri}{fs:List Int}(nd:fs.Nodup)(j:∀x∈fs,∃r,Nd ks x r):fs.length<=ks.length:=by
 have:=Ydp (l₂:=(List.range ks.length).map λ(i:Nat)=>(i:Int)+2) nd λx B=>by
  obtain ⟨r,n⟩:=j x B;have h1:=n.lt;have h2:=n.1;exact Yam.mpr ⟨(x-2).toNat,List.mem_range.mpr (by lia),by lia⟩
 rw [Yab,List.length_range] at this;exact this
structure Wk (ks:List Tri)(root:Int)(fs:List Int)(kvs:List (Key×V))(pr ah:List Int):Prop where
 e:JD ks root fs=pr++ah
 old:∀y∈pr,¬ New fs y
 seen:∀n:Int,JW kvs (.inl n)=none↔New fs n
 nd:fs.Nodup
 nod:∀x∈fs,∃r,Nd ks x r
 rch:Rch ks root fs
 kl:kvs.length<=fs.length+2
 ok:∀y∈ah,At ks y (-1)
theorem Wk.le {ks:List Tri}{root:Int}{fs:List Int}{kvs:List (Key×V)}{j B:List Int}(h:Wk ks root fs kvs j B):fs.length<=ks.length:=Za9 h.nd h.nod
theorem Wk.ahl {ks:List Tri}{root:Int}{fs:List Int}{kvs:List (Key×V)}{B j:List Int}(h:Wk ks root fs kvs B j):j.length<=1+2 * ks.length:=by
 have h1:=Za8 ks root fs;rw [h.e,Yae] at h1;have:=h.le
 lia
theorem Wk.skip {ks:List Tri}{root:Int}{fs:List Int}{kvs:List (Key×V)}{B D:List Int}{c:Int}(h:Wk ks root fs kvs B (c::D))(n:¬ New fs c):Wk ks root fs kvs (B++[c]) D:=by
 refine ⟨by rw [h.e,Ybg];rfl,λy j=>?_,h.seen,h.nd,h.nod,h.rch,h.kl,λy j=>h.ok y (Ybf _ j)⟩;rcases Yag.mp j with z | z
 ·exact h.old y z
 ·rw [Yai] at z;rw [z];exact n
theorem Wk.take {ks:List Tri}{root:Int}{fs:List Int}{kvs:List (Key×V)}{B D:List Int}{c:Int}{r:Tri}{v:V}(T:TabOk ks)(h:Wk ks root fs kvs B (c::D))(n:New fs c)(d:Nd ks c r):Wk ks root (fs++[c]) (JI kvs (.inl c) v) (B++[c]) (D++[r.2.1,r.2.2]):=by
 obtain ⟨Y,h1,h2⟩:=T.nd d;have j:∀y,New (fs++[c]) y↔(New fs y/\y≠c):=λy=>by
  unfold New;rw [Yag,Yai];constructor
  ·rintro ⟨a,b,e⟩;exact ⟨⟨a,b,λz=>e (.inl z)⟩,λz=>e (.inr z)⟩
  ·rintro ⟨⟨a,b,e⟩,f⟩;exact ⟨a,b,λz=>z.elim e f⟩
 refine ⟨?_,λy L=>?_,λm=>?_,?_,λx U=>?_,.snoc h.rch ⟨B,D,h.e,n,h.old⟩,?_,λy L=>?_⟩
 ·rw [JH,h.e,XA d];simp
 ·rw [j];rintro ⟨a,b⟩;rcases Yag.mp L with z | z
  ·exact h.old y z a
  ·exact b (Yai.mp z)
 ·rw [Jr,j,<-h.seen m];by_cases e:m=c
  ·rw [if_pos (by rw [e])];exact ⟨λz=>(by cases z),λz=>absurd e z.2⟩
  ·rw [if_neg (λz=>e (Sum.inl.inj z))];exact ⟨λz=>⟨z,e⟩,λz=>z.1⟩
 ·exact Ycd.mpr ⟨h.nd,by simp,λa ha b O=>by rw [Yai] at O;subst O;exact λz=>n.2.2 (z▸ha)⟩
 ·rcases Yag.mp U with z | z
  ·exact h.nod x z
  ·rw [Yai] at z;subst z;exact ⟨r,d⟩
 ·have:=Jj kvs (.inl c) v;have:=h.kl;rw [Yae,Yap]
  lia
 ·rcases Yag.mp L with z | z
  ·exact h.ok y (Ybf _ z)
  ·rcases Yau.mp z with z | z
   ·rw [z];exact h1.mono (by lia)
   ·rw [Yai] at z;rw [z];exact h2.mono (by lia)
theorem Wk.fin {ks:List Tri}{root:Int}{fs:List Int}{kvs:List (Key×V)}{B:List Int}(h:Wk ks root fs kvs B []):Fin ks root fs:=by
 intro y j;rw [h.e,Ybv] at j;exact h.old y j
end L2
namespace L2
open PySem PySem.Spec PyProof.Rows
section
variable {prog:Program}{w:World}{A:Around}{E:EX}{s:Shared}
theorem lt_int {x y:Int}{t u:Tok}{Q:EX}(h:Q (.bool (decide (x<y))) s):wpAny (model prog w) A (richCompare .Lt (.int x t) (.int y u)) Q E s:=
 CmpOf.ints_lt (P:=λi v=>∃t,v=.int (if i=0 then x else y) t) (λi=>if i=0 then x else y) (λ_ _ p=>p) 0 1 _ _ s Q E ⟨t,rfl⟩ ⟨u,rfl⟩ h
end
noncomputable def JC:List Int->List Int->Bool
 | [],[]=>false
 | [],_::_=>true
 | _::_,[]=>false
 | x::xs,y::ys=>if x=y then JC xs ys else decide (x<y)
section
variable {prog:Program}{w:World}{A:Around}{E:EX}{s:Shared}
theorem VH:∀{its:List Value}{ns:List Int},IntsAre its ns->∀k:Nat,(its[k]?=none/\ns.drop k=[])\/∃i t,its[k]?=some (.int i t)/\ns.drop k=i::ns.drop (k+1)
 | _,_,.nil,k=>.inl ⟨by simp,by simp⟩
 | _,_,.cons n t h,0=>.inr ⟨n,t,rfl,rfl⟩
 | _,_,.cons n t h,k+1=>by
  rcases VH h k with ⟨h1,h2⟩ | ⟨i,t,h1,h2⟩
  ·exact .inl ⟨by simpa using h1,by simpa using h2⟩
  ·exact .inr ⟨i,t,by simpa using h1,by simpa using h2⟩
theorem Od {its:List Value}{ns:List Int}(h:IntsAre its ns):its.length=ns.length:=by
 induction h with
 | nil=>rfl
 | cons n t h ih=>simp [ih]
theorem ZcO {a c:Addr}{oa oc:Obj}{xs ys:List Value}{ns ms:List Int}{na nc:Nat}{R:Result->Shared->Prop}(O:s.heap.get? a=some oa)(U:s.heap.get? c=some oc)(Y:oa.data=.seq xs.toArray na)(Z:oc.data=.seq ys.toArray nc)(hx:IntsAre xs ns)(hy:IntsAre ys ms) :
  ∀left k:Nat,ns.length-k=left->k<=ns.length->k<=ms.length->R (.ok (.ret (.bool (JC (ns.drop k) (ms.drop k))))) s->codeAny (model prog w) A (.builtin "list.__eq__.loop" { pos:=[.ref a,.ref c,rawInt (k:Int),rawInt 0] }) R s:=by
 intro left
 induction left with
 | zero=>
  intro k hl h1 h2 B;refine codeAny_builtin MeetsSeq3.entry_eq_loop ?_;rw [Around.under_plainId MeetsSeq3.plain_eq_loop _];show wpAny _ A.in1 (Builtin.List.listItems (.ref a) >>= _) _ _ s;refine Yaa (Yco O Y (Yaa (Yco U Z ?_)));have e1:xs.toArray[((k:Int)).toNat]?=none:=by
   rw [Int.toNat_natCast];rcases VH hx k with ⟨h,_⟩ | ⟨i,t,h,_⟩
   ·simpa using h
   ·have:=(Yaj.mp h).1;have:=Od hx
    lia
  rw [e1];show wpAny _ A.in1 (Builtin.List.listItems (.ref a) >>= _) _ _ s;refine Yaa (Yco O Y (Yaa (Yco U Z (Yah ?_))));show R (.ok (.ret (.bool (decide (xs.toArray.size<ys.toArray.size))))) s;have L:JC (ns.drop k) (ms.drop k)=decide (xs.toArray.size<ys.toArray.size):=by
   rw [Yas,Yas,Od hx,Od hy];have:ns.drop k=[]:=Yei (by lia);rw [this];cases hd:ms.drop k with
   | nil=>
    have:=List.drop_eq_nil_iff.mp hd;rw [Ybx (by lia)]
    rfl
   | cons y l=>
    have:k<ms.length:=by
     refine Nat.lt_of_not_le λh=>?_;rw [Yei h] at hd;cases hd
    rw [Ybm (by lia)]
    rfl
  rw [<-L];exact B
 | succ left ih=>
  intro k hl h1 h2 B;refine codeAny_builtin MeetsSeq3.entry_eq_loop ?_;rw [Around.under_plainId MeetsSeq3.plain_eq_loop _];show wpAny _ A.in1 (Builtin.List.listItems (.ref a) >>= _) _ _ s;refine Yaa (Yco O Y (Yaa (Yco U Z ?_)));rw [Int.toNat_natCast];rcases VH hx k with ⟨h,z⟩ | ⟨i,t,hi,di⟩
  ·have:=List.drop_eq_nil_iff.mp z
   lia
  ·have e1:xs.toArray[k]?=some (.int i t):=by simpa using hi
   rw [e1];rcases VH hy k with ⟨h,z⟩ | ⟨j,u,hj,dj⟩
   ·have L:ys.toArray[k]?=none:=by simpa using h
    rw [L];show wpAny _ A.in1 (Builtin.List.listItems (.ref a) >>= _) _ _ s;refine Yaa (Yco O Y (Yaa (Yco U Z (Yah ?_))));show R (.ok (.ret (.bool (decide (xs.toArray.size<ys.toArray.size))))) s;rw [di,z] at B;have:=List.drop_eq_nil_iff.mp z;rw [Yas,Yas,Od hx,Od hy,Ybx (by lia)];exact B
   ·have L:ys.toArray[k]?=some (.int j u):=by simpa using hj
    rw [L];rw [di,dj] at B;show wpAny _ A.in1 (eqBool (.int i t) (.int j u) >>= _) _ _ s;refine Yaa (wpAny_eqBool_int ?_);have kl:k<ms.length:=by
     have:=(Yaj.mp hj).1;rw [Od hy] at this;exact this
    by_cases D:i=j
    ·rw [show (i == j)=true by rw [D];exact beq_self_eq_true _,if_pos rfl];refine Yah ⟨plainId_quiet MeetsSeq3.plain_eq_loop _,ih (k+1) (by lia) (by lia) (by lia) ?_⟩;unfold JC at B;rw [if_pos D] at B;exact B
    ·rw [show (i == j)=false by rw [Ydb];exact D,if_neg Yar];refine Yaa (Yco O Y (Yaa (Yco U Z ?_)));rw [e1,L];refine Yaa (lt_int (Yah ?_));unfold JC at B;rw [if_neg D] at B;exact B
theorem Zba (a c:Addr)(xs ys:List Value)(ns ms:List Int)(na nc:Nat)(B:IntsAre xs ns)(D:IntsAre ys ms):Meets (Builtin.«list.__lt__» { pos:=[.ref a,.ref c] }) λA R s=>
  s.heap.IsList a xs.toArray/\s.heap.IsList c ys.toArray/\R (.ok (.ret (.bool (JC ns ms)))) s:=by
 intro prog w A R s ⟨ha,L,O⟩;obtain ⟨oa,U,ca,n1,Y⟩:=ha;obtain ⟨Z,j,cc,n2,dc⟩:=L;show wpAny _ A.in1 (isInstance (.ref c) (.type "list") >>= _) _ _ s;refine Yaa (wpAny_isInstance (T := "list") ⟨Z,j,cc⟩ (by first | rfl | decide +kernel) ?_);refine Yah ⟨plainId_quiet MeetsSeq3.plain_eq_loop _,?_⟩;exact ZcO U j Y dc B D _ 0 rfl (Yao _) (Yao _) O
theorem Yr {a c:Addr}{xs ys:List Value}{ns ms:List Int}{Q:Bool->Shared->Prop}(ha:s.heap.IsList a xs.toArray)(B:s.heap.IsList c ys.toArray)(D:IntsAre xs ns)(L:IntsAre ys ms)(O:A.units<cLine)(h:Q (JC ns ms) s) :
  wpAny (model prog w) A (oneLt' true (.ref a) (.ref c)) Q E s:=by
 rw [oneLt'_eq];dsimp only;rw [if_pos rfl];refine Yaa (wpAny_cRoom O ?_);have j:s.TypeIs (.ref a) "list" := ha.elim λo z=>⟨o,z.1,z.2.1⟩;refine Yaa (wpAny_callSpecialIfBound?_slot j F.slot_list_lt (call_meets F.slot_list_lt j F.entry_list_lt (F.args_list_lt_2 _ _) (Zba a c xs ys ns ms 0 0 D L) ⟨ha,B,?_⟩));show wpAny _ A (truthOfDropped (.bool (JC ns ms))) Q E s;exact Ydj h
end
end L2
namespace L2
open PySem PySem.Spec PyProof.Rows Classical
theorem Oe:∀xs:List Int,JC xs xs=false
 | []=>rfl
 | x::xs=>by
  unfold JC;rw [if_pos rfl];exact Oe xs
theorem VI:∀{xs ys zs:List Int},JC xs ys=true->JC ys zs=true->JC xs zs=true
 | [],[],_,h,_=>by simp [JC] at h
 | [],_::_,[],_,h=>by simp [JC] at h
 | [],_::_,_::_,_,_=>rfl
 | _::_,[],_,h,_=>by simp [JC] at h
 | _::_,_::_,[],_,h=>by simp [JC] at h
 | x::xs,y::ys,z::zs,h1,h2=>by
  unfold JC at h1 h2 ⊢;by_cases e1:x=y
  ·rw [if_pos e1] at h1;by_cases e2:y=z
   ·rw [if_pos e2] at h2;rw [if_pos (e1.trans e2)];exact VI h1 h2
   ·rw [if_neg e2] at h2;rw [if_neg (by rw [e1];exact e2),e1];exact h2
  ·rw [if_neg e1] at h1;have h1:=Ycv h1;by_cases e2:y=z
   ·rw [if_neg (by rw [<-e2];exact e1),<-e2];exact Ybm h1
   ·rw [if_neg e2] at h2;have h2:=Ycv h2;rw [if_neg (by lia)];exact Ybm (by lia)
theorem VJ:∀{xs ys:List Int},JC xs ys=false->JC ys xs=false->xs=ys
 | [],[],_,_=>rfl
 | [],_::_,h,_=>by simp [JC] at h
 | _::_,[],_,h=>by simp [JC] at h
 | x::xs,y::ys,h1,h2=>by
  unfold JC at h1 h2;by_cases e:x=y
  ·rw [if_pos e] at h1;rw [if_pos e.symm] at h2;rw [e,VJ h1 h2]
  ·rw [if_neg e] at h1;rw [if_neg (Ne.symm e)] at h2;have h1:=Yef h1;have h2:=Yef h2
   lia
theorem ZbX {α:Type}{κ:Keyed->α}{lt:α->α->Bool}(j:∀a,lt a a=false)(D:∀{a b c},lt a b=true->lt b c=true->lt a c=true)(B:∀{a b},lt a b=false->lt b a=false->a=b):WO (λx y=>lt (κ x) (κ y)):=by
 refine ⟨λx=>j _,λx y z=>D,λx y z h=>?_⟩;cases h1:lt (κ x) (κ y) with
 | true=>exact .inl rfl
 | false=>
  cases h2:lt (κ y) (κ x) with
  | true=>exact .inr (D h2 h)
  | false=>
   rw [<-B h1 h2];exact .inr h
theorem UD {α β:Type}{f:α->β}:∀{l:List β}{zs:List α},l.Perm (zs.map f)->∃j:List α,j.Perm zs/\j.map f=l:=by
 intro l zs h;generalize hm:zs.map f=m at h
 induction h generalizing zs with
 | nil=>exact ⟨zs,.refl _,by rw [hm]⟩
 | @cons x l1 l2 _ ih=>
  cases zs with
  | nil=>simp at hm
  | cons z zs=>
   simp at hm;obtain ⟨j,h1,h2⟩:=ih hm.2;exact ⟨z::j,h1.cons z,by rw [Yaq,h2,hm.1]⟩
 | swap x y l=>
  cases zs with
  | nil=>simp at hm
  | cons z zs=>
   cases zs with
   | nil=>simp at hm
   | cons z2 zs=>
    simp at hm;exact ⟨z2::z::zs,.swap _ _ _,by simp [hm.1,hm.2.1,hm.2.2]⟩
 | trans _ _ ih1 ih2=>
  obtain ⟨D,h1,h2⟩:=ih2 hm;obtain ⟨B,L,O⟩:=ih1 h2;exact ⟨B,L.trans h1,O⟩
section
variable {prog:Program}{w:World}{A:Around}{E:EX}{s:Shared}{b:Keyed->Keyed->Bool}{good:Keyed->Prop}
theorem VL (h:∀x y,good x->good y->∀{j:EX}{Q:Bool->Shared->Prop},Q (b x y) s->wpAny (model prog w) A (oneLt' true x.1 y.1) Q j s):O9 (model prog w) A E s oneType' b good:=by
 intro x y st Q B D L q;rw [lt'_eq];refine Yac (wpS_get ?_);refine Yac (wpS_lift ?_);rw [L,keyLt'_oneType];exact wpAny_attempt (h x y B D ⟨rfl,Yaf q⟩)
theorem O2 {β:Type}{f:Value->Sem β}{g:Value->β}:∀{vs:List Value}{Q:List β->Shared->Prop},(∀v∈vs,∀{Q:β->Shared->Prop},Q (g v) s->wpAny (model prog w) A (f v) Q E s)->Q (vs.map g) s->wpAny (model prog w) A (List.mapM f vs) Q E s
 | [],Q,_,q=>by
  rw [List.mapM_nil];exact Yah q
 | v::vs,Q,h,q=>by
  rw [List.mapM_cons];refine Yaa (h v (Yaw ..) ?_);exact Yaa (O2 (λu hu=>h u (Ybf _ hu)) (Yah q))
theorem Ws {α β:Type}{m:Sem α}{f:α->β}{Q:β->Shared->Prop}(h:wpAny (model prog w) A m (λa s'=>Q (f a) s') E s):wpAny (model prog w) A (f <$> m) Q E s:=by
 rw [map_eq_pure_bind];exact Yaa (Ybp h (λa s' z=>Yah z) λ_ _ z=>z)
theorem Ot {T:String}{vs:List Value}{R:SortKind->Shared->Prop}(L:T ≠ "tuple")(h:∀v∈vs,s.TypeIs v T)(h2:2<=vs.length)(q:R oneType' s):wpAny (model prog w) A (keyKind' vs.toArray) R E s:=by
 rw [keyKind'_eq,List.mapM_toArray];have ne:(Value.type T != Value.type "tuple")=true:=by
  rw [bne_iff_ne];intro e;injection e with e
  exact L e
 refine Yaa (Ws (O2 (g:=λ_=>none) (λv D Q q=>?_) ?_))
 ·show wpAny _ _ (typeOf v >>= _) _ _ s;refine Yaa (wpAny_typeOf (h v D) ?_);rw [if_pos ne];exact Yah q
 ·obtain ⟨j,B,rest,rfl⟩:∃j B rest,vs=j::B::rest:=by
   cases vs with
   | nil=>simp at h2
   | cons j t=>cases t with
    | nil=>simp at h2
    | cons B rest=>exact ⟨j,B,rest,rfl⟩
  rw [if_neg (by simp)];rw [if_neg (by simp)];rw [oneTypeOnly'_eq,List.mapM_toArray];refine Yaa (Yaa (Ws (O2 (g:=λ_=>Value.type T) (λv D Q q=>wpAny_typeOf (h v D) q) ?_)));simp only [Yaq,List.getElem?_toArray,List.getElem?_cons_zero];refine Yah ?_;rw [if_pos (by simp)];exact Yah q
end
noncomputable def ltI (x y:Int):Bool:=decide (x<y)
theorem ZbY:WO (λx y=>ltI (UP x.1) (UP y.1)):=ZbX (κ:=λx:Keyed=>UP x.1) (lt:=ltI) (λa=>by simp [ltI]) (λ{a b c} h1 h2=>by
  have h1:=Ycv h1;have h2:=Ycv h2;exact Ybm (by lia)) (λ{a b} h1 h2=>by
  have h1:=Yef h1;have h2:=Yef h2
  lia)
theorem J5 {b:Keyed->Keyed->Bool}{out:Array Keyed}{n:Nat}(h:Rng b out 0 n)(L:out.size=n):out.toList.Pairwise (kle b):=by
 rw [Ydf];intro i j hi B D;rw [Ybd] at hi B;exact h i j _ _ (Yao _) (by lia) (by lia) (by simp [hi]) (by simp [B])
theorem XC {vs:List Value}{out:Array Keyed}(h:out.Perm (pairsOf vs)):(out.map (·.2)).toList.Perm vs/\(∀x∈out.toList,x.1=x.2/\x.1∈vs)/\out.size=vs.length:=by
 have p:out.toList.Perm (vs.zip vs):=by
  have:=h.toList;rw [pairsOf_toList] at this;exact this
 refine ⟨?_,λx j=>mem_zip_self (p.mem_iff.mp j),by rw [h.size_eq,pairsOf_size]⟩;rw [Array.toList_map];have:=p.map (λx:Keyed=>x.2);rw [show (vs.zip vs).map (λx:Keyed=>x.2)=vs from List.map_snd_zip (Yad _)] at this;exact this
noncomputable def ZcP (h:Heap)(v:Value):List Int:=if q:∃ns a its,v=.ref a/\h.IsList a its/\IntsAre its.toList ns then choose q else []
theorem Zbb {its:List Value}{ns ms:List Int}(h:IntsAre its ns)(k:IntsAre its ms):ns=ms:=by
 induction h generalizing ms with
 | nil=>cases k;rfl
 | cons n t h ih=>cases k with
  | cons _ _ k=>rw [ih k]
theorem Ys {h:Heap}{a:Addr}{xs ys:Array Value}(h1:h.IsList a xs)(h2:h.IsList a ys):xs=ys:=by
 obtain ⟨o,e,_,n,d⟩:=h1;obtain ⟨o',j,_,D,B⟩:=h2;rw [e] at j;cases j;rw [d] at B;cases B
 rfl
theorem VM {h:Heap}{a:Addr}{its:Array Value}{ns:List Int}(B:h.IsList a its)(hi:IntsAre its.toList ns):ZcP h (.ref a)=ns:=by
 have q:∃ns j its,Value.ref a=.ref j/\h.IsList j its/\IntsAre its.toList ns:=⟨ns,a,its,rfl,B,hi⟩;unfold ZcP;rw [dif_pos q];obtain ⟨j,D,e,h1,h2⟩:=choose_spec q;cases e;have:=Ys B h1;subst this;exact Zbb h2 hi
theorem ZcQ (h:Heap):WO (λx y=>JC (ZcP h x.1) (ZcP h y.1)):=ZbX (κ:=λx:Keyed=>ZcP h x.1) (lt:=JC) Oe VI VJ
section
variable {X:Cx}(K:W.Frag)
noncomputable def Zef:List V->Hp->VK->Prop:=λxs H Q=>∃(p:Addr)(ns:List Int),xs=[.ref p]/\SqL K H p (ns.map V.int)/\∀(l:Addr)(ns':List Int),H l=none->ns'.Perm ns->ns'.Pairwise (· <= ·)->Q (.ref l) (upd H l (.lst (ns'.map V.int)))
theorem ZbZ (h:X.K=K:=by rfl):Oi X (.builtin "sorted") (Zef K):=by
 subst h;intro qQ s σ H xs us Q I rv h;obtain ⟨p,ns,rfl,hq,q⟩:=h;obtain ⟨u,rfl,ru⟩:=rv.one;cases ru;obtain ⟨its,r,pl,Z⟩:=I.list hq;have hl:=r.length;rw [Yab] at hl Z;have hi:=UX r;have B:∀v∈its,∃i t,v=.int i t:=hi.all;refine Vb (good:=λx=>∃i t,x.1=.int i t) ZbY pl.isList (by lia) B (λh' k h2 E' R q=>?_) (λh' k=>VL λx y gx gy E' Q q=>?_) λout hp hr=>?_
 ·exact Ot (T := "int") (by decide) (λv hv=>by obtain ⟨i,t,rfl⟩:=B v hv;exact typeIs_int _ _ _) h2 q
 ·obtain ⟨i,t,e1⟩:=gx;obtain ⟨j,u,e2⟩:=gy;simp only [e1,e2] at q ⊢;exact oneLt_int q
 ·obtain ⟨o1,D,o3⟩:=XC hp;obtain ⟨e,he⟩:=sortedAll_at s.heap its (out.map (·.2));have L:∀l:List Keyed,(∀x∈l,x.1=x.2/\x.1∈its)->Vals ((l.map λx=>UP x.2).map V.int) (l.map (·.2)):=by
   intro l
   induction l with
   | nil=>intro _;exact .nil
   | cons x l ih=>
    intro h;obtain ⟨h1,h2⟩:=h x (Yaw ..);obtain ⟨i,t,e⟩:=B x.1 h2;rw [h1] at e;refine .cons ⟨t,?_⟩ (ih λy O=>h y (Ybf _ O));show x.2=.int (UP x.2) t;rw [e]
    rfl
  have U:=L out.toList D;have pn:(out.toList.map λx=>UP x.2).Perm ns:=by
   have a1:=o1.map UP;rw [Array.toList_map,Ycw] at a1;refine a1.trans (.of_eq ?_);have:∀{its:List Value}{ns:List Int},IntsAre its ns->its.map UP=ns:=by
    intro its ns h
    induction h with
    | nil=>rfl
    | cons n t h ih=>rw [Yaq,ih];rfl
   exact this hi
  have ps:(out.toList.map λx=>UP x.2).Pairwise (· <= ·):=by
   rw [Yct];refine (J5 hr o3).imp_of_mem λ{x y} hx O Y=>?_;have:=Yef Y;rw [<-(D x hx).1,<-(D y O).1]
   lia
  refine ⟨.ref _,_,I.laid (a:=s.heap.objs.size+1) (t':=s.toks) (o:=.lst ((out.toList.map λx=>UP x.2).map V.int)) (λb o e=>sortedAll_old e) (Ydd _) ⟨by rw [Yab,pn.length_eq];exact Z,(out.map (·.2)).toList,e,by rw [Array.toList_map];exact U,he⟩,rfl,q _ _ (I.hok.fresh (Ydd _)) pn ps⟩
noncomputable def ZcR:List V->Hp->VK->Prop:=λxs H Q=>∃(p:Addr)(zs:List (Addr×List Int)),xs=[.ref p]/\SqL K H p (zs.map λz=>V.ref z.1)/\(∀z∈zs,SqL K H z.1 (z.2.map V.int)) /\
 ∀(l:Addr)(zs':List (Addr×List Int)),H l=none->zs'.Perm zs->(zs'.map (·.2)).Pairwise (λa b=>JC b a=false)->Q (.ref l) (upd H l (.lst (zs'.map λz=>V.ref z.1)))
theorem XD:∀{zs:List (Addr×List Int)}{its:List Value},Vals (zs.map λz=>V.ref z.1) its->its=zs.map λz=>Value.ref z.1
 | [],_,h=>by cases h;rfl
 | z::zs,_,h=>by
  cases h with
  | cons r h=>
   cases r;rw [XD h]
   rfl
theorem Wt:∀(zs:List (Addr×List Int)),Vals (zs.map λz=>V.ref z.1) (zs.map λz=>Value.ref z.1)
 | []=>.nil
 | z::zs=>.cons rfl (Wt zs)
theorem ZcS (hu:X.A.units+64<cLine)(h:X.K=K:=by rfl):Oi X (.builtin "sorted") (ZcR K):=by
 subst h;intro qQ s σ H xs us Q I rv h;obtain ⟨p,zs,rfl,hq,hz,q⟩:=h;obtain ⟨u,rfl,ru⟩:=rv.one;cases ru;obtain ⟨its,r,pl,U⟩:=I.list hq;have hl:=r.length;rw [Yab] at hl U;have ei:=XD r;have key:∀z∈zs,∃its:Array Value,s.heap.IsList z.1 its/\IntsAre its.toList z.2:=λz L=>by
  obtain ⟨iz,rz,pz,_⟩:=I.list (hz z L);exact ⟨iz.toArray,pz.isList,UX rz⟩
 have Y:∀v∈its,∃a,∃B:Array Value,∃ns,v=.ref a/\s.heap.IsList a B/\IntsAre B.toList ns:=λv Z=>by
  rw [ei] at Z;obtain ⟨z,L,rfl⟩:=Yam.mp Z;obtain ⟨B,h1,h2⟩:=key z L;exact ⟨z.1,B,z.2,rfl,h1,h2⟩
 have j:∀{h':Heap}{a:Addr}{B:Array Value},(∀c o,s.heap.get? c=some o->h'.get? c=some o)->s.heap.IsList a B->h'.IsList a B:=λk hl=>by
  obtain ⟨o,e,r⟩:=hl;exact ⟨o,k _ _ e,r⟩
 refine Vb (good:=λx=>∃a,∃B:Array Value,∃ns,x.1=.ref a/\s.heap.IsList a B/\IntsAre B.toList ns) (ZcQ s.heap) pl.isList (by lia) Y (λh' k h2 E' R q=>?_) (λh' k=>VL λx y gx gy E' Q q=>?_) λout hp hr=>?_
 ·refine Ot (T := "list") (by decide) (λv Z=>?_) h2 q;obtain ⟨a,B,ns,rfl,h1,_⟩:=Y v Z;obtain ⟨o,e,c,_⟩:=j k h1;exact ⟨o,e,c⟩
 ·obtain ⟨a,B,ns,e1,h1,h2⟩:=gx;obtain ⟨c,jt,ms,e2,h3,h4⟩:=gy;simp only [e1,e2,VM h1 h2,VM h3 h4] at q ⊢;exact Yr (xs:=B.toList) (ys:=jt.toList) (j k h1) (j k h3) h2 h4 (by rw [Around.in1_units,Around.in1_units];lia) q
 ·obtain ⟨o1,o2,o3⟩:=XC hp;obtain ⟨e,he⟩:=sortedAll_at s.heap its (out.map (·.2));rw [ei] at o1;obtain ⟨O,p1,p2⟩:=UD o1;have ps:(O.map (·.2)).Pairwise (λa b=>JC b a=false):=by
   have a1:=J5 hr o3;have a2:(out.toList.map (·.2)).Pairwise (λu v=>JC (ZcP s.heap v) (ZcP s.heap u)=false):=by
    rw [Yct];refine a1.imp_of_mem λ{x y} hx hy D=>?_;rw [<-(o2 x hx).1,<-(o2 y hy).1];exact D
   rw [Array.toList_map] at p2;rw [<-p2,Yct] at a2;rw [Yct];refine a2.imp_of_mem λ{x y} hx hy D=>?_;obtain ⟨B,h1,h2⟩:=key x (p1.mem_iff.mp hx);obtain ⟨jt,h3,h4⟩:=key y (p1.mem_iff.mp hy);rw [VM h1 h2,VM h3 h4] at D;exact D
  refine ⟨.ref _,_,I.laid (a:=s.heap.objs.size+1) (t':=s.toks) (o:=.lst (O.map λz=>V.ref z.1)) (λb o e=>sortedAll_old e) (Ydd _) ⟨by rw [Yab,p1.length_eq];exact U,(out.map (·.2)).toList,e,by rw [<-p2];exact Wt O,he⟩,rfl,q _ _ (I.hok.fresh (Ydd _)) p1 ps⟩
end
end L2
namespace L2
open PySem PySem.Spec PyProof.Rows
section
variable {prog:Program}{w:World}{A:Around}{E:EX}{s:Shared}
noncomputable def Zga (kz:List Int)(vs out:List Value):Prop:=∃ps:List (Int×Value),ps.Perm (kz.zip vs)/\out=ps.map Prod.snd/\ps.Pairwise (λp q=>q.1<=p.1)
theorem ZcT {j:List Value}{vs:List Value}{kz:List Int}{xs:Array Keyed}(B:IntsAre j kz)(D:xs.toList.Perm (j.zip vs))(L:xs.toList.Pairwise (kle λx y=>ltI (UP x.1) (UP y.1))):Zga kz vs ((xs.toList.map (·.2)).reverse):=by
 have O:∀{l:List Value}{ns:List Int},IntsAre l ns->l.map UP=ns:=by
  intro l ns h
  induction h with
  | nil=>rfl
  | cons n t h ih=>rw [Yaq,ih];rfl
 refine ⟨(xs.toList.map λx=>(UP x.1,x.2)).reverse,(List.reverse_perm _).trans ?_,?_,?_⟩
 ·refine (D.map λx:Keyed=>(UP x.1,x.2)).trans (.of_eq ?_);rw [<-O B,List.zip_map_left];exact List.map_congr_left λ⟨x,y⟩ _=>rfl
 ·rw [List.map_reverse,Ycw]
  rfl
 ·rw [List.pairwise_reverse,Yct];refine L.imp λ{x y} h=>?_;have:=Yef h
  lia
structure Zeg (J:Shared->Prop)(a b:Addr):Prop where
 put:∀(s:Shared)(c:Addr)(f:Obj->Obj),c=a\/c=b->J s->J { s with heap:=s.heap.update c f }
noncomputable abbrev keyHeap (h:Heap)(a:Addr)(vs:List Value):Heap:=((h.update a (Obj.mapSeq λ_=>#[])).push (seqObj "tuple" vs.toArray 0)).push (seqObj "list" #[] 0)
theorem Zbc {α:Type}{R:α->α->Prop}:∀{l:List α},l.length<2->l.Pairwise R:=λ{l} h=>by
 cases l with
 | nil=>exact .nil
 | cons a l=>
  cases l with
  | nil=>simp
  | cons b l=>exact absurd h (by simp)
theorem VN {a q:Addr}{vs:List Value}{kz:List Int}{n:Nat}{J:Shared->Prop}{P:PySem.Fin->Shared->Prop}(ha:s.heap.get? a=some (seqObj "list" vs.toArray n))(hz:vs.length<=sizeLine)(hl:kz.length=vs.length)(S:Zeg J a (s.heap.objs.size+1))(hJ:J { s with heap:=keyHeap s.heap a vs })(ai:∀(i:Nat)(v:Value)(k:Int)(s1:Shared)(R:EX)(E':EX),vs[i]?=some v->kz[i]?=some k->J s1->s.heap.objs.size+1<s1.heap.objs.size ->
   (∀t O,J O->s1.heap.objs.size<=O.heap.objs.size->(∀c o,c=a\/c=s.heap.objs.size+1->s1.heap.get? c=some o->O.heap.get? c=some o)->R (.int k t) O)->wpAny (model prog w) A (call (.ref q) [v]) R E' s1)(fin:∀(O:Shared)(out:Array Value)(c:Nat),J O->O.heap.get? a=some (seqObj "list" out c)->Zga kz vs out.toList->P (.done (.ret .none)) O) :
  wpAny (model prog w) A (Builtin.«list.sort» ⟨[.ref a],[(Str.ofString "key", .ref q),(Str.ofString "reverse", .bool true)]⟩) P E s:=by
 rw [PyProof.Rows.ksk_t2];unfold PyProof.Rows.ksk_tree;have aj:=Yal ha;refine Yaa (Yco ha rfl ?_);refine Yaa (Ydw ha rfl ?_ (by rw [Yas];exact hz) (Yao _));have ab:=get?_update_seq ha (λ_=>#[]);generalize (if ((#[]:Array Value).size == vs.toArray.size)=true then n else n+1)=U at ab;refine Yaa (seqEpoch_at ab rfl ?_);refine Yaa (wpAny_newTuple ?_ hz);refine Yaa (wpAny_newList ?_ (Yao _));refine Ydc ?_;have z1:((s.heap.update a (Obj.mapSeq λ_=>#[])).push (seqObj "tuple" vs.toArray 0)).objs.size=s.heap.objs.size+1:=by rw [Ycx,Heap.size_update]
 have ac:(keyHeap s.heap a vs).get? (s.heap.objs.size+1)=some (seqObj "list" #[] 0):=by rw [<-z1];exact Ybj _ rfl
 have ad:(keyHeap s.heap a vs).get? a=some (seqObj "list" #[] U):=Yan _ (Yan _ ab);have z2:(keyHeap s.heap a vs).objs.size=s.heap.objs.size+2:=by rw [Ycx,z1]
 show wpAny (model prog w) A (PyProof.Rows.ksk_rest a (.ref q) true vs.toArray U (.ref ((s.heap.update a (Obj.mapSeq λ_=>#[])).push (seqObj "tuple" vs.toArray 0)).objs.size)) P E { s with heap:=keyHeap s.heap a vs };rw [z1];generalize keyHeap s.heap a vs=h0 at hJ ac ad z2 ⊢;generalize hkS:s.heap.objs.size+1=Y at *;have ae:a≠Y:=by rw [<-hkS];exact Yay (Nat.lt_succ_of_lt aj)
 unfold PyProof.Rows.ksk_rest;refine Yaa (wpAny_rule ?_);refine Yaa ?_;rw [<-Array.forIn_toList];refine PyProof.Rows.ksk_fold (λi s1=>J s1/\Y<s1.heap.objs.size/\s1.heap.get? a=some (seqObj "list" #[] U)/\∃B c,s1.heap.get? Y=some (seqObj "list" B c)/\IntsAre B.toList (kz.take i)) vs.toArray.toList 0 _ ⟨hJ,by show Y<h0.objs.size;lia,ad,#[],0,ac,.nil⟩ ?_ ?_
 ·rintro j x s1 Z ⟨j1,l1,a1,B,c,k1,ik⟩;have Z:vs[j]?=some x:=by simpa using Z
  have hj:j<vs.length:=(Yaj.mp Z).1;have hk:kz[j]?=some kz[j]:=Yaz (by lia);rw [Ydo] at ik;refine Yaa (wpAny_attempt (ai j x kz[j] s1 _ _ Z hk j1 l1 λt O j2 l2 kp=>?_));have k2:=kp Y _ (.inr rfl) k1;have a2:=kp a _ (.inl rfl) a1;have il:B.size=j:=by
   have:=ik.length;rw [Ybd,Yba] at this
   lia
  refine Yaa (Ydw k2 rfl ?_ (by lia) (by show (B.push _).size<=_;rw [Ycn];lia));refine Yah ⟨rfl,S.put _ _ _ (.inr rfl) j2,by show Y<(O.heap.update Y _).objs.size;rw [Heap.size_update];lia,(Ydx _ _ (Ne.symm ae)).trans a2,B.push (.int kz[j] t),_,get?_update_seq k2 (·.push (.int kz[j] t)),?_⟩;rw [Yeb,Ydo,Ybu,hk];exact PyProof.Rows.ksk_snoc ik
 ·rintro s1 ⟨j1,l1,a1,B,c,k1,ik⟩;rw [show 0+vs.toArray.toList.length=kz.length by simp [hl],Ybn] at ik;have il:B.size=vs.length:=by
   have:=ik.length;rw [Ybd] at this
   lia
  have af:∀v∈B.toList,∃i t,v=.int i t:=ik.all;refine Yaa (Yco k1 rfl ?_);have D:(B.zip vs.toArray).toList=B.toList.zip vs:=PyProof.Rows.ksk_zip B vs;have am:(B.zip vs.toArray).size=vs.length:=by simp [Array.size_zip,il]
  have aa:∀st:SortSt,failedOf st=none->(arrOf st).toList.Perm (B.toList.zip vs)->(arrOf st).toList.Pairwise (kle λx y=>ltI (UP x.1) (UP y.1))->wpAny (model prog w) A (PyProof.Rows.ksk_tail a true U (.ref Y) st) P E s1:=by
   intro st f0 p0 r0;have an:(arrOf st).size=vs.length:=by
    have:=p0.length_eq;rw [Ybd,List.length_zip,Ybd] at this
    lia
   unfold PyProof.Rows.ksk_tail;refine Yaa (Ydw k1 rfl ?_ (by lia) (Yao _));refine Yaa (wpAny_letGo ?_);have a3:(s1.heap.update Y (Obj.mapSeq λ_=>#[])).get? a=some (seqObj "list" #[] U):=(Ydx _ _ (Ne.symm ae)).trans a1;refine Yaa (seqEpoch_at a3 rfl ?_);refine Yaa (Ydw a3 rfl ?_ (Yao _) (by rw [if_pos rfl,Array.size_reverse,Array.size_map];lia));rw [show (U != U)=false by simp,f0];refine Yah (fin _ _ _ (S.put _ _ _ (.inl rfl) (S.put _ _ _ (.inr rfl) j1)) (get?_update_seq a3 _) ?_);rw [if_pos rfl,Ydn,Array.toList_map];exact ZcT ik p0 r0
  unfold PyProof.Rows.ksk_end;dsimp only;rw [if_pos rfl];refine Yaa (wpAny_rule ?_);split
  ·rename_i h2;have h2:vs.length<2:=by simpa using h2
   refine Yaa (Yah ?_);refine Yaa (Ybp (Q:=λr s'=>s'=s1/\r.2=SortSt.mk' general' (B.zip vs.toArray).reverse #[] 7 none) (Yah ⟨rfl,rfl⟩) ?_ (λ_ _ z=>z));rintro ⟨_,st⟩ s' ⟨rfl,rfl⟩;refine aa _ rfl ?_ ?_
   ·show (B.zip vs.toArray).reverse.toList.Perm _;rw [Ydn,D];exact List.reverse_perm _
   ·show (B.zip vs.toArray).reverse.toList.Pairwise _;have ak:(B.zip vs.toArray).reverse.toList.length<2:=by rw [Ybd,Array.size_reverse];lia
    exact Zbc ak
  ·rename_i h2;have h2:¬ vs.length<2:=by simpa using h2
   have kk:wpAny (model prog w) A (keyKind' B) (λag s'=>ag=oneType'/\s'=s1) E s1:=by
    have:B=B.toList.toArray:=by simp
    rw [this];exact Ot (T := "int") (by decide) (λv hv=>by obtain ⟨i,t,rfl⟩:=af v hv;exact typeIs_int _ _ _) (by rw [Ybd];lia) ⟨rfl,rfl⟩
   refine Yaa (Ybp kk ?_ (λ_ _ z=>z));rintro _ ao ⟨rfl,es⟩;rw [es];have L:O9 (model prog w) A E s1 oneType' (λx y=>ltI (UP x.1) (UP y.1)) (λx=>∃i t,x.1=.int i t):=VL λx y gx gy E' Q q=>by
    obtain ⟨i,t,U⟩:=gx;obtain ⟨j,u,e2⟩:=gy;simp only [U,e2] at q ⊢;exact oneLt_int q
   refine Yaa (Ybp (JV (st:=SortSt.mk' oneType' (B.zip vs.toArray).reverse #[] 7 none) (Q:=λ_ st=>failedOf st=none/\(arrOf st).toList.Perm (B.toList.zip vs)/\(arrOf st).toList.Pairwise (kle λx y=>ltI (UP x.1) (UP y.1))) ZbY L rfl rfl rfl (λx Z=>?_) λah p1 f1 r1=>⟨f1,?_,?_⟩) ?_ (λ_ _ z=>z))
   ·have Z:x∈(B.zip vs.toArray).reverse.toList:=Z;rw [Ydn,List.mem_reverse,D] at Z;exact af _ (List.of_mem_zip (a:=x.1) (b:=x.2) Z).1
   ·have p1:(arrOf ah).Perm (B.zip vs.toArray).reverse:=p1;refine p1.toList.trans ?_;rw [Ydn,D];exact List.reverse_perm _
   ·have p1:(arrOf ah).Perm (B.zip vs.toArray).reverse:=p1;exact J5 r1 p1.size_eq
   ·rintro ⟨_,st⟩ s' ⟨rfl,f1,p1,r1⟩;exact aa st f1 p1 r1
theorem Zbd {Y c':Addr}{qual:Str}{params:Arguments}{body:Expr}{scope:Scope}{clos:List (Str×Addr)}{pm D arg:Value}{x:Str}{R:EX}(qG:A.depth<recursionLimit)(ho:s.heap.get? Y=some (W.kla_obj "<lambda>" qual params body scope clos pm c' D))(Z:s.heap.CodeRec (.ref c') qual)(aa:s.heap.NoLimit)(ab:scope.isCoroutine=false)(O:scope.isGenerator=false)(hk:scope.kind=.function)(j:bindArgs (W.kla_fn "<lambda>" qual params body scope clos pm (.ref c') D) ⟨[arg],[]⟩=pure [(x,arg)])(U:scope.names.lookup x=some .local)(jJ:∀y∈scope.names,y.2≠.cell)(h:∀(h1:Heap)(L:Addr),(∀b o,s.heap.get? b=some o->h1.get? b=some o)->s.heap.objs.size<=h1.objs.size->h1.Ns L (λy=>[(x,arg)].reverse.lookup y) ->
   wpAny (model prog w) (A.deeper (W.envX qual scope L Y (.ref c') clos)) (eval body (W.envX qual scope L Y (.ref c') clos)) R (λ_ _=>False) { s with heap:=h1,toks:=s.toks+1 }) :
  wpAny (model prog w) A (call (.ref Y) [arg]) R E s:=by
 refine wpAny_call (W.kla_callFunE qG ho rfl ab O rfl Z ?_);rw [j];refine Yah (wpAny_newFunctionEnv jJ (λy hy=>?_) (λh1 ac B=>⟨?_,?_⟩) hk)
 ·cases Yai.mp hy;exact U
 ·exact aa.fresh _ B
 ·refine W.kla_codeExpr ?_;have k1:∀b o,s.heap.get? b=some o->h1.get? b=some o:=λb o e=>B.extBut b o (Yay (Yal e)) (Yan _ e);refine Ybp (h h1 s.heap.objs.size k1 ?_ ac) (λv s' hR=>hR) λ_ _ z=>z.elim;rw [B.1,Ycx];exact Ydd _
end
noncomputable def SameL (P:Addr)(H H':Hp):Prop:=∀a o,a≠P->H a=some o->H' a=some o
theorem SameL.of {P:Addr}{H H':Hp}(s:Same H H'):SameL P H H':=λa o _ e=>s a o e
theorem SameL.trans {P:Addr}{H H' j:Hp}(a:SameL P H H')(b:SameL P H' j):SameL P H j:=λc o n e=>b c o n (a c o n e)
noncomputable def Zbe (qual:Str)(j:Obj):Prop:=∃vs t,j.data=.fields vs/\vs[1]?=some (.str qual t)
noncomputable def LamOn (P:Addr)(j col:Nat)(qual:Str)(H:Hp)(c:Addr):Prop:=H P=some (.tbl #[rawInt j,rawInt col,.ref c])/\∃B,H c=some (.frz B (.own c))/\Zbe qual B
noncomputable def LamSt (P:Addr)(j col:Nat)(qual:Str)(H:Hp):Prop:=H P=some (.tbl #[])\/∃c,LamOn P j col qual H c
theorem LamOn.same {P:Addr}{j col:Nat}{qual:Str}{H H':Hp}{c:Addr}(h:LamOn P j col qual H c)(s:Same H H'):LamOn P j col qual H' c:=⟨s _ _ h.1,h.2.elim λB z=>⟨B,s _ _ z.1,z.2⟩⟩
theorem LamSt.same {P:Addr}{j col:Nat}{qual:Str}{H H':Hp}(h:LamSt P j col qual H)(s:Same H H'):LamSt P j col qual H':=h.imp (λe=>s _ _ e) λ⟨c,z⟩=>⟨c,z.same s⟩
section
variable {X:Cx}
noncomputable def Zhe (P:Addr)(qual:Str)(params:Arguments)(body:Expr)(scope:Scope)(clos:List (Str×Addr))(pos:Pos)(pm:Value):TE:=λσ H Q=>LamSt P pos.line pos.col qual H /\
 ∀(f c:Addr)(ctv:Value)(H':Hp),SameL P H H'->LamOn P pos.line pos.col qual H' c->H f=none->H' f=some (.frz (W.kla_obj "<lambda>" qual params body scope clos pm c ctv) (.own f))->Q (.ref f) H'
theorem Zeh {params:Arguments}{body:Expr}{scope:Scope}{pos:Pos}{clos:List (Str×Addr)}{c P:Addr}{qual:Str}(aa:closureFor scope X.env=pure clos)(B:X.env.code=.ref c)(C:W.CodeHd X.base c P)(hb:X.base.BuiltinsAt X.mg P)(hq:X.env.qual ++ "<lambda>" = qual)(ab:defaultsOf params X.env=([],[]):=by rfl):PE X (.Lambda params body scope pos) (Zhe P qual params body scope clos pos ((X.mg "__name__").getD .none)):=by
 intro qQ s σ H Q I h;obtain ⟨st,q⟩:=h;refine W.kla_eval ab ?_;rw [hq];have hg:s.heap.Ns mainGlobals X.mg:=I.ok.mod.glob.keeps I.bk;have hB:s.heap.BuiltinsAt X.mg P:=by
  obtain ⟨bm,o,h1,h2,h3,h4,h5,h6⟩:=hb;exact ⟨bm,o,h1,h2,h3,h4,I.bk _ _ h5,h6⟩
 rcases st with U | ⟨c',e1,oc,e2,vs,tq,hd,hv⟩
 ·have hP:s.heap.get? P=some (W.tabObj #[]):=I.hok P _ U;have ah:mainGlobals≠P:=λz=>by
   obtain ⟨o,es,ep,e,hd,_⟩:=hg;rw [z,hP] at e;cases e;cases hd
  refine W.kla_makeFunction (mg:=X.mg) aa I.ok.glob hg B (C.keeps I.bk) hP trivial rfl ah hB λc' j h' tk hx D ad ae Y=>?_;obtain ⟨c2,oc,vs,tq,ec,ag,hd,hv⟩:=ae;cases ec;have ai:c'≠P:=λz=>by rw [z] at D;exact Ycf _ (Yax (Yal hP) D)
  have aj:P<h'.objs.size:=Yal Y;have nc:H c'=none:=I.hok.fresh D;have L:s.heap.objs.size<=h'.objs.size:=Yca D (Ycr ad);have nf:H h'.objs.size=none:=I.hok.fresh L;have ak:c'≠h'.objs.size:=Yay ad;have am:P≠h'.objs.size:=Yay aj;generalize hH':upd (upd (upd H P (.tbl #[rawInt pos.line,rawInt pos.col,.ref c'])) c' (.frz oc (.own c'))) h'.objs.size (.frz (W.kla_obj "<lambda>" qual params body scope clos ((X.mg "__name__").getD .none) c' j) (.own h'.objs.size))=H';have aP:H' P=some (.tbl #[rawInt pos.line,rawInt pos.col,.ref c']):=by rw [<-hH',Gn am,Gn (Ne.symm ai),Gb]
  have ac:H' c'=some (.frz oc (.own c')):=by rw [<-hH',Gn ak,Gb]
  have af:H' h'.objs.size=some (.frz (W.kla_obj "<lambda>" qual params body scope clos ((X.mg "__name__").getD .none) c' j) (.own h'.objs.size)):=by rw [<-hH',Gb]
  have ao:∀b,b≠P->b≠c'->b≠h'.objs.size->H' b=H b:=λb h1 h2 h3=>by rw [<-hH',Gn h3,Gn h2,Gn h1]
  have Z:SameL P H H':=λb o hb e=>by
   rw [ao b hb (λz=>by rw [z,nc] at e;cases e) (λz=>by rw [z,nf] at e;cases e)];exact e
  have kp:∀b o,b≠P->s.heap.get? b=some o->(h'.push (W.kla_obj "<lambda>" qual params body scope clos ((X.mg "__name__").getD .none) c' j)).get? b=some o:=λb o hb e=>Yan _ (hx b o hb e);have nP:∀b,H b=none->b≠P:=λb n z=>by rw [z,U] at n;cases n
  have I':Inv X qQ σ H' { s with heap:=h'.push (W.kla_obj "<lambda>" qual params body scope clos ((X.mg "__name__").getD .none) c' j),toks:=tk }:=by
   refine I.un ⟨λb o e n _ _=>kp b o (nP b n) e,λb o e n _ _=>⟨o.slots,kp b o (nP b n) e⟩,λb o e n _=>?_,λb o e _=>?_,λb ys e=>Z b _ (λz=>by rw [z,U] at e;cases e) e,λb o u e=>Z b _ (λz=>by rw [z,U] at e;cases e) e,λb ps e=>?_⟩ λb o e=>?_
   ·rw [ao b (nP b n) (Yay (Yax (Yal e) D)) (Yay (Yax (Yal e) L))];exact n
   ·by_cases z:b=P
    ·rw [z];exact ⟨_,Yan _ Y⟩
    ·exact ⟨o,kp b o z e⟩
   ·by_cases z:b=P
    ·rw [z,U] at e;cases e;exact ⟨_,by rw [z];simpa using aP⟩
    ·exact ⟨#[],by rw [Z b _ z e];simp⟩
   ·by_cases z:b=P
    ·rw [z,aP] at e;cases e;rw [z];exact Yan _ Y
    ·by_cases z2:b=c'
     ·rw [z2,ac] at e;cases e;rw [z2];exact ⟨Yan _ ag,_,Yan _ ag⟩
     ·by_cases z3:b=h'.objs.size
      ·rw [z3,af] at e;cases e;rw [z3];exact ⟨Ybj _ rfl,_,Ybj _ rfl⟩
      ·rw [ao b z z2 z3] at e;refine (I.hok b o e).stay (λd u hd O=>kp d u ?_ O) (λd O=>Z d _ (λy=>by rw [y,U] at O;cases O) O) λd ys O=>Z d _ (λy=>by rw [y,U] at O;cases O) O;rcases hd with rfl | hd
       ·exact z
       ·exact λy=>by rw [y,U] at hd;cases hd
  exact ⟨.ref h'.objs.size,H',I',rfl,q _ c' j H' Z ⟨aP,oc,ac,vs,tq,hd,hv⟩ nf af⟩
 ·have hP:s.heap.get? P=some (W.tabObj #[rawInt pos.line,rawInt pos.col,.ref c']):=I.hok P _ e1;refine W.kla_makeFunctionHit (cv:=.ref c') (mg:=X.mg) aa I.ok.glob hg B (C.keeps I.bk) hP trivial ?_ hB λj h' tk hk L=>?_
  ·simp [codeAmong,rawInt]
  ·have nf:H h'.objs.size=none:=I.hok.fresh L;have I':=I.laid (a:=h'.objs.size) (o:=.frz (W.kla_obj "<lambda>" qual params body scope clos ((X.mg "__name__").getD .none) c' j) (.own h'.objs.size)) (h':=h'.push (W.kla_obj "<lambda>" qual params body scope clos ((X.mg "__name__").getD .none) c' j)) (t':=tk) (λb o e=>Yan _ (hk b o e)) L ⟨Ybj _ rfl,_,Ybj _ rfl⟩;have sm:Same H (upd H h'.objs.size (.frz (W.kla_obj "<lambda>" qual params body scope clos ((X.mg "__name__").getD .none) c' j) (.own h'.objs.size))):=Same.new nf;exact ⟨.ref h'.objs.size,_,I',rfl,q _ c' j _ (.of sm) (LamOn.same ⟨e1,oc,e2,vs,tq,hd,hv⟩ sm) nf Gb⟩
theorem Yt {id:String}{ks:List Str}{r:St->List V->List V->Hp->VK->Prop}{x:Str}{p pos:Pos}{e:Expr}{es:List Expr}{kws:List Keyword}{t tk:TA}(U:∀(qQ:List (Addr×Obj))(s:Shared)(σ:St)(H:Hp)(xs:List V)(us:List Value)(zs:List V)(ws:List Value)(Q:VK),Inv X qQ σ H s->Vals xs us->Vals zs ws->r σ xs zs H Q->wpAny (model X.prog X.w) X.A (call (.builtin id) us (ks.zip ws)) (EP X qQ σ Q) X.xe s)(Y:Gl X x)(Z:X.mg x=none)(hv:bootBuiltins x=some (.builtin id))(ha:PA X (e::es) t)(j:PK X kws tk)(B:(backToKw pos (keywordEach kws X.env)).filterMap (·.1)=ks:=by rfl)(hn:x ≠ "__name__" := by decide)(D:(x == ("__debug__" : Str))=false:=by decide)(he:backTo pos (starEach (e::es) X.env)=(false,eval e X.env)::backTo pos (starEach es X.env):=by rfl)(L:(backTo pos (starEach (e::es) X.env)).any (·.1)=false:=by rfl)(qY:(backToKw pos (keywordEach kws X.env)).all (·.1.isSome)=true:=by rfl)(O:(backToKw pos (keywordEach kws X.env)).any (·.1.isNone)=false:=by rfl) :
  PE X (.Call (.Name x p) (e::es) kws pos) (λσ H Q=>t σ H λvs H1=>tk σ H1 λzs H2=>r σ vs zs H2 Q):=by
 intro qQ s σ H Q I h;refine Ydl (UT I Y Z hv ?_ hn D);refine PyProof.Rows.callWith_kw (thG (ha pos qQ s σ H _ I h) λus s1 vs H1 I1 r1 q1=>thG (j pos qQ s1 σ H1 _ I1 q1) λws s2 zs H2 I2 r2 q2=>?_) he L qY O;rw [B];exact U qQ s2 σ H2 vs us zs ws Q I2 r1 r2 q2
end
section
variable {P:Program}{w:World}{K:W.Frag}{mg:Str->Option Value}{base:Heap}
theorem Fun.okC {x qual:Str}{st:Stmt}{f c:Addr}{fd:FuncData}{N ps:List Str}{k:Nat}{sp:Sp}(F:Fun K x qual st f fd)(L:fd.code=.ref c)(S:Gs N ps (Gh st))(len:∀vs H Q E,sp vs H Q E->vs.length=ps.length)(O:∀(A:Around)(outer:List Env)(s:Shared)(H:Hp)(vs:List V)(Q:VK)(E:XK),Room k (A.deeper (envOfC qual (Gh st) s.heap.objs.size f (.ref c)))->sp vs H Q E ->
   ∃t,PSs (Ye CX0 P w K mg base N qual (Gh st) f (.ref c) A outer s H E).nox (GM st) t/\t { nx:=λ_ H'=>Q .non H',rt:=Q } (start N vs) H):FnOk P w K mg base CX0 (k+1) f fd ps sp:=by
 obtain ⟨oc,od,kV,U,pm,an,j,ct,Y,rfl,Z,B⟩:=F.ex;have e:j=.ref c:=L;subst e;refine Y6 Z B S len λA outer s H vs Q E hr D=>?_;obtain ⟨t,h,q⟩:=O A outer s H vs Q E hr D;exact ⟨t,h.nox,q⟩
theorem LamSt.tbl {P:Addr}{j col:Nat}{qual:Str}{H:Hp}(h:LamSt P j col qual H):∃ps,H P=some (.tbl ps):=by
 rcases h with h | ⟨c,h,_⟩
 ·exact ⟨_,h⟩
 ·exact ⟨_,h⟩
theorem SameL.free {P p:Addr}{H H':Hp}{ps:Array Value}(s:SameL P H H')(L:H P=some (.tbl ps))(j:∃B,H' P=some (.tbl B))(h:H' p=none):H p=none:=by
 cases e:H p with
 | none=>rfl
 | some o=>
  by_cases z:p=P
  ·obtain ⟨B,D⟩:=j;rw [z,D] at h;cases h
  ·rw [s p o z e] at h;cases h
end
end L2
namespace L2
open PySem PySem.Spec PyProof.Rows
section
variable (P:Program)(w:World)
noncomputable def VO (h:Heap)(row:List Int)(v:Value):Prop:=∃b,v=.ref b/\IsTupleKey (intKind P w) h row b
noncomputable def OJ (h:Heap)(k:List (List Int))(a:Addr):Prop:=∃o vs n,h.get? a=some o/\o.cls=.type "tuple" /\ o.data=.seq vs n/\Paired (VO P w h) k vs.toList
noncomputable def VP (k:List (List Int)):Int:=reduceHash (Builtin.Tuple.tupleHashOf (k.map (tupleKeyHash (intKind P w))))
end
section
variable {P:Program}{w:World}{A:Around}{E:EX}{s:Shared}{h h':Heap}
theorem Zbf {k l:List (List Int)}{vs:List Value}(r:Paired (VO P w h) k vs)(t:Paired (VO P w h) l vs):k=l:=by
 induction r generalizing l with
 | nil=>cases t;rfl
 | cons x r ih=>cases t with
  | cons y t=>
   obtain ⟨b,e,x⟩:=x;obtain ⟨c,j,y⟩:=y;rw [e] at j;cases j;rw [x.inj y,ih t]
theorem Wu (B:A.units<cLine):∀{k:List (List Int)}{vs:List Value}{b:Array Int}{s:Shared}{Q:Array Int->Shared->Prop},Paired (VO P w s.heap) k vs ->
  (∀j:Array Int,j.toList=b.toList++k.map (tupleKeyHash (intKind P w))->Q j { s with toks:=s.toks+(k.map λr=>r.length+1).sum }) ->
  wpAny (model P w) A (forIn vs b λx r=>do let h <- pyHash x;pure PUnit.unit;pure (ForInStep.yield (r.push h))) Q E s
 | _,_,b,s,Q,.nil,q=>by
  rw [List.forIn_nil];exact Yah (by simpa using q b (by simp))
 | _,_,b,s,Q,.cons (a:=row) (l₁:=k) ⟨c,e,x⟩ r,q=>by
  subst e;rw [List.forIn_cons];refine Yaa (Yaa (wpAny_pyHash_tuple B x (Yaa (Yah (Yah ?_)))));refine Wu B (s:={ s with toks:=s.toks+(row.length+1) }) r λj D=>?_;have:=q j (by rw [D];simp);simpa [Nat.add_assoc] using this
theorem W4 {k:List (List Int)}{a:Addr}{Q:Int->Shared->Prop}(O:A.units+70<cLine)(x:OJ P w s.heap k a)(q:Q (VP P w k) { s with toks:=s.toks+((k.map λr=>r.length+1).sum+1) }) :
  wpAny (model P w) A (pyHash (.ref a)) Q E s:=by
 obtain ⟨o,vs,n,j,B,hd,r⟩:=x;refine W.pyHash_slot (T := "tuple") ⟨o,j,B⟩ F.slot_tuple_hash F.entry_tuple_hash (F.args_tuple_hash_1 _) (beq_builtin_none _) (.inr (by lia)) ?_;show wpAny (model P w) A.in1 (Builtin.Tuple.tupleItemsOf (.ref a) >>= _) _ E s;refine Yaa (wpAny_tupleItemsOf j hd (Yaa ?_));rw [<-Array.forIn_toList];refine Wu (by rw [Around.in1_units];lia) r λD L=>?_;show wpAny _ _ (retInt (Builtin.Tuple.tupleHashOf D.toList)) _ _ _;refine Yaa (wpAny_mkInt (Yah ⟨_,_,rfl,?_⟩));rw [L];simpa [VP,Nat.add_assoc] using q
noncomputable def JX (row:List Int):PyData:=.tuple (row.map PyData.int)
theorem Yu {its:List Value}{row:List Int}(x:ItemsAre (intKind P w) row its):∃j,ReadsAll h its (row.map PyData.int) j:=by
 induction x with
 | nil=>exact ⟨_,.nil⟩
 | @cons k v ks vs h1 _ ih=>
  obtain ⟨j,r⟩:=ih;obtain ⟨t,rfl⟩:∃t,v=.int k t:=by
   cases v <;> simp [intKind,Value.isInt] at h1;subst h1;exact ⟨_,rfl⟩
  exact ⟨_,.cons (.int _ _) r⟩
theorem ZI {row:List Int}{v:Value}(x:VO P w h row v):∃j,Reads h v (JX row) j:=by
 obtain ⟨b,rfl,o,its,n,h1,h2,B,D⟩:=x;obtain ⟨j,r⟩:=Yu (h:=h) D;exact ⟨j,.tuple h1 h2 B r⟩
theorem O3:∀{k:List (List Int)}{vs:List Value},Paired (VO P w h) k vs->∃j,ReadsAll h vs (k.map JX) j
 | _,_,.nil=>⟨_,.nil⟩
 | _,_,.cons x r=>by
  obtain ⟨j,h1⟩:=ZI x;obtain ⟨bs,h2⟩:=O3 r;exact ⟨_,.cons h1 h2⟩
theorem XE (row:List Int):PyData.canLay0 (JX row)=true:=by
 unfold JX;simp only [PyData.canLay0];exact Ug row
theorem Uk:∀k:List (List Int),PyData.canLayAll0 (k.map JX)=true
 | []=>by simp [PyData.canLayAll0]
 | r::k=>by
  rw [Yaq];simp [PyData.canLayAll0,XE r,Uk k]
theorem O4:∀k:List (List Int),PyData.depthAll (k.map JX)<=2
 | []=>by simp [PyData.depthAll]
 | r::k=>by
  have ih:=O4 k;have:=JG r;rw [Yaq];simp only [PyData.depthAll,JX,PyData.depth]
  lia
theorem Ul (r q:List Int):PyData.eqv (JX r) (JX q)=decide (r=q):=by
 have:=OA r q;unfold JX;simp only [PyData.eqv] at this ⊢;exact this
theorem Ou:∀k l:List (List Int),PyData.eqvAll (k.map JX) (l.map JX)=decide (k=l)
 | [],[]=>by simp [PyData.eqvAll]
 | [],_::_=>by simp [PyData.eqvAll]
 | _::_,[]=>by simp [PyData.eqvAll]
 | r::k,q::l=>by
  rw [Yaq,Yaq];simp only [PyData.eqvAll,Ul,Ou k l];by_cases e1:r=q <;> by_cases e2:k=l <;> simp [e1,e2]
theorem Zbg (k l:List (List Int)):PyData.eqv (.tuple (k.map JX)) (.tuple (l.map JX))=decide (k=l):=by
 simp only [PyData.eqv,Ou]
theorem W5 {k l:List (List Int)}{a b:Addr}{Q:Bool->Shared->Prop}(Z:A.units+70<cLine)(x:OJ P w s.heap k a)(y:OJ P w s.heap l b)(q:Q (decide (k=l)) s) :
  wpAny (model P w) A (eqBool (.ref a) (.ref b)) Q E s:=by
 obtain ⟨o,vs,n,L,O,hd,r⟩:=x;obtain ⟨o',U,n',j,B,D,r'⟩:=y;obtain ⟨Y,h1⟩:=O3 r;obtain ⟨bs,h2⟩:=O3 r';have e:=SeqAt.eqAt_reads (.tuple (k.map JX)) (.tuple (l.map JX)) A s (.ref a) (.ref b) Y bs (.tuple L O hd h1) (.tuple j B D h2) (by simp only [PyData.canLay0];exact Uk k) (by simp only [PyData.canLay0];exact Uk l) ?_
 ·rw [Zbg] at e;exact e P w E Q q
 ·have d1:=O4 k;simp only [PyData.depth]
  lia
theorem Vf {n:Nat}{Q:Option Bool×PUnit->Shared->Prop}(q:Q (none,⟨⟩) s):∀{vs:List Value},(∀v∈vs,∀{Q:Bool->Shared->Prop},Q true s->wpAny (model P w) A (eqIsQuiet n v) Q E s) ->
  wpAny (model P w) A (forIn vs ((none,⟨⟩):Option Bool×PUnit) λy r=>do if !(<- eqIsQuiet n y) then pure (ForInStep.done (some false,⟨⟩)) else pure (ForInStep.yield (none,⟨⟩))) Q E s
 | [],_=>by
  rw [List.forIn_nil];exact Yah q
 | v::vs,hv=>by
  rw [List.forIn_cons];refine Yaa (Yaa (hv v (Yaw ..) ?_));simp only [Bool.not_true,Bool.false_eq_true,if_false];exact Yah (Vf q λu hu=>hv u (Ybf _ hu))
theorem Wv {n m:Nat}{a:Addr}{o:Obj}{vs:Array Value}{Q:Bool->Shared->Prop}(j:s.heap.get? a=some o)(B:o.cls=.type "tuple")(hd:o.data=.seq vs m)(D:∀v∈vs.toList,∀{Q:Bool->Shared->Prop},Q true s->wpAny (model P w) A (eqIsQuiet n v) Q E s)(q:Q true s):wpAny (model P w) A (eqIsQuiet (n+1) (.ref a)) Q E s:=by
 unfold eqIsQuiet;refine Yaa (wpAny_specialOf (⟨o,j,B⟩:s.TypeIs (.ref a) "tuple") F.slot_tuple_eq.lookup ?_);show wpAny _ _ (isInstance (.ref a) (.type "tuple") >>= _) _ _ s;refine Yaa (wpAny_isInstance (⟨o,j,B⟩:s.TypeIs (.ref a) "tuple") isSubtype_tuple_tuple ?_);simp only [Bool.not_true,Bool.false_eq_true,if_false];refine Yaa (wpAny_seqItems j hd (Yaa ?_));show wpAny _ _ (forIn vs _ _) _ _ s;rw [<-Array.forIn_toList];exact Vf (Yah q) D
theorem ZJ {n:Nat}{row:List Int}{its:List Value}(x:ItemsAre (intKind P w) row its):∀v∈its,∀{Q:Bool->Shared->Prop},Q true s->wpAny (model P w) A (eqIsQuiet n v) Q E s:=λv j Q q=>by
 rw [eqIsQuiet_byValue n (x.byValue v j)];exact Yah q
theorem Yv {k:List (List Int)}{a:Addr}{Q:Bool->Shared->Prop}(x:OJ P w s.heap k a)(q:Q true s):wpAny (model P w) A (eqIsQuiet 8 (.ref a)) Q E s:=by
 obtain ⟨o,vs,n,D,L,hd,r⟩:=x;refine Wv D L hd (λv j Q q=>?_) q;have B:∀{k:List (List Int)}{vs:List Value},Paired (VO P w s.heap) k vs->∀v∈vs,∃row,VO P w s.heap row v:=by
  intro k vs r
  induction r with
  | nil=>intro v j;cases j
  | cons x _ ih=>
   intro v j;rcases Yau.mp j with rfl | j
   ·exact ⟨_,x⟩
   ·exact ih v j
 obtain ⟨row,b,rfl,o',its,m,h1,h2,O,U⟩:=B r v j;exact Wv h1 h2 O (ZJ U) q
theorem Yw {k:List (List Int)}{a d:Addr}{o:Obj}{es ep}(x:OJ P w h k a)(B:h.get? d=some o)(hd:o.data=.dict es ep)(D:Heap.SameBut d h h'):OJ P w h' k a:=by
 obtain ⟨o',vs,n,h1,h2,j,r⟩:=x;have ne:a≠d:=λz=>by
  rw [z,B] at h1;cases h1;rw [hd] at j;cases j
 refine ⟨o',vs,n,(D.2 a ne).trans h1,h2,j,?_⟩;refine Paired.mapP r λrow v z=>?_;obtain ⟨b,e,y⟩:=z;exact ⟨b,e,y.keeps B hd D⟩
end
noncomputable def JP (P:Program)(w:World):HeapKind P w (List (List Int)) where
 is:=OJ P w
 hash:=VP P w
 draws:=λk=>(k.map λr=>r.length+1).sum+1
 room:=λA=>A.units+70<cLine
 inj:=λ{h a x y} hx hy=>by
  obtain ⟨o,vs,n,h1,_,h3,r⟩:=hx;obtain ⟨o',vs',n',h1',_,h3',r'⟩:=hy;rw [h1] at h1';cases h1';rw [h3] at h3';cases h3';exact Zbf r r'
 keeps:=λx ho hd hs=>Yw x ho hd hs
 pyHash:=λhu x q=>W4 hu x q
 eqBool:=λhu x y q=>W5 hu x y q
 quiet:=λx q=>Yv x q
noncomputable def KeyTT (H:Hp)(b:Addr)(k:List (List Int)):Prop:=∃cs:List Addr,H b=some (.tup (cs.map V.ref))/\Paired (λ(row:List Int) (c:Addr)=>H c=some (.tup (row.map V.int))) k cs
theorem KeyTT.keep {H H':Hp}{b:Addr}{k:List (List Int)}(x:KeyTT H b k)(t:∀p ys,H p=some (.tup ys)->H' p=some (.tup ys)):KeyTT H' b k:=by
 obtain ⟨cs,h1,h2⟩:=x;exact ⟨cs,t _ _ h1,Paired.mapP h2 λ_ _ z=>t _ _ z⟩
noncomputable abbrev TTs:=List (List (List Int)×Addr×V)
noncomputable def Zgb (P:Program)(w:World)(a:Addr)(kvs:TTs)(h:Heap):Prop:=∃xs:List (List (List Int)×Addr×Value),Paired (λ(p:List (List Int)×Addr×V) (q:List (List Int)×Addr×Value)=>p.1=q.1/\p.2.1=q.2.1/\RelV p.2.2 q.2.2) kvs xs /\
 ∃o es ep,h.get? a=some o/\o.ExactDict/\o.data=.dict es ep/\es.toList=xs.map (entryOfKey (JP P w))/\(xs.map (·.1)).Nodup
noncomputable def dtt (P:Program)(w:World)(a:Addr)(kvs:TTs):HO:=.ext λh=>kvs.length<=sizeLine/\(a == sysModules)=false/\Zgb P w a kvs h
noncomputable def KeysTT (H:Hp)(kvs:TTs):Prop:=∀p∈kvs,KeyTT H p.2.1 p.1
noncomputable def UM (kvs:TTs)(k:List (List Int)):Option V:=(kvs.find? λp=>decide (p.1=k)).map (·.2.2)
theorem KeysTT.keep {H H':Hp}{kvs:TTs}(x:KeysTT H kvs)(t:∀p ys,H p=some (.tup ys)->H' p=some (.tup ys)):KeysTT H' kvs:=λp j=>(x p j).keep t
section
variable {P:Program}{w:World}{H:Hp}{h:Heap}{a:Addr}
theorem Ww {b:Addr}{k:List (List Int)}(ok:HOk P w H h)(x:KeyTT H b k):OJ P w h k b:=by
 obtain ⟨cs,h1,h2⟩:=x;obtain ⟨_,its,r,o,j,B,n,D⟩:=(show ObjOk P w H h b (.tup (cs.map V.ref)) from ok b _ h1);refine ⟨o,its.toArray,n,j,B,D,?_⟩;have row:∀{row:List Int}{c:Addr},H c=some (.tup (row.map V.int))->IsTupleKey (intKind P w) h row c:=λ{row c} e=>by
  obtain ⟨_,its,r,o,L,O,n,U⟩:=(show ObjOk P w H h c (.tup (row.map V.int)) from ok c _ e);refine ⟨o,its.toArray,n,L,O,U,?_⟩;have go:∀{row:List Int}{its:List Value},Vals (row.map V.int) its->ItemsAre (intKind P w) row its:=by
   intro row
   induction row with
   | nil=>intro its r;cases r;exact .nil
   | cons x row ih=>
    intro its r;rw [Yaq] at r;cases r with
    | cons h t=>
     obtain ⟨tk,rfl⟩:=h;exact .cons (by simp [intKind,Value.isInt]) (ih t)
  simpa using go r
 have go:∀{k:List (List Int)}{cs:List Addr}{its:List Value},Paired (λ(row:List Int) (c:Addr)=>H c=some (.tup (row.map V.int))) k cs->Vals (cs.map V.ref) its->Paired (VO P w h) k its:=by
  intro k cs its p
  induction p generalizing its with
  | nil=>intro r;cases r;exact .nil
  | @cons a b l1 l2 e _ ih=>
   intro r;rw [Yaq] at r;cases r with
   | cons hh t=>
    cases hh;exact .cons ⟨_,rfl,row e⟩ (ih t)
 simpa using go h2 r
theorem ZK {kvs:TTs}(ok:HOk P w H h)(e:H a=some (dtt P w a kvs))(K:KeysTT H kvs):kvs.length<=sizeLine/\(a == sysModules)=false/\∃xs,Paired (λ(p:List (List Int)×Addr×V) (q:List (List Int)×Addr×Value)=>p.1=q.1/\p.2.1=q.2.1/\RelV p.2.2 q.2.2) kvs xs/\h.DictOfH (JP P w) a xs:=by
 obtain ⟨⟨z,y,xs,r,o,es,ep,h1,h2,B,D,L⟩,_,_⟩:=(show ObjOk P w H h a (dtt P w a kvs) from ok a _ e);refine ⟨z,y,xs,r,o,es,ep,h1,h2,B,D,λx j=>?_,L⟩;have all:∀{l:TTs}{m:List (List (List Int)×Addr×Value)},Paired (λ(p:List (List Int)×Addr×V) (q:List (List Int)×Addr×Value)=>p.1=q.1/\p.2.1=q.2.1/\RelV p.2.2 q.2.2) l m->KeysTT H l->∀x∈m,OJ P w h x.1 x.2.1:=by
  intro l m q
  induction q with
  | nil=>intro _ x j;cases j
  | @cons p q ps qs hq t ih=>
   intro K x j;rcases Yau.mp j with rfl | j
   ·rw [<-hq.1,<-hq.2.1];exact Ww ok (K p (Yaw ..))
   ·exact ih (λy O=>K y (Ybf _ O)) x j
 exact all r K x j
theorem ZL {kvs:TTs}{xs:List (List (List Int)×Addr×Value)}(r:Paired (λ(p:List (List Int)×Addr×V) (q:List (List Int)×Addr×Value)=>p.1=q.1/\p.2.1=q.2.1/\RelV p.2.2 q.2.2) kvs xs)(k:List (List Int)):RelO (UM kvs k) ((atKey xs k).map (·.2)):=by
 induction r with
 | nil=>exact True.intro
 | @cons p q ps j h t O=>
  obtain ⟨h1,_,h2⟩:=h;by_cases e:p.1=k
  ·have B:q.1=k:=h1.symm.trans e;have D:UM (p::ps) k=some p.2.2:=by simp [UM,Ycg,e]
   have L:atKey (q::j) k=some q.2:=by simp [atKey,Ycg,B]
   rw [D,L];exact h2
  ·have B:¬ q.1=k:=λz=>e (h1.trans z);have D:UM (p::ps) k=UM ps k:=by simp [UM,Ycg,e]
   have L:atKey (q::j) k=atKey j k:=by simp [atKey,Ycg,B]
   rw [D,L];exact O
theorem ZM {kvs:TTs}{xs:List (List (List Int)×Addr×Value)}{H':Hp}(z:kvs.length<=sizeLine)(y:(a == sysModules)=false)(r:Paired (λ(p:List (List Int)×Addr×V) (q:List (List Int)×Addr×Value)=>p.1=q.1/\p.2.1=q.2.1/\RelV p.2.2 q.2.2) kvs xs)(dd:h.DictOfH (JP P w) a xs):ObjOk P w H' h a (dtt P w a kvs):=by
 obtain ⟨o,es,ep,h1,h2,D,L,_,O⟩:=dd;refine ⟨⟨z,y,xs,r,o,es,ep,h1,h2,D,L,O⟩,⟨o,h1⟩,λg1 g2 x k=>?_⟩;obtain ⟨U,Y,xs',r',o',j,B,Z,e2⟩:=x;exact ⟨U,Y,xs',r',o',j,B,k _ Z,e2⟩
end
noncomputable def Zfy (P:Program)(w:World)(H:Hp)(a:Addr)(y:V)(o:Option V):Prop:=∃kvs k b,H a=some (dtt P w a kvs)/\KeysTT H kvs/\y=.ref b/\KeyTT H b k/\o=UM kvs k
section
variable {X:Cx}{qQ:List (Addr×Obj)}{σ:St}{H:Hp}{s:Shared}{a:Addr}{y v d:V}{u r:Value}{o:Option V}{A:Around}{E:EX}
theorem VQ {P:Program}{w:World}(j:A.units+71<cLine):(JP P w).room A.in1:=by
 show A.in1.units+70<cLine;rw [Around.in1_units]
 lia
theorem ZcU {Q:EX}(B:A.units+71<cLine)(I:Inv X qQ σ H s)(g:Zfy X.prog X.w H a y o)(D:RelV y u)(h:∀s',Inv X qQ σ H s'->Q (.bool (!o.isSome)) s') :
  wpAny (model X.prog X.w) A (compareOp .NotIn u (.ref a)) Q E s:=by
 obtain ⟨kvs,k,b,e,K,rfl,L,rfl⟩:=g;cases (show u=Value.ref b from D);obtain ⟨z,hd,xs,j,O⟩:=ZK I.hok e K;refine wpAny_notIn_heap (VQ B) (Ww I.hok L) hd O ?_;have q:=(ZL j k).isSome_eq;rw [Option.isSome_map] at q;rw [<-q];exact h _ (I.tok _)
theorem Zei {Q:EX}(L:A.units+71<cLine)(I:Inv X qQ σ H s)(g:Zfy X.prog X.w H a y o)(O:RelV y u)(rd:RelV d r)(h:∀B s',Inv X qQ σ H s'->RelV (o.getD d) B->Q B s') :
  wpAny (model X.prog X.w) A (call (.builtin "dict.get") [.ref a,u,r]) Q E s:=by
 obtain ⟨kvs,k,b,e,K,rfl,U,rfl⟩:=g;cases (show u=Value.ref b from O);obtain ⟨z,hd,xs,j,D⟩:=ZK I.hok e K;exact call_meetsIn PySem.F.slot_dict_get D.typeIs PySem.F.entry_dict_get (PySem.F.args_dict_get_3 _ _ _) (meetsH_dict_get_default (JP X.prog X.w) a b hd r) ⟨VQ L,k,xs,Ww I.hok U,D,h _ _ (I.tok _) ((ZL j k).getD rd)⟩
theorem ZN {kvs:TTs}{k:List (List Int)}{b:Addr}{Q:Unit->Shared->Prop}(L:A.units+71<cLine)(I:Inv X qQ σ H s)(e:H a=some (dtt X.prog X.w a kvs))(K:KeysTT H kvs)(O:KeyTT H b k)(U:UM kvs k=none)(hl:kvs.length<sizeLine)(Y:RelV v r)(h:∀s',Inv X qQ σ (upd H a (dtt X.prog X.w a (kvs++[(k,b,v)]))) s'->Q () s'):wpAny (model X.prog X.w) A (setItem (.ref a) (.ref b) r) Q E s:=by
 obtain ⟨z,hd,xs,j,Z⟩:=ZK I.hok e K;have hz:xs.length<=sizeLine:=by rw [<-Ydi j];exact z
 have D:atKey xs k=none:=Ydg.mp (RelO.none_of (by rw [<-U];exact ZL j k));refine wpAny_setItem_heap (hsz:=hz) (VQ L) (Ww I.hok O) Z λh' B hs=>h _ ?_;rw [storedH_new D] at B;have he:∃q,h'.get? a=some q:=let ⟨q,_,_,hq,_⟩:=B;⟨q,hq⟩;exact OY I (by rw [e];exact True.intro) hs he (ZM (by rw [Yae,Yap];lia) hd (Paired.snoc j ⟨rfl,rfl,Y⟩) B)
end
mutual
inductive Th (H:Hp):V->PyData->Prop
 | non:Th H .non .none
 | bl (b:Bool):Th H (.bl b) (.bool b)
 | int (i:Int):Th H (.int i) (.int i)
 | str (x:Str):Th H (.str x) (.str x)
 | lst {a:Addr} {xs:List V} {ds:List PyData}:H a=some (.lst xs)->xs.length<=1000->Ths H xs ds->Th H (.ref a) (.list ds)
 | tup {a:Addr} {xs:List V} {ds:List PyData}:H a=some (.tup xs)->xs.length<=1000->Ths H xs ds->Th H (.ref a) (.tuple ds)
inductive Ths (H:Hp):List V->List PyData->Prop
 | nil:Ths H [] []
 | cons {x:V} {d:PyData} {xs:List V} {ds:List PyData}:Th H x d->Ths H xs ds->Ths H (x::xs) (d::ds)
end
mutual
theorem Th.same {H H':Hp}(s:Same H H'):∀{v:V}{d:PyData},Th H v d->Th H' v d
 | _,_,.non=>.non
 | _,_,.bl b=>.bl b
 | _,_,.int i=>.int i
 | _,_,.str x=>.str x
 | _,_,.lst e z h=>.lst (s _ _ e) z (Ths.same s h)
 | _,_,.tup e z h=>.tup (s _ _ e) z (Ths.same s h)
theorem Ths.same {H H':Hp}(s:Same H H'):∀{vs:List V}{ds:List PyData},Ths H vs ds->Ths H' vs ds
 | _,_,.nil=>.nil
 | _,_,.cons h t=>.cons (Th.same s h) (Ths.same s t)
end
section
variable {X:Cx}{a:Expr}{ta:TE}{pos:Pos}
theorem Wx (K:W.Frag)(h:X.K=K:=by rfl):Oi X (.type "tuple") (λxs H Q=>∃p ys,xs=[.ref p]/\((SqL K H p ys/\∀l,H l=none->Q (.ref l) (upd H l (.tup ys)))\/(SqT K H p ys/\Q (.ref p) H))):=h▸Vt
end
section
variable {X:Cx}{qQ:List (Addr×Obj)}{σ:St}{H:Hp}{s:Shared}{a:Addr}
theorem Zgc {kvs:TTs}(I:Inv X qQ σ H s)(e:H a=some (dtt X.prog X.w a kvs)):s.TypeIs (.ref a) "dict" /\ ∀b,Value.ref a=.ref b->∃j,s.heap.get? b=some j/\j.dict=none:=by
 obtain ⟨⟨_,_,xs,_,o,es,ep,h1,h2,_⟩,_,_⟩:=(show ObjOk X.prog X.w H s.heap a (dtt X.prog X.w a kvs) from I.hok a _ e);refine ⟨⟨o,h1,h2.1⟩,λb q=>?_⟩;cases q;exact ⟨o,h1,h2.2.1⟩
end
section
variable (P:Program)(w:World)
noncomputable def ZcV (ty td:TE):TE:=λσ H Q=>ty σ H λy H1=>td σ H1 λx H2=>∃a o,x=.ref a/\Zfy P w H2 a y o/\Q (.bl (!o.isSome)) H2
noncomputable def Zgd (td ty tv:TE):TS:=λD σ H=>tv σ H λv H1=>td σ H1 λx H2=>ty σ H2 λy j=>∃a b kvs k,x=.ref a/\y=.ref b/\j a=some (dtt P w a kvs)/\KeysTT j kvs/\KeyTT j b k/\UM kvs k=none/\kvs.length<sizeLine/\D.nx σ (upd j a (dtt P w a (kvs++[(k,b,v)])))
noncomputable def Zej (td ty tx:TE):TE:=λσ H Q=>td σ H λx H1=>∃a kvs,x=.ref a/\H1 a=some (dtt P w a kvs)/\ty σ H1 λy H2=>tx σ H2 λz j=>∃o,Zfy P w j a y o/\Q (o.getD z) j
noncomputable def Zek (tk tv:TE):TE:=λσ H Q=>∀p,H p=none->tk σ (upd H p (.dK [])) λy H1=>tv σ H1 λv H2=>H2 p=some (.dK [])/\∃b k,y=.ref b/\KeyTT H2 b k/\Q (.ref p) (upd H2 p (dtt P w p [(k,b,v)]))
end
section
variable {X:Cx}{P:Program}{w:World}{o i e f value:Expr}{pos pos' apos qK:Pos}{td ty tv tx tk:TE}
theorem ZO (j:X.prog=P)(B:X.w=w)(D:X.A.units+71<cLine)(hi:PE X i ty)(L:PE X o td):PC X .NotIn i o (ZcV P w ty td):=by
 subst j B;intro qQ s σ H Q I h;refine thG (hi qQ s σ H _ I h) λiv O y H1 U Y Z=>thG (L qQ O σ H1 _ U Z) λu s2 x H2 I2 rx ⟨a,ov,ex,g,q2⟩=>?_;subst ex;obtain rfl:u=Value.ref a:=rx;exact ZcU D I2 g Y λs3 I3=>⟨.bl (!ov.isSome),H2,I3,rfl,q2⟩
theorem ZcW (j:X.prog=P)(B:X.w=w)(L:X.A.units+71<cLine)(O:PE X o td)(hi:PE X i ty)(U:PE X value tv)(Y:swapsWith value (some (.Subscript o i pos')) pos.line X.env=pure false) :
  PS X (.Assign [.Subscript o i pos'] value pos) (Zgd P w td ty tv):=by
 subst j B;intro qQ s σ H D I h;refine wpAny_Assign_Subscript (thG (U qQ s σ H _ I h) λr Z v H1 I1 rv q1=>thG (O qQ Z σ H1 _ I1 q1) λu s2 x H2 I2 rx q2=>thG (hi qQ s2 σ H2 _ I2 q2) λiv s3 y H3 I3 ry ⟨a,b,kvs,k,ex,ey,ea,K,kb,hn,hl,q3⟩=>?_) Y;subst ex ey;obtain rfl:u=Value.ref a:=rx;obtain rfl:iv=Value.ref b:=ry;exact ZN L I3 ea K kb hn hl rv λs4 I4=>⟨σ,_,I4,q3⟩
theorem Zbh (D:X.prog=P)(L:X.w=w)(O:X.A.units+71<cLine)(U:PE X o td)(Y:PE X e ty)(Z:PE X f tx)(m:M2 X o "get" apos e f qK):PE X (.Call (.Attribute o "get" apos) [e,f] [] qK) (Zej P w td ty tx):=by
 subst D L;intro qQ s σ H Q I h;refine wpAny_Call_method m.base m.few m.line PySem.F.plainAttrs_dict PySem.F.slot_dict_get PySem.F.type_dict_get (thG (U qQ s σ H _ I h) λu s1 x H1 B rx ⟨a,kvs,ex,ea,q1⟩=>?_);subst ex;obtain rfl:u=Value.ref a:=rx;obtain ⟨t1,t2⟩:=Zgc B ea;refine ⟨t1,t2,?_⟩;rw [m.trees];refine Calls.callWith_builtin rfl (Calls.evalArgs_plain (Calls.spliced_cons (thG (Y qQ s1 σ H1 _ B q1) λiv s2 y H2 I2 ry q2=>
  Calls.spliced_cons (thG (Z qQ s2 σ H2 _ I2 q2) λfv s3 z H3 I3 rz ⟨ov,g,q3⟩=>Calls.spliced_nil ?_))))
 exact Zei O I3 g ry rz λw' s4 I4 j=>⟨_,H3,I4,j,q3⟩
theorem Zbi (Y:X.prog=P)(Z:X.w=w)(hu:X.A.units+71<cLine)(hk:PE X i tk)(hv:PE X value tv):PE X (.Dict [some i] [value] pos) (Zek P w tk tv):=by
 subst Y Z;intro qQ s σ H Q I q;have hn:=I.hok.fresh (Yad s.heap.objs.size);have I1:=I.laid (a:=s.heap.objs.size) (o:=.dK []) (h':=s.heap.push { cls:=.type "dict", data:=.dict #[] }) (t':=s.toks) (λ_ _ q=>Yan _ q) (Yad _) (Xu s.heap I.big);have pp:PPs X pos [some i] [value] [(tk,tv)]:=OB hk hv WS;refine wpAny_Dict_any rfl rfl (by simp) (by simp) (thG (pp qQ _ σ _ (λps H2=>match ps with | [(y,v)]=>H2 s.heap.objs.size=some (.dK [])/\∃b k,y=.ref b/\KeyTT H2 b k/\Q (.ref s.heap.objs.size) (upd H2 s.heap.objs.size (dtt X.prog X.w s.heap.objs.size [(k,b,v)])) | _=>False) I1 (q _ hn)) λws s2 ps H2 D L O=>?_);cases L with
 | nil=>exact O.elim
 | @cons p q ps qs h t=>
  cases t with
  | cons _ _=>exact (show False from O).elim
  | nil=>
   obtain ⟨y,v⟩:=p;obtain ⟨u1,u2⟩:=q;obtain ⟨e,b,k,rfl,kb,q3⟩:=(show H2 s.heap.objs.size=some (.dK [])/\∃b k,y=.ref b/\KeyTT H2 b k/\Q (.ref s.heap.objs.size) (upd H2 s.heap.objs.size (dtt X.prog X.w s.heap.objs.size [(k,b,v)])) from O);obtain ⟨h1,h2⟩:=h;cases (show u1=Value.ref b from h1);obtain ⟨z,hd,aa,r0,o,es,ep,g1,g2,g3,g4,U,g6⟩:=ZcE D.hok e;cases r0;have j:es.toList=[]:=by
    cases j:es.toList with
    | nil=>rfl
    | cons x l=>rw [j] at U;cases U
   have dd:s2.heap.DictOfH (JP X.prog X.w) s.heap.objs.size []:=⟨o,es,ep,g1,g2,g3,j,λx hx=>(by cases hx),Ydm⟩;unfold storeAll;rw [List.forIn_cons];refine Yaa (Yaa (wpAny_dictSet_heap (hsz:=Yao _) (knd:=JP X.prog X.w) (k:=k) (by show X.A.units+70<cLine;lia) (Ww D.hok kb) dd λh' B hs=>Yah ?_));show wpAny _ _ (forIn ([]:List (Value×Value)) PUnit.unit _) _ _ _;rw [List.forIn_nil];refine Yah ⟨.ref s.heap.objs.size,_,?_,rfl,q3⟩;have he:∃q,h'.get? s.heap.objs.size=some q:=let ⟨q,_,_,hq,_⟩:=B;⟨q,hq⟩;exact OY D (by rw [e];exact True.intro) hs he (ZM (by show 1<=sizeLine;rw [Ybi];lia) hd (.cons ⟨rfl,rfl,h2⟩ .nil) B)
end
section
variable {prog:Program}{w:World}{A:Around}{E:EX}{s:Shared}
theorem ZP {j d:Addr}{i ep:Nat}{es:Array DictEntry}{o:Obj}{e:DictEntry}{Q:EX}(D:s.heap.IsKeyIter j d i es.size ep)(Y:s.heap.get? d=some o)(hd:o.data=.dict es ep)(hi:es[i]?=some e)(q:∀h',h'.IsKeyIter j d (i+1) es.size ep->Heap.SameBut j s.heap h'->Q e.key { s with heap:=h' }):wpAny (model prog w) A (Builtin.«dict_keyiterator.__next__» ⟨[.ref j],[]⟩) (λfin s'=>∃v,fin=.done (.ret v)/\Q v s') E s:=by
 obtain ⟨⟨c0,d0,t0,aa⟩,B,L,O⟩:=id D;subst L O;have T:=D.typeIs
 wp_walk using wpAny_fieldsOf B rfl,wpAny_dictEntries Y hd,wpAny_dictEpoch Y hd,Yek T,wpAny_isOneOf_keyiter T
 rw [if_neg (by lia),Int.toNat_natCast,hi]
 wp_walk using Yek T,wpAny_isOneOf_keyiter T,wpAny_setField B rfl
 case hi=>exact (by decide:(0:Nat)+1<4)
 case h=>
  have U:(s.heap.update j (Obj.mapFields (·.setIfInBounds 1 (rawInt ((i:Int)+1))))).IsKeyIter j d (i+1) es.size ep:=by
   exact ⟨_,Heap.get?_update_self _ B rfl,rfl,rfl⟩
  have Z:Heap.SameBut j s.heap (s.heap.update j (Obj.mapFields (·.setIfInBounds 1 (rawInt ((i:Int)+1))))):=Heap.SameBut.update ..;have T1:=U.typeIs (s:={ s with heap:=s.heap.update j (Obj.mapFields (·.setIfInBounds 1 (rawInt ((i:Int)+1)))) });show wpAny _ _ _ _ _ { s with heap:=s.heap.update j (Obj.mapFields (·.setIfInBounds 1 (rawInt ((i:Int)+1)))) };generalize s.heap.update j (Obj.mapFields (·.setIfInBounds 1 (rawInt ((i:Int)+1))))=h1 at U Z T1 ⊢
  wp_walk using wpAny_isOneOf_keyiter T1
  exact ⟨_,rfl,q _ U Z⟩
theorem ZQ {j d:Addr}{i ep:Nat}{es:Array DictEntry}{o:Obj}{Q:EX}(Z:A.handled=none)(B:s.heap.IsKeyIter j d i es.size ep)(U:s.heap.get? d=some o)(hd:o.data=.dict es ep)(hi:es[i]?=none)(q:∀h' e,(∀c o,c≠j->s.heap.get? c=some o->h'.get? c=some o)->(∃o,h'.get? e=some o/\o.cls=.type "StopIteration")->E (.ref e) { s with heap:=h' }):wpAny (model prog w) A (Builtin.«dict_keyiterator.__next__» ⟨[.ref j],[]⟩) (λfin s'=>∃v,fin=.done (.ret v)/\Q v s') E s:=by
 obtain ⟨⟨c0,d0,t0,aa⟩,D,L,O⟩:=id B;subst L O;have T:=B.typeIs
 wp_walk using wpAny_fieldsOf D rfl,wpAny_dictEntries U hd,wpAny_dictEpoch U hd,Yek T,wpAny_isOneOf_keyiter T
 rw [if_neg (by lia),Int.toNat_natCast,hi]
 wp_walk using Yek T,wpAny_setField D rfl
 case hi=>exact (by decide:(0:Nat)<4)
 case h=>
  have Y:Heap.SameBut j s.heap (s.heap.update j (Obj.mapFields (·.setIfInBounds 0 Value.none))):=Heap.SameBut.update ..;show wpAny _ _ _ _ _ { s with heap:=s.heap.update j (Obj.mapFields (·.setIfInBounds 0 Value.none)) };generalize s.heap.update j (Obj.mapFields (·.setIfInBounds 0 Value.none))=h1 at Y ⊢
  wp_walk using wpAny_raiseNew_none Z
  exact q _ _ (λc o n e=>Yan _ (Yan _ (by rw [Y.2 c n];exact e))) ⟨_,Ybj _ rfl,rfl⟩
theorem ZR {B d:Addr}{i ep:Nat}{es:Array DictEntry}{o:Obj}{e:DictEntry}{Q:Option Value->Shared->Prop}(j:s.heap.IsKeyIter B d i es.size ep)(D:s.heap.get? d=some o)(hd:o.data=.dict es ep)(hi:es[i]?=some e)(q:∀h',h'.IsKeyIter B d (i+1) es.size ep->Heap.SameBut B s.heap h'->Q (some e.key) { s with heap:=h' }):wpAny (model prog w) A (pyNext (.ref B)) Q E s:=by
 refine Yaa (wpAny_attempt (wpAny_callSpecial?_slot j.typeIs Yel (wpAny_call_entry Yel j.typeIs F.entry_dict_keyiterator_next (ZP j D hd hi λh' k b=>?_) (F.args_dict_keyiterator_next_1 _))))
 wp_walk
 exact q h' k b
theorem ZS {B d:Addr}{i ep:Nat}{es:Array DictEntry}{o:Obj}{Q:Option Value->Shared->Prop}(D:A.in1.handled=none)(j:s.heap.IsKeyIter B d i es.size ep)(L:s.heap.get? d=some o)(hd:o.data=.dict es ep)(hi:es[i]?=none)(q:∀h',(∀c o,c≠B->s.heap.get? c=some o->h'.get? c=some o)->Q none { s with heap:=h' }):wpAny (model prog w) A (pyNext (.ref B)) Q E s:=by
 refine Yaa (wpAny_attempt (wpAny_callSpecial?_slot j.typeIs Yel (wpAny_call_entry Yel j.typeIs F.entry_dict_keyiterator_next (ZQ D j L hd hi ?_) (F.args_dict_keyiterator_next_1 _))));rintro h' e k ⟨o',O,U⟩;exact Yaa (wpAny_isInstance ⟨o',O,U⟩ isSubtype_stop (Yah (q h' k)))
theorem ZT {d:Addr}{ep:Nat}{es:Array DictEntry}{o:Obj}{Q:EX}(D:(d == sysModules)=false)(j:s.heap.get? d=some o)(B:o.ExactDict)(hd:o.data=.dict es ep)(q:∀h',h'.IsKeyIter s.heap.objs.size d 0 es.size ep->(∀c o,s.heap.get? c=some o->h'.get? c=some o)->Q (.ref s.heap.objs.size) { s with heap:=h' }):wpAny (model prog w) A (pyIter (.ref d)) Q E s:=by
 have T:s.TypeIs (.ref d) "dict" := ⟨o,j,B.1⟩;refine wpAny_pyIter_slot T F.slot_dict_iter (wpAny_call_entry F.slot_dict_iter T F.entry_dict_iter ?_ (F.args_dict_iter_1 _))
 wp_walk using wpAny_notOrdered_dict T,wpAny_dictEntries j hd,wpAny_dictEpoch j hd
 exact ⟨_,rfl, "dict_keyiterator", _,⟨_,Ybj _ rfl,rfl⟩,F.slot_dict_keyiterator_next.lookup,q _ ⟨_,Ybj _ rfl,rfl,rfl⟩ λc o e=>Yan _ e⟩
end
section
variable {X:Cx}
theorem OK {α β:Type}{F:α->β->Prop}{l:List α}{m:List β}(h:Paired F l m):∀{i:Nat}{x:α},l[i]?=some x->∃y,m[i]?=some y/\F x y:=by
 induction h with
 | nil=>intro i x e;simp at e
 | @cons p q _ _ r _ ih=>
  intro i x e;cases i with
  | zero=>simp at e;subst e;exact ⟨q,by simp,r⟩
  | succ i=>simp at e;obtain ⟨y,h1,h2⟩:=ih e;exact ⟨y,by simpa using h1,h2⟩
end
structure GK (P:Program)(w:World)(κ:Type)[DecidableEq κ] where
 knd:HeapKind P w κ
 At:Hp->Addr->κ->Prop
 ok:∀{H:Hp}{h:Heap}{b:Addr}{k:κ},HOk P w H h->At H b k->knd.is h k b
 keep:∀{H H':Hp}{b:Addr}{k:κ},At H b k->(∀p ys,H p=some (.tup ys)->H' p=some (.tup ys))->At H' b k
 room:∀{A:Around},A.units+71<cLine->knd.room A.in1
noncomputable abbrev GKv (κ:Type):=List (κ×Addr×V)
section
variable {P:Program}{w:World}{κ:Type}[DecidableEq κ](G:GK P w κ)
noncomputable def GPr (p:κ×Addr×V)(q:κ×Addr×Value):Prop:=p.1=q.1/\p.2.1=q.2.1/\RelV p.2.2 q.2.2
noncomputable def gd (a:Addr)(kvs:GKv κ):HO:=.ext λh=>kvs.length<=sizeLine/\(a == sysModules)=false/\∃xs:List (κ×Addr×Value),Paired GPr kvs xs/\∃o es ep,h.get? a=some o/\o.ExactDict/\o.data=.dict es ep/\es.toList=xs.map (entryOfKey G.knd)/\(xs.map (·.1)).Nodup
noncomputable def GKeys (H:Hp)(kvs:GKv κ):Prop:=∀p∈kvs,G.At H p.2.1 p.1
noncomputable def OR (kvs:GKv κ)(k:κ):Option V:=(kvs.find? λp=>decide (p.1=k)).map (·.2.2)
end
section
variable {P:Program}{w:World}{κ:Type}[DecidableEq κ]{G:GK P w κ}{H H':Hp}{h:Heap}{a:Addr}{kvs:GKv κ}
theorem GKeys.keep (x:GKeys G H kvs)(t:∀p ys,H p=some (.tup ys)->H' p=some (.tup ys)):GKeys G H' kvs:=λp j=>G.keep (x p j) t
theorem ZU (ok:HOk P w H h)(e:Rd H a (gd G a kvs))(K:GKeys G H kvs):kvs.length<=sizeLine/\(a == sysModules)=false/\∃xs,Paired GPr kvs xs/\h.DictOfH G.knd a xs:=by
 obtain ⟨⟨z,y,xs,r,o,es,ep,h1,h2,B,D,L⟩,_,_⟩:=(show ObjOk P w H h a (gd G a kvs) from e.ok ok);refine ⟨z,y,xs,r,o,es,ep,h1,h2,B,D,λx j=>?_,L⟩;have all:∀{l:GKv κ}{m:List (κ×Addr×Value)},Paired GPr l m->GKeys G H l->∀x∈m,G.knd.is h x.1 x.2.1:=by
  intro l m q
  induction q with
  | nil=>intro _ x j;cases j
  | @cons p q ps qs hq t ih=>
   intro K x j;rcases Yau.mp j with rfl | j
   ·rw [<-hq.1,<-hq.2.1];exact G.ok ok (K p (Yaw ..))
   ·exact ih (λy O=>K y (Ybf _ O)) x j
 exact all r K x j
theorem XF {xs:List (κ×Addr×Value)}(r:Paired GPr kvs xs)(k:κ):RelO (OR kvs k) ((atKey xs k).map (·.2)):=by
 induction r with
 | nil=>exact True.intro
 | @cons p q ps j h t O=>
  obtain ⟨h1,_,h2⟩:=h;by_cases e:p.1=k
  ·have B:q.1=k:=h1.symm.trans e;have D:OR (p::ps) k=some p.2.2:=by simp [OR,Ycg,e]
   have L:atKey (q::j) k=some q.2:=by simp [atKey,Ycg,B]
   rw [D,L];exact h2
  ·have B:¬ q.1=k:=λz=>e (h1.trans z);have D:OR (p::ps) k=OR ps k:=by simp [OR,Ycg,e]
   have L:atKey (q::j) k=atKey j k:=by simp [atKey,Ycg,B]
   rw [D,L];exact O
theorem Zb0 {xs:List (κ×Addr×Value)}(z:kvs.length<=sizeLine)(y:(a == sysModules)=false)(r:Paired GPr kvs xs)(dd:h.DictOfH G.knd a xs):ObjOk P w H' h a (gd G a kvs):=by
 obtain ⟨o,es,ep,h1,h2,D,L,_,O⟩:=dd;refine ⟨⟨z,y,xs,r,o,es,ep,h1,h2,D,L,O⟩,⟨o,h1⟩,λg1 g2 x k=>?_⟩;obtain ⟨U,Y,xs',r',o',j,B,Z,e2⟩:=x;exact ⟨U,Y,xs',r',o',j,B,k _ Z,e2⟩
theorem Zbj (h:Heap)(j:sysModules<h.objs.size):ObjOk P w H (h.push { cls:=.type "dict", data:=.dict #[] }) h.objs.size (gd G h.objs.size ([]:GKv κ)):=by
 have e:(h.push { cls:=.type "dict", data:=.dict #[] }).get? h.objs.size=some { cls:=.type "dict", data:=.dict #[] }:=Ybj _ rfl;refine Zb0 (Yao _) (Ydb.mpr (Nat.ne_of_gt j)) .nil ⟨_,#[],_,e,⟨rfl,rfl,rfl⟩,rfl,rfl,λx B=>(by cases B),Ydm⟩
end
noncomputable def Yx {P:Program}{w:World}{κ:Type}[DecidableEq κ](G:GK P w κ)(H:Hp)(a:Addr)(y:V)(o:Option V):Prop:=∃kvs k b,Rd H a (gd G a kvs)/\GKeys G H kvs/\y=.ref b/\G.At H b k/\o=OR kvs k
section
variable {X:Cx}{κ:Type}[DecidableEq κ]{G:GK X.prog X.w κ}{qQ:List (Addr×Obj)}{σ:St}{H:Hp}{s:Shared}{a:Addr}{y v d:V}{u r:Value}{o:Option V}{A:Around}{E:EX}
theorem ZcX {Q:EX}(B:A.units+71<cLine)(I:Inv X qQ σ H s)(g:Yx G H a y o)(D:RelV y u)(h:∀s',Inv X qQ σ H s'->Q (.bool (!o.isSome)) s') :
  wpAny (model X.prog X.w) A (compareOp .NotIn u (.ref a)) Q E s:=by
 obtain ⟨kvs,k,b,e,K,rfl,L,rfl⟩:=g;cases (show u=Value.ref b from D);obtain ⟨z,hd,xs,j,O⟩:=ZU I.hok e K;refine wpAny_notIn_heap (G.room B) (G.ok I.hok L) hd O ?_;have q:=(XF j k).isSome_eq;rw [Option.isSome_map] at q;rw [<-q];exact h _ (I.tok _)
theorem ZV {Q:EX}(L:A.units+71<cLine)(I:Inv X qQ σ H s)(g:Yx G H a y (some v))(O:RelV y u)(h:∀j s',Inv X qQ σ H s'->RelV v j->Q j s') :
  wpAny (model X.prog X.w) A (getItem (.ref a) u) Q E s:=by
 obtain ⟨kvs,k,b,e,K,rfl,U,Y⟩:=g;cases (show u=Value.ref b from O);obtain ⟨z,hd,xs,B,Z⟩:=ZU I.hok e K;obtain ⟨j,hw,D⟩:=RelO.some_of (v:=v) (o:=(atKey xs k).map (·.2)) (by rw [Y];exact XF B k);obtain ⟨p,hp,rfl⟩:=Ybk.mp hw;exact wpAny_getItem_heap (G.room L) (G.ok I.hok U) Z hp (h _ _ (I.tok _) D)
theorem ZW {kvs:GKv κ}{k:κ}{b:Addr}{Q:Unit->Shared->Prop}(L:A.units+71<cLine)(I:Inv X qQ σ H s)(e:H a=some (gd G a kvs))(K:GKeys G H kvs)(O:G.At H b k)(U:OR kvs k=none)(hl:kvs.length<sizeLine)(Y:RelV v r)(h:∀s',Inv X qQ σ (upd H a (gd G a (kvs++[(k,b,v)]))) s'->Q () s'):wpAny (model X.prog X.w) A (setItem (.ref a) (.ref b) r) Q E s:=by
 obtain ⟨z,hd,xs,j,Z⟩:=ZU I.hok (.inl e) K;have hz:xs.length<=sizeLine:=by rw [<-Ydi j];exact z
 have D:atKey xs k=none:=Ydg.mp (RelO.none_of (by rw [<-U];exact XF j k));refine wpAny_setItem_heap (hsz:=hz) (G.room L) (G.ok I.hok O) Z λh' B hs=>h _ ?_;rw [storedH_new D] at B;have he:∃q,h'.get? a=some q:=let ⟨q,_,_,hq,_⟩:=B;⟨q,hq⟩;exact OY I (by rw [e];exact True.intro) hs he (Zb0 (by rw [Yae,Yap];lia) hd (Paired.snoc j ⟨rfl,rfl,Y⟩) B)
theorem Inv.freezeG {kvs:GKv κ}(I:Inv X qQ σ H s)(e:H a=some (gd G a kvs)):∃o,Inv X qQ σ (upd H a (.frz o (gd G a kvs))) s:=by
 have B:ObjOk X.prog X.w H s.heap a (gd G a kvs):=I.hok a _ e;obtain ⟨⟨_,_,_,_,o,_,_,h1,_⟩,_⟩:=id B;have j:ObjOk X.prog X.w (upd H a (.frz o (gd G a kvs))) s.heap a (gd G a kvs):=B;exact ⟨o,I.write (x:=a) (e:=a) (o:=.frz o (gd G a kvs)) (h':=s.heap) (t':=s.toks) (by rw [e];exact True.intro) (.inl rfl) (λb u _ q=>q) ⟨_,h1⟩ ⟨h1,j⟩⟩
end
section
variable {X:Cx}{κ:Type}[DecidableEq κ]{G:GK X.prog X.w κ}{qQ:List (Addr×Obj)}{σ:St}{H:Hp}{s:Shared}{a:Addr}
theorem ZX {y:V}{o:Option V}(I:Inv X qQ σ H s)(g:Yx G H a y o):s.TypeIs (.ref a) "dict" /\ ∀b,Value.ref a=.ref b->∃j,s.heap.get? b=some j/\j.dict=none:=by
 obtain ⟨kvs,k,b,e,K,_,_,_⟩:=g;obtain ⟨_,_,xs,_,B⟩:=ZU I.hok e K;refine ⟨B.typeIs,λb q=>?_⟩;cases q;obtain ⟨j,_,_,h1,h2,_⟩:=B;exact ⟨j,h1,h2.2.1⟩
end
section
variable {P:Program}{w:World}{κ:Type}[DecidableEq κ](G:GK P w κ)
noncomputable def Zge:TE:=λ_ H Q=>∀p,H p=none->Q (.ref p) (upd H p (gd G p ([]:GKv κ)))
noncomputable def ZcY (ty td:TE):TE:=λσ H Q=>ty σ H λy H1=>td σ H1 λx H2=>∃a o,x=.ref a/\Yx G H2 a y o/\Q (.bl (!o.isSome)) H2
noncomputable def ZgP (td ty:TE):TE:=λσ H Q=>td σ H λx H1=>ty σ H1 λy H2=>∃a v,x=.ref a/\Yx G H2 a y (some v)/\Q v H2
noncomputable def Zgf (td ty tv:TE):TS:=λD σ H=>tv σ H λv H1=>td σ H1 λx H2=>ty σ H2 λy j=>∃a b kvs k,x=.ref a/\y=.ref b/\j a=some (gd G a kvs)/\GKeys G j kvs/\G.At j b k/\OR kvs k=none/\kvs.length<sizeLine/\D.nx σ (upd j a (gd G a (kvs++[(k,b,v)])))
end
section
variable {X:Cx}{κ:Type}[DecidableEq κ]{G:GK X.prog X.w κ}{o i e f value:Expr}{pos pos' apos qK:Pos}{td ty tv tx:TE}
theorem ZY:PE X (.Dict [] [] pos) (Zge G):=λqQ s σ H Q I h=>
 wpAny_Dict_empty ⟨.ref s.heap.objs.size,_,I.laid (a:=s.heap.objs.size) (o:=gd G s.heap.objs.size ([]:GKv κ)) (t':=s.toks) (λ_ _ q=>Yan _ q) (Yad _) (Zbj s.heap I.big),rfl,h _ (I.hok.fresh (Yad _))⟩
theorem ZZ (j:X.A.units+71<cLine)(hi:PE X i ty)(B:PE X o td):PC X .NotIn i o (ZcY G ty td):=by
 intro qQ s σ H Q I h;refine thG (hi qQ s σ H _ I h) λiv D y H1 L O U=>thG (B qQ D σ H1 _ L U) λu s2 x H2 Y Z ⟨a,ov,ex,g,q2⟩=>?_;subst ex;obtain rfl:u=Value.ref a:=Z;exact ZcX j Y g O λs3 I3=>⟨.bl (!ov.isSome),H2,I3,rfl,q2⟩
theorem OL (D:X.A.units+71<cLine)(L:PE X o td)(hi:PE X i ty)(O:Zfv i):PE X (.Subscript o i pos) (ZgP G td ty):=by
 intro qQ s σ H Q I h;refine Zo PySem.F.slot_dict_getitem.lookup O (thG (L qQ s σ H _ I h) λu U x H1 Y Z q1=>thG (hi qQ U σ H1 _ Y q1) λiv s2 y H2 B ry ⟨a,v,ex,g,q2⟩=>?_);subst ex;obtain rfl:u=Value.ref a:=Z;exact ⟨(ZX B g).1,ZV D B g ry λw' s3 I3 j=>⟨v,H2,I3,j,q2⟩⟩
theorem W6 (j:X.A.units+71<cLine)(B:PE X o td)(hi:PE X i ty)(L:PE X value tv)(O:swapsWith value (some (.Subscript o i pos')) pos.line X.env=pure false) :
  PS X (.Assign [.Subscript o i pos'] value pos) (Zgf G td ty tv):=by
 intro qQ s σ H D I h;refine wpAny_Assign_Subscript (thG (L qQ s σ H _ I h) λr U v H1 Y Z q1=>thG (B qQ U σ H1 _ Y q1) λu s2 x H2 I2 rx q2=>thG (hi qQ s2 σ H2 _ I2 q2) λiv s3 y H3 I3 ry ⟨a,b,kvs,k,ex,ey,ea,K,kb,hn,hl,q3⟩=>?_) O;subst ex ey;obtain rfl:u=Value.ref a:=rx;obtain rfl:iv=Value.ref b:=ry;exact ZW j I3 ea K kb hn hl Z λs4 I4=>⟨σ,_,I4,q3⟩
end
section
variable {X:Cx}{κ:Type}[DecidableEq κ]
noncomputable def ItG {P:Program}{w:World}(G:GK P w κ)(a:Addr)(o:Obj)(kvs:GKv κ):It:=
 ⟨λi H=>H a=some (.frz o (gd G a kvs))/\i<kvs.length,λi H x H'=>H'=H/\∃k b v,kvs[i]?=some (k,b,v)/\x=.ref b,λi H=>H a=some (.frz o (gd G a kvs))/\kvs.length<=i⟩
theorem VR {G:GK X.prog X.w κ}{qQ:List (Addr×Obj)}{σ:St}{H:Hp}{s:Shared}{a:Addr}{o:Obj}{kvs:GKv κ}(I:Inv X qQ σ H s)(e:H a=some (.frz o (gd G a kvs))) :
  (a == sysModules)=false/\s.heap.get? a=some o/\o.ExactDict/\∃es ep,o.data=.dict es ep/\es.size=kvs.length/\∀(i:Nat) k b v,kvs[i]?=some (k,b,v)->∃j:DictEntry,es[i]?=some j/\j.key=.ref b:=by
 obtain ⟨h1,⟨z,hd,xs,r,o',es,ep,h2,D,L,B,h6⟩,_⟩:=(show ObjOk X.prog X.w H s.heap a (.frz o (gd G a kvs)) from I.hok a _ e);rw [h1] at h2;cases h2;refine ⟨hd,h1,D,es,ep,L,?_,λi k b v hi=>?_⟩
 ·rw [<-Ybd,B,Yab,Ydi r]
 ·obtain ⟨⟨O,U,u⟩,Y,e1,Z,_⟩:=OK r hi;refine ⟨entryOfKey G.knd (O,U,u),?_,?_⟩
  ·rw [<-Ybw,B,Ybb,Y]
   rfl
  ·exact Ybh Value.ref Z.symm
theorem Yy {P:Program}{w:World}{G:GK P w κ}{K:W.Frag}{tg:Expr}(a it:Addr)(o:Obj)(kvs:GKv κ)(es:Array DictEntry)(ep:Nat)(ho:o.data=.dict es ep)(hsz:es.size=kvs.length) :
  Zdx P w K tg (ItG G a o kvs) [it] it (λi h=>h.IsKeyIter it a i es.size ep) where
 mem:=by simp
 obj:=λi h st b hb=>by
  have e:b=it:=by simpa using hb
  subst e;obtain ⟨o,e,c,d⟩:=st;exact ⟨o,e,λv z=>by rw [d] at z;cases z⟩
 keep:=λi h h' st k=>by
  obtain ⟨o,e,c,d⟩:=st;exact ⟨o,k it (by simp) o e,c,d⟩
 item:=by
  intro X hP hw hK hc i qQ s σ H E I hf st hg;subst hP hw hK;obtain ⟨hq,hi⟩:=hg;obtain ⟨hd,h1,h2,es',ep',h3,h4,h5⟩:=VR I hq;rw [ho] at h3;cases h3;obtain ⟨⟨k,b,v⟩,hx⟩:∃x,kvs[i]?=some x:=⟨_,Yaz hi⟩;obtain ⟨de,hde,hkey⟩:=h5 i k b v hx;obtain ⟨f0,f1,f2,f3,f4,f5⟩:=hf it (by simp);refine ZR st h1 ho hde λh' st' sb=>?_;have I1:Inv X qQ σ H { s with heap:=h' }:=I.turned (t':=s.toks) (λb o hb e=>(sb.2 b hb).trans e) f0 f1 f3 f4 f5;obtain ⟨o',e,c,d⟩:=id st';exact ⟨de.key,rfl,Zcj (s:={ s with heap:=h' }) e c d (by decide) ⟨.ref b,H,I1,hkey,⟨rfl,k,b,v,hx,rfl⟩,st',λb hb=>(hf b hb).1⟩⟩
 done:=by
  intro X hP hw hK hc i qQ s σ H E I hf st hg;subst hP hw hK;obtain ⟨hq,hi⟩:=hg;obtain ⟨hd,h1,h2,es',ep',h3,h4,h5⟩:=VR I hq;rw [ho] at h3;cases h3;obtain ⟨f0,f1,f2,f3,f4,f5⟩:=hf it (by simp);exact ZS (I.ok.hd hc) st h1 ho (Array.getElem?_eq_none (by lia)) λh' eb=>⟨rfl,I.turned (t':=s.toks) (λb o hb e=>eb b o hb e) f0 f1 f3 f4 f5⟩
 self:=λ_ _ _ _ _ st h=>wpAny_pyIter_keyiter st h
noncomputable def Zel {P:Program}{w:World}(G:GK P w κ)(tl:TE):TI:=λσ H R=>tl σ H λx H1=>∃a kvs,x=.ref a/\((H1 a=some (gd G a kvs)/\∀o,R (ItG G a o kvs) (upd H1 a (.frz o (gd G a kvs))))\/∃o,H1 a=some (.frz o (gd G a kvs))/\R (ItG G a o kvs) H1)
theorem XG {G:GK X.prog X.w κ}{tg l:Expr}{tl:TE}(O:PE X l tl):PI X tg l (Zel G tl):=by
 intro qQ s σ H R I h;refine thG (O qQ s σ H _ I h) λv B x H1 D U Y=>?_;obtain ⟨a,kvs,e,q⟩:=Y;subst e;cases U;obtain ⟨o,H2,j,Z,q2⟩:∃o H2,Inv X qQ σ H2 B/\H2 a=some (.frz o (gd G a kvs))/\R (ItG G a o kvs) H2:=by
  rcases q with ⟨e,q⟩ | ⟨o,e,q⟩
  ·obtain ⟨o,j⟩:=D.freezeG e;exact ⟨o,_,j,Gb,q o⟩
  ·exact ⟨o,H1,D,e,q⟩
 obtain ⟨hd,h1,h2,es,ep,L,h4,h5⟩:=VR j Z;refine ZT hd h1 h2 L λh' st kp=>?_;refine ⟨B.heap.objs.size,[B.heap.objs.size],_,_,H2,rfl,j.kept (t':=B.toks) kp,Yy a _ o kvs es ep L h4,st,λb hb=>?_,q2⟩;have e:b=B.heap.objs.size:=by simpa using hb
 subst e;exact j.fpOk (Yad _) (j.hok.fresh (Yad _))
theorem Z0 {P:Program}{w:World}{G:GK P w κ}{a:Addr}{o:Obj}{kvs:GKv κ}{g:TG}{tb:TS}{D:YH}{σ:St}{H:Hp}(j:Nat->St->Hp->Prop)(h0:j 0 σ H)(B:∀i σ H,i<=kvs.length->j i σ H->H a=some (.frz o (gd G a kvs)))(L:∀i k b v σ H,kvs[i]?=some (k,b,v)->j i σ H->g (.ref b) σ H λO H2=>tb { D with nx:=j (i+1),ct:=j (i+1),bk:=D.nx } O H2)(hd:∀ σ H,j kvs.length σ H->D.nx σ H) :
  YR (ItG G a o kvs) g tb D σ H:=Vn j h0 (λi s H hi p=>⟨λz=>⟨B i s H hi p,z⟩,λe=>⟨B i s H hi p,Nat.le_of_eq e.symm⟩⟩) (λi s H x H' z p y=>by obtain ⟨rfl,k,b,v,U,rfl⟩:=y;exact L i k b v s _ U p) hd
theorem Yz {P:Program}{w:World}{G:GK P w κ}{a D:Addr}{o:Obj}{kvs:GKv κ}{g:TG}{tc:TT}{te:TE}{B:St}{R:Hp->Prop}{H1:Hp}(j:Nat->List V->Hp->Prop)(h0:j 0 [] (upd H1 D (.lst [])))(O:∀i ys H,i<=kvs.length->j i ys H->H a=some (.frz o (gd G a kvs)))(Z:∀i k b v ys H,kvs[i]?=some (k,b,v)->j i ys H->g (.ref b) B H λL H4=>O8 B L/\tc L H4 λc U=>if c=true then te L U λy Y=>Y D=some (.lst ys)/\ys.length<sizeLine/\j (i+1) (ys++[y]) (upd Y D (.lst (ys++[y]))) else j (i+1) ys U)(hd:∀ys H,j kvs.length ys H->R H):Xm (ItG G a o kvs) D g tc te B R H1:=Vu j h0 (λi s H hi p=>⟨λz=>⟨O i s H hi p,z⟩,λe=>⟨O i s H hi p,Nat.le_of_eq e.symm⟩⟩) (λi s H x H' z p y=>by obtain ⟨rfl,k,b,v,ek,rfl⟩:=y;exact Z i k b v s _ ek p) hd
end
section
variable {X:Cx}
noncomputable def Zem (i:Nat)(f:Addr)(sp:Sp)(dvs:List V)(E:XK)(t:TA):TE:=λσ H Q=>σ[i]?=some (some (.ref f))/\Zcp sp dvs E t σ H Q
theorem Zbk {CX:CXT}{k i:Nat}{f:Addr}{fd:FuncData}{ps:List Str}{sp:Sp}{ds:List Value}{dvs:List V}{E:XK}{x:Str}{e:Expr}{es:List Expr}{t:TA}{p pos:Pos}(F:FnOk X.prog X.w X.K X.mg X.base CX k f fd ps sp)(L:Room k X.A)(O:PE X (.Name x p) (Zfr i))(U:W.keepIn X.K (.ref f)=true)(Y:Binds X.K fd ps ds)(hd:Vals dvs ds)(Z:Ol CX X E)(ha:PA X (e::es) t)(he:starEach (e::es) X.env=(false,eval e X.env)::starEach es X.env:=by rfl)(j:(backTo pos (starEach es X.env)).any (·.1)=false:=by rfl):PE X (.Call (.Name x p) (e::es) [] pos) (Zem i f sp dvs E t):=by
 intro qQ s σ H Q I h;refine Ydl (thG (O qQ s σ H (λv H'=>v=.ref f/\H'=H) I ⟨_,h.1,rfl,rfl⟩) λu s1 v H1 B r1 ⟨ev,eH⟩=>?_);subst ev eH;obtain rfl:u=Value.ref f:=r1;refine W.callWith_K (h₀:=X.base) B.ok.mod.kin U (thG (ha pos qQ s1 σ H1 _ B h.2) λus s2 vs H2 D r q=>⟨D.kIn,?_⟩) he j;exact V6 F L Y hd Z D r q
end
section
variable {prog:Program}{w:World}{A:Around}{E:EX}{s:Shared}
theorem UR {r q:Addr}{vs:List Value}{kz:List Int}{J:Shared->Prop}{Q:EX}(hv:s.heap.IsList r vs.toArray)(hz:vs.length<=sizeLine)(hl:kz.length=vs.length)(hJ:∀h' tk,(∀c o,s.heap.get? c=some o->h'.get? c=some o)->J { s with heap:=h',toks:=tk })(put:∀(B:Shared)(c:Addr)(f:Obj->Obj),s.heap.objs.size<=c->J B->J { B with heap:=B.heap.update c f })(O:∀(i:Nat)(v:Value)(k:Int)(B:Shared)(R:EX)(E':EX),vs[i]?=some v->kz[i]?=some k->J B ->
   (∀t D,J D->B.heap.objs.size<=D.heap.objs.size->(∀c o,s.heap.objs.size<=c->B.heap.get? c=some o->D.heap.get? c=some o)->R (.int k t) D)->wpAny (model prog w) A.in1.in1 (call (.ref q) [v]) R E' B)(fin:∀(D:Shared)(l:Addr)(out:Array Value)(c:Nat),J D->s.heap.objs.size<=l->D.heap.get? l=some (seqObj "list" out c)->Zga kz vs out.toList->Q (.ref l) D) :
  wpAny (model prog w) A (call (.builtin "sorted") [.ref r] [(Str.ofString "key", .ref q),(Str.ofString "reverse", .bool true)]) Q E s:=by
 have aa:=Ybi;refine call_function_entry_kw kind_sorted plain_sorted entry_sorted (ksk_s2 _ _ _) ?_;unfold Builtin.sorted;refine Yaa (Yah ?_);refine Yaa (collect_list hv ?_ hz);generalize hh1:(s.heap.push (seqObj "list" #[] 0)).update s.heap.objs.size (Obj.mapSeq λx=>x++vs.toArray)=h1;have sz:s.heap.objs.size<=h1.objs.size:=by rw [<-hh1,Heap.size_update,Ycx];exact Ydd _
 have k1:∀c o,s.heap.get? c=some o->h1.get? c=some o:=λc o e=>by
  rw [<-hh1];exact JN (Yay (Yal e)) (Yan _ e)
 refine Yaa (wpAny_newList ?_ hz);have k2:∀c o,s.heap.get? c=some o->(h1.push { cls:=Value.type "list", data:=Data.seq vs.toArray }).get? c=some o:=λc o e=>Yan _ (k1 c o e);have U:(h1.push { cls:=Value.type "list", data:=Data.seq vs.toArray }).get? h1.objs.size=some (seqObj "list" vs.toArray 0):=Ybj _ rfl;have zz:(h1.push { cls:=Value.type "list", data:=Data.seq vs.toArray }).objs.size=h1.objs.size+1:=Ycx ..;show wpAny _ _ _ _ _ { s with heap:=h1.push { cls:=Value.type "list", data:=Data.seq vs.toArray } };have L:∀h':Heap,(∀c o,s.heap.get? c=some o->h'.get? c=some o)->J { s with heap:=h' }:=λh' k=>hJ h' s.toks k;generalize h1.push { cls:=Value.type "list", data:=Data.seq vs.toArray }=h2 at k2 U zz ⊢;refine Yaa (Ydc (wpAny_call_entry_kw (s:={ s with heap:=h2 }) slot_list_sort ⟨_,U,rfl⟩ entry_list_sort ?_ (ksk_l2 _ _ _)));refine VN (s:={ s with heap:=h2 }) (J:=λB=>J B) U hz hl ⟨λB c f Y j=>put B c f (by rcases Y with rfl | rfl;exact sz;show _<=h2.objs.size+1;lia) j⟩ ?_ ?_ ?_
 ·refine L _ λc o e=>Yan _ (Yan _ ((Ydx _ _ ?_).trans (k2 c o e)));exact Nat.ne_of_gt (Yax (Yal e) sz)
 ·intro i v k B R E' Z hk j _ hR;exact O i v k B R E' Z hk j λt D j2 l2 kp=>hR t D j2 l2 λc o Y e=>kp c o (by rcases Y with rfl | rfl;exact sz;show _<=h2.objs.size+1;lia) e
 ·intro D out c j e F;exact ⟨.none,rfl,Yah ⟨_,rfl,fin D _ out c j sz e F⟩⟩
end
section
variable {X:Cx}
theorem XH:∀{bs:List Addr}{us:List Value}{i:Nat}{v:Value},Vals (bs.map V.ref) us->us[i]?=some v->∃b,bs[i]?=some b/\v=.ref b
 | [],_,i,v,h,e=>by cases h;simp at e
 | b::bs,_,0,v,h,e=>by
  cases h with
  | cons r t=>cases r;simp at e;exact ⟨b,rfl,e.symm⟩
 | b::bs,_,i+1,v,h,e=>by
  cases h with
  | cons r t=>obtain ⟨c,h1,h2⟩:=XH (i:=i) t (by simpa using e);exact ⟨c,by simpa using h1,h2⟩
theorem Z1:∀{bs:List Addr}{us:List Value},Vals (bs.map V.ref) us->us=bs.map Value.ref
 | [],_,h=>by cases h;rfl
 | b::bs,_,h=>by
  cases h with
  | cons r t=>cases r;rw [Z1 t];rfl
theorem Ua:∀bs:List Addr,Vals (bs.map V.ref) (bs.map Value.ref)
 | []=>.nil
 | b::bs=>.cons rfl (Ua bs)
theorem YA {κ:Type}[DecidableEq κ]{G:GK X.prog X.w κ}{qQ:List (Addr×Obj)}{σ:St}{H:Hp}{s:Shared}{a:Addr}{y v:V}{u:Value}{A:Around}{E:EX}{Q:EX}(L:A.units+71<cLine)(I:Inv X qQ σ H s)(g:Yx G H a y (some v))(O:RelV y u)(h:∀j tk,RelV v j->Q j { s with toks:=tk }) :
  wpAny (model X.prog X.w) A (getItem (.ref a) u) Q E s:=by
 obtain ⟨kvs,k,b,e,K,rfl,U,Y⟩:=g;cases (show u=Value.ref b from O);obtain ⟨z,hd,xs,B,Z⟩:=ZU I.hok e K;obtain ⟨j,hw,D⟩:=RelO.some_of (v:=v) (o:=(atKey xs k).map (·.2)) (by rw [Y];exact XF B k);obtain ⟨p,hp,rfl⟩:=Ybk.mp hw;exact wpAny_getItem_heap (G.room L) (G.ok I.hok U) Z hp (h _ _ D)
noncomputable def Zen {P:Program}{w:World}{κ:Type}[DecidableEq κ](G:GK P w κ)(K:W.Frag)(j:Nat)(qual:Str)(params:Arguments)(body:Expr)(scope:Scope)(clos:List (Str×Addr))(pm:Value):St->List V->List V->Hp->VK->Prop:=λσ xs zs H Q=>
 ∃(r f c nd:Addr)(oc:Obj)(ctv:Value)(ts:List (Addr×Int)),xs=[.ref r]/\zs=[.ref f,.bl true]/\SqL K H r (ts.map λt=>V.ref t.1) /\
  H f=some (.frz (W.kla_obj "<lambda>" qual params body scope clos pm c ctv) (.own f))/\H c=some (.frz oc (.own c))/\Zbe qual oc/\σ[j]?=some (some (.ref nd)) /\
  (∀t∈ts,∃(b:Addr)(ys:List V),Yx G H nd (.ref t.1) (some (.ref b))/\SqT K H b (V.int t.2::ys)) /\
  ∀(l:Addr)(ps:List (Addr×Int)),H l=none->ps.Perm ts->ps.Pairwise (λp q=>q.2<=p.2)->Q (.ref l) (upd H l (.lst (ps.map λt=>V.ref t.1)))
theorem YB {κ:Type}[DecidableEq κ]{G:GK X.prog X.w κ}{K:W.Frag}{j:Nat}{x y:Str}{qual:Str}{params:Arguments}{scope:Scope}{pm:Value}{cc:Addr}{p1 p2 p5 p6 p7:Pos}{d2:Nat}(hK:X.K=K)(qG:X.A.in1.in1.depth<recursionLimit)(hu:X.A.units+80<cLine)(hN:X.N[j]?=some y)(hv:Vis X.env.scope y)(ai:X.env.kindOf y=some .cell)(aj:X.env.cells.lookup y=some cc)(ak:scope.isCoroutine=false)(Z:scope.isGenerator=false)(hk:scope.kind=.function)(U:∀(c:Addr)(ctv arg:Value),bindArgs (W.kla_fn "<lambda>" qual params (.Subscript (.Subscript (.Name y p1) (.Name x p2) p5) (.Constant (.int 0) d2 p6) p7) scope [(y,cc)] pm (.ref c) ctv) ⟨[arg],[]⟩=pure [(x,arg)])(aa:scope.names.lookup x=some .local)(am:scope.names.lookup y=some .free)(jJ:∀z∈scope.names,z.2≠.cell)(an:(x == ("__debug__" : Str))=false)(ao:(y == ("__debug__" : Str))=false)(ap:(y == ("__classdict__" : Str))=false)(qQ:List (Addr×Obj))(s:Shared)(σ:St)(H:Hp)(xs:List V)(us:List Value)(zs:List V)(ws:List Value)(Q:VK)(I:Inv X qQ σ H s)(rx:Vals xs us)(rz:Vals zs ws)(h:Zen G K j qual params (.Subscript (.Subscript (.Name y p1) (.Name x p2) p5) (.Constant (.int 0) d2 p6) p7) scope [(y,cc)] pm σ xs zs H Q) :
  wpAny (model X.prog X.w) X.A (call (.builtin "sorted") us (([Str.ofString "key", Str.ofString "reverse"]:List Str).zip ws)) (EP X qQ σ Q) X.xe s:=by
 subst hK;obtain ⟨r,f,c,nd,oc,ctv,ts,rfl,rfl,er,ef,ec,⟨aq,tq,ar,as⟩,eσ,ht,q⟩:=h;obtain ⟨u,rfl,ru⟩:=rx.one;cases ru;obtain ⟨u1,u2,rfl,au,av⟩:=rz.two;cases au;cases av;obtain ⟨its,rv,pl,hz⟩:=I.list er;have qV:=rv.length;rw [Yab] at qV hz;have a4:=Ybi.symm;have ab:Vals ((ts.map Prod.fst).map V.ref) its:=by rw [Ycw];exact rv
 have B:∀(h1:Heap)(tk:Nat),(∀b o,s.heap.get? b=some o->h1.get? b=some o)->Inv X qQ σ H { s with heap:=h1,toks:=tk }:=λh1 tk k=>I.kept (t':=tk) k;show wpAny (model X.prog X.w) X.A (call (.builtin "sorted") [.ref r] [(Str.ofString "key", .ref f),(Str.ofString "reverse", .bool true)]) (EP X qQ σ Q) X.xe s;refine UR (kz:=ts.map (·.2)) (vs:=its) (J:=λs1=>∃h1 tk,s1={ s with heap:=h1,toks:=tk }/\∀b o,s.heap.get? b=some o->h1.get? b=some o) pl.isList (by lia) (by rw [Yab];exact qV)
  (λh1 tk k=>⟨h1,tk,rfl,k⟩) ?_ ?_ ?_
 ·rintro s1 d g hd ⟨h1,tk,rfl,k⟩;exact ⟨_,tk,rfl,λb o e=>(Ydx _ _ (Nat.ne_of_gt (Yax (Yal e) hd))).trans (k b o e)⟩
 ·rintro i v k s1 R E' aw ac ⟨h1,tk,rfl,Y⟩ hR;have I1:=B h1 tk Y;obtain ⟨D,ad,rfl⟩:∃D,ts[i]?=some D/\D.2=k:=by
   rw [Ybb] at ac;obtain ⟨D,h1,h2⟩:=Ybk.mp ac;exact ⟨D,h1,h2⟩
  obtain ⟨b0,ae,rfl⟩:=XH ab aw;have ax:b0=D.1:=by
   rw [Ybb,ad] at ae;exact (Ybo ae).symm
  subst ax;have of:h1.get? f=some (W.kla_obj "<lambda>" qual params (.Subscript (.Subscript (.Name y p1) (.Name x p2) p5) (.Constant (.int 0) d2 p6) p7) scope [(y,cc)] pm c ctv):=(I1.hok f _ ef).1;have ay:h1.get? c=some oc:=(I1.hok c _ ec).1;refine Zbd (s:={ s with heap:=h1,toks:=tk }) (x:=x) qG of ⟨c,oc,aq,tq,rfl,ay,ar,as⟩ (I1.ok.mod.nolimit.keeps I1.bk) ak Z hk (U _ _ _) aa jJ λh2 L k2 sz az=>?_;have I2:Inv X qQ σ H { s with heap:=h2,toks:=tk+1 }:=B h2 (tk+1) λb o e=>k2 b o (Y b o e);obtain ⟨m,hm,lk⟩:=I2.loc;obtain ⟨u,ru,lu⟩:=lk j y _ hN eσ hv;cases ru;have a1:h2.IsCell cc (some (.ref nd)):=by
   rcases lu with ⟨z,_⟩ | ⟨_,c2,z1,z2⟩
   ·rw [ai] at z;cases z
   ·rw [aj] at z1;cases z1;exact z2
  obtain ⟨b,ys,gg,hb⟩:=ht D (Yat ad);refine Subscript_ (Subscript_ (wpAny_Name (wpAny_loadName_free hk am (by simp) a1 ?_ ap) ao));refine wpAny_Name (wpAny_loadName_local hk aa az (show (λz=>[(x,Value.ref D.1)].reverse.lookup z) x=some (.ref D.1) by simp) ?_) an;refine tail_any (ops:=[.ref nd,.ref D.1]) (ZX I2 gg).1 PySem.F.slot_dict_getitem.lookup (YA (s:={ s with heap:=h2,toks:=tk+1 }) (by show X.A.units+1+1+3+71<cLine;lia) I2 gg rfl λw' af a2=>?_) rfl;obtain rfl:w'=Value.ref b:=a2;have I3:Inv X qQ σ H { s with heap:=h2,toks:=af }:=B h2 af λb o e=>k2 b o (Y b o e);obtain ⟨O,ag,ah,a3⟩:=I3.tuple hb;obtain ⟨uk,gk,rk⟩:=ag.get (show (V.int D.2::ys)[0]?=some (V.int D.2) from rfl);obtain ⟨tu,rfl⟩:=rk;have a5:0<O.length:=(Yaj.mp gk).1;have a6:O.length<=sizeLine:=by rw [<-ag.length];exact a3
  refine wpAny_Constant_int ?_;exact subscriptTail_builtinR (x:=.int D.2 tu) ah.typeIs slot_tuple_getitem.lookup (getItem_tuple (j:=0) (Q:=λr s'=>r=.int D.2 tu/\R r s') ah (by decide) (by decide) (by rw [Yas,seqIndex_of (by lia) (by lia)];rfl) (by simpa using gk) ⟨rfl,hR tu _ ⟨h2,_,rfl,λb o e=>k2 b o (Y b o e)⟩ sz λb o _ e=>k2 b o e⟩) rfl
 ·rintro s2 l out cn ⟨h1,tk,rfl,Y⟩ hl eL ⟨ps,pm,po,pw⟩;have ei:=Z1 ab;have ez:(ts.map (·.2)).zip its=ts.map λt=>(t.2,Value.ref t.1):=by
   rw [ei,Ycw,List.zip_map']
   rfl
  rw [ez] at pm;obtain ⟨qs,q1,rfl⟩:=UD pm;have eo:out.toList=(qs.map Prod.fst).map Value.ref:=by
   rw [po,Ycw,Ycw]
   rfl
  rw [Yct] at pw;have a7:=q1.length_eq;refine ⟨.ref l,_,I.laid (a:=l) (o:=.lst (qs.map λt=>V.ref t.1)) (h':=h1) (t':=tk) Y hl ⟨by rw [Yab];lia,out.toList,cn,?_,by simpa [seqObj] using eL⟩,rfl,q l qs (I.hok.fresh hl) q1 pw⟩;rw [eo];have:=Ua (qs.map Prod.fst);rw [Ycw] at this;exact this
end
noncomputable def Zb1 (j:List Addr)(H:Hp):Prop:=∀b,b ∉ j->H b=none\/∃o xs,H b=some (.frz o (.lst xs))
theorem YC {Pr:Program}{w:World}{K:W.Frag}{mg mb:Str->Option Value}{CX:CXT}{k:Nat}{fa a:Addr}{cs:List (Addr×Addr)}{fd:FuncData}{x:Str}{sp:Sp}{j:Shared}{vs:List Value}{ns:List Int}(KX:K.In j.heap)(af:j.heap.Ns mainGlobals mg)(D:j.heap.Ns builtinsNs mb)(as:∀x:Str,x ≠ "__name__" -> mb x=bootBuiltins x)(ag:j.heap.NoLimit)(hg:j.gens=#[])(C:∀t∈cs,W.CodeHd j.heap t.1 t.2)(hP:∀t∈cs,j.heap.get? t.2=some (W.tabObj #[]))(au:∀t∈cs,K.lookup t.2=none)(hB:∀t∈cs,j.heap.BuiltinsAt mg t.2)(ha:j.heap.get? a=some { cls:=.type "list", data:=.seq vs.toArray })(hi:IntsAre vs ns)(hl:ns.length<=sizeLine)(hr:Room k callerA)(F:∀base:Heap,K.In base->base.Ns mainGlobals mg->(∀t∈cs,W.CodeHd base t.1 t.2/\base.BuiltinsAt mg t.2)->FnOk Pr w K mg base CX k fa fd [x] sp)(ad:∀(s:Shared)(u:Value),BindsTo s fd ⟨[u],[]⟩ [(x,u)])(av:∀H:Hp,Zb1 (cs.map (·.2)) H->(∀t∈cs,H t.2=some (.tbl #[]))->SqL K H a (ns.map V.int)->sp [.ref a] H (λv _=>v=.bl true) λ_ _ _=>False)(aw:∀H e s',CX [] H j (λ_ _ _=>False) e s'->False) :
  codeAny (model Pr w) callerA (.call (.ref fa) ⟨[.ref a],[]⟩) (λr s'=>r=.ok (.ret (.bool true))/\OldK j.heap s'.heap/\s'.os=j.os/\AllBare s'.gens) j:=by
 have rv:=Wg hi;have ah:=hi.length;have Y:∀b,b∈cs.map (·.2)->∃t∈cs,t.2=b:=λb D=>by
  obtain ⟨t,L,e⟩:=Yam.mp D;exact ⟨t,L,e⟩
 have Z:∀b,b∈cs.map (·.2)->j.heap.get? b=some (W.tabObj #[]):=λb D=>by
  obtain ⟨t,L,rfl⟩:=Y b D;exact hP t L
 have ai:a ∉ cs.map (·.2):=λz=>by have:=Z a z;rw [ha] at this;cases this
 have ab:∀H:Hp,Zb1 (cs.map (·.2)) H->(∀t∈cs,H t.2=some (.tbl #[]))->SqL K H a (ns.map V.int)->HOk Pr w H j.heap->(∀b,H b≠none->b=a\/b∈cs.map (·.2))->(H a≠none->K.lookup a=none) ->
   codeAny (model Pr w) callerA (.call (.ref fa) ⟨[.ref a],[]⟩) (λr s'=>r=.ok (.ret (.bool true))/\OldK j.heap s'.heap/\s'.os=j.os/\AllBare s'.gens) j:=by
  intro H hO aj hS ak hA hK;have B:∀{b:Addr}{o:Obj},j.heap.get? b=some o->H b=none->(YL j.heap H).get? b=some o:=λe n=>ZaA e n;have am:∀{b:Addr}{o:Obj},j.heap.get? b=some o->o.cls≠.type "list" -> o.cls≠.none->H b=none:=λ{b o} e d1 d2=>by
   cases q:H b with
   | none=>rfl
   | some u=>
    rcases hA b (by rw [q];simp) with e' | e'
    ·rw [e',ha] at e;cases e;exact absurd rfl d1
    ·rw [Z b e'] at e;cases e;exact absurd rfl d2
  have ax:∀{b:Addr}{o:Obj}{es:Array DictEntry}{ep:Nat},j.heap.get? b=some o->o.data=.dict es ep->H b=none:=λ{b o es ep} e d=>by
   cases q:H b with
   | none=>rfl
   | some u=>
    rcases hA b (by rw [q];simp) with e' | e'
    ·rw [e',ha] at e;cases e;cases d
    ·rw [Z b e'] at e;cases e;cases d
  have aa:∀{b:Addr}{m:Str->Option Value},j.heap.Ns b m->(YL j.heap H).Ns b m:=λ{b m} ⟨o,es,ep,e,d,r⟩=>⟨o,es,ep,B e (ax e d),d,r⟩;have an:K.In (YL j.heap H):=λb o e=>B (KX b o e) (by
   cases q:H b with
   | none=>rfl
   | some u=>
    rcases hA b (by rw [q];simp) with e' | e'
    ·subst e';rw [hK (by rw [q];simp)] at e;cases e
    ·obtain ⟨t,L,rfl⟩:=Y b e';rw [au t L] at e;cases e)
  have hM:Mod K mg (YL j.heap H):=⟨an,aa af,⟨mb,aa D,as⟩,let ⟨mc,h1,h2⟩:=ag;⟨mc,aa h1,h2⟩⟩;have e0:Env0 Pr w K mg (YL j.heap H) callerA [] j H:=⟨rfl,hM,λb o e=>Zch e,Nat.le_of_eq (YM _ _),trivial,λb D=>absurd (show b∈([]:List Addr) from D) (by simp),ak,.of_eq hg⟩;have Cb:∀t∈cs,W.CodeHd (YL j.heap H) t.1 t.2:=λt L=>by
   obtain ⟨o,ws,ao,tf,ae,tg,ay,ap,tt,e1,r1,r2⟩:=C t L;exact ⟨o,ws,ao,tf,ae,tg,ay,ap,tt,B e1 (am e1 (by rw [r1];decide) (by rw [r1];nofun)),r1,r2⟩
  have Bb:∀t∈cs,(YL j.heap H).BuiltinsAt mg t.2:=λt L=>by
   obtain ⟨bm,o,h1,h2,h3,h4,h5,h6,h7⟩:=hB t L;exact ⟨bm,o,h1,h2,h3,h4,B h5 (am h5 (by rw [h6];decide) (by rw [h6];nofun)),h6,h7⟩
  refine codeAny_mono ((F _ an (aa af) λt L=>⟨Cb t L,Bb t L⟩).run callerA [] j H ⟨[.ref a],[]⟩ [.ref a] [.ref a] _ _ hr e0 (ad j (.ref a)) (.cons rfl .nil) (av H hO aj hS)) λr s' h=>?_;cases r with
  | error e=>exact (aw H e s' h).elim
  | ok fl=>
   cases fl with
   | next=>exact False.elim h
   | brk=>exact False.elim h
   | cont=>exact False.elim h
   | ret u=>
    obtain ⟨v,H',os,aq,un,ac,r',q⟩:=h;have q':v=.bl true:=q;subst q';obtain rfl:u=Value.bool true:=r';have ar:∀t∈cs,∃more:Array Value,s'.heap.get? t.2=some { cls:=.none,data:=.fields (#[]++more) }:=λt L=>by
     obtain ⟨more,eP⟩:=un.tbls t.2 _ (aj t L);exact ⟨more,ac t.2 _ eP⟩
    have kp:∀b o,b ∉ cs.map (·.2)->j.heap.get? b=some o->s'.heap.get? b=some o:=λb o U e=>by
     cases q:H b with
     | none=>exact un.keep b o e q (by intro z;exact absurd (show b∈([]:List Addr) from z) (by simp)) (by simp)
     | some u=>
      rcases hO b U with z | ⟨ob,xs,z⟩
      ·rw [q] at z;cases z
      ·have z2:=un.frzs b ob _ z;obtain ⟨e1,_⟩:=ak b _ z;obtain ⟨e2,_⟩:=ac b _ z2;rw [e] at e1;cases e1;exact e2
    refine ⟨rfl,⟨λb o e=>?_,λb o e=>?_⟩,os,aq⟩
    ·by_cases U:b∈cs.map (·.2)
     ·obtain ⟨t,L,rfl⟩:=Y b U;obtain ⟨more,e2⟩:=ar t L;rw [hP t L] at e;cases e;exact .inr (.inl ⟨((C t L).tab (hP t L)).isCodeTable,rfl,#[],more,rfl,e2⟩)
     ·exact .inl (kp b o U e)
    ·by_cases U:b∈cs.map (·.2)
     ·obtain ⟨t,L,rfl⟩:=Y b U;obtain ⟨more,e2⟩:=ar t L;exact ⟨_,e2⟩
     ·exact ⟨o,kp b o U e⟩
 cases hk:K.lookup a with
 | some o=>
  have e:=KX a o hk;rw [ha] at e;cases e;refine ab (λb=>if b∈cs.map (·.2) then some (.tbl #[]) else none) (λb D=>.inl (if_neg D)) (λt L=>if_pos (Yam.mpr ⟨t,L,rfl⟩)) (.inr ⟨_,vs.toArray,_,hk,rfl,rfl,rfl,by rw [Yas,ah];exact hl,by simpa using rv⟩) (λb u z=>?_) (λb z=>?_) λz=>absurd (if_neg ai) z
  ·by_cases D:b∈cs.map (·.2)
   ·have z':=(if_pos D).symm.trans z;cases z';exact Z b D
   ·have z':=(if_neg D).symm.trans z;cases z'
  ·by_cases D:b∈cs.map (·.2)
   ·exact .inr D
   ·exact absurd (if_neg D) z
 | none=>
  refine ab (λb=>if b∈cs.map (·.2) then some (.tbl #[]) else if b=a then some (.frz { cls:=.type "list", data:=.seq vs.toArray } (.lst (ns.map V.int))) else none) (λb D=>?_) (λt L=>if_pos (Yam.mpr ⟨t,L,rfl⟩)) (.inl (.inr ⟨{ cls:=.type "list", data:=.seq vs.toArray },(if_neg ai).trans (if_pos rfl)⟩)) (λb u z=>?_) (λb z=>?_) λ_=>hk
  ·by_cases O:b=a
   ·exact .inr ⟨_,_,(if_neg D).trans (if_pos O)⟩
   ·exact .inl ((if_neg D).trans (if_neg O))
  ·by_cases D:b∈cs.map (·.2)
   ·have z':=(if_pos D).symm.trans z;cases z';exact Z b D
   ·by_cases O:b=a
    ·have z':=((if_neg D).trans (if_pos O)).symm.trans z;cases z';subst O;exact ⟨ha,by rw [Yab];exact hl,vs,_,rv,ha⟩
    ·have z':=((if_neg D).trans (if_neg O)).symm.trans z;cases z'
  ·by_cases D:b∈cs.map (·.2)
   ·exact .inr D
   ·by_cases O:b=a
    ·exact .inl O
    ·exact absurd ((if_neg D).trans (if_neg O)) z
theorem walk_of2 {l:W.OpenLaw}{n k:Nat}{q:Program}{j:List Str}{XP:(Str->Option Value)->Heap->Prop}{YP:World->Heap->Prop}{d dd de:DefRec}{K:Params->W.Frag}{CX:World->CXT}{sp:World->Addr->Addr->Sp}{x tn tm:Str}(hn:l.most=some n)(ac:n<=sizeLine)(ad:d.params.defaults=[])(hr:Room k callerA)(hY:∀(w:World)(h:Heap),YP w h->(K w.params).In h)(O:(recsOf q).find? (λe=>e.name == tn)=some dd)(B:(recsOf q).find? (λe=>e.name == tm)=some de)(F:∀(w:World)(mg:Str->Option Value)(fa:Addr)(h:Heap),(K w.params).In h->h.Ns mainGlobals mg->mg d.name=some (.ref fa) ->
   ∃(fd:FuncData)(c P c2 P2:Addr),W.tabIn (K w.params) tn=some (c,P)/\(K w.params).lookup P=none/\W.tabIn (K w.params) tm=some (c2,P2)/\(K w.params).lookup P2=none/\P≠P2/\(∀(s:Shared)(u:Value),BindsTo s fd ⟨[u],[]⟩ [(x,u)]) /\
    ∀base:Heap,(K w.params).In base->base.Ns mainGlobals mg->W.CodeHd base c P->base.BuiltinsAt mg P->W.CodeHd base c2 P2->base.BuiltinsAt mg P2->FnOk l.prog w (K w.params) mg base (CX w) k fa fd [x] (sp w P P2))(ae:∀(w:World)(P P2:Addr)(H:Hp)(a:Addr)(ns:List Int),ns.length<=n->H P=some (.tbl #[])->H P2=some (.tbl #[])->P≠P2->SqL (K w.params) H a (ns.map V.int)->sp w P P2 [.ref a] H (λv _=>v=.bl true) λ_ _ _=>False)(af:∀(w:World)(H:Hp)(s:Shared)(e:Value)(s':Shared),CX w [] H s (λ_ _ _=>False) e s'->False) :
  W.WalkO q j XP YP l.row.toRowW d [] (λf vs=>PySem.call f vs):=by
 refine Att.attach_call hn ad λw s₀ s₁ mg mb fa o pm cd ak a vs ns G Y ho hd am ag U D qV hg=>?_;have KX:=hY w _ Y;obtain ⟨fd,c,P,c2,P2,Z,ah,L,aa,ai,hb,hF⟩:=F w mg fa _ KX G.T.g ag;obtain ⟨C,hP⟩:=W.tab_of G.T KX O Z;obtain ⟨C2,ab⟩:=W.tab_of G.T KX B L;have hB:∀P,s₁.heap.get? P=some (W.tabObj #[])->s₁.heap.BuiltinsAt mg P:=λP hP=>by
  obtain ⟨bm,ob,b1,b2,b3,b4,b5,b6⟩:=G.T.bmain;refine ⟨bm,ob,b1,b2,λz=>?_,λz=>?_,b3,b4,b5,b6⟩
  ·obtain ⟨o',es,ep,e,aj,_⟩:=G.T.g;rw [z,e] at b3;cases b3;rw [aj] at b6;cases b6
  ·rw [z,hP] at b3;cases b3;cases b4
 have two:∀{φ:Addr×Addr->Prop},φ (c,P)->φ (c2,P2)->∀t∈[(c,P),(c2,P2)],φ t:=λh1 h2 t ht=>by
  rcases Yau.mp ht with rfl | ht
  ·exact h1
  ·rw [Yai.mp ht];exact h2
 exact YC (cs:=[(c,P),(c2,P2)]) KX G.T.g G.T.b G.T.builtins G.T.nolimit hg (two C C2) (two hP ab) (two ah aa) (two (hB P hP) (hB P2 ab)) U D (Yca qV ac) hr (λbase h1 h2 h3=>hF base h1 h2 (h3 (c,P) (by simp)).1 (h3 (c,P) (by simp)).2 (h3 (c2,P2) (by simp)).1 (h3 (c2,P2) (by simp)).2) hb (λH hO hT hS=>ae w P P2 H a ns qV (hT (c,P) (by simp)) (hT (c2,P2) (by simp)) ai hS) λH e s'=>af w H s₁ e s'
end L2
namespace L2
open PySem PySem.Spec PyProof.Rows
theorem ZcZ {P:Program}{w:World}{H:Hp}{h:Heap}{b:Addr}{k:List Int}(ok:HOk P w H h)(e:H b=some (.tup (k.map V.int))):IsTupleKey (intKind P w) h k b:=by
 obtain ⟨_,its,r,o,h1,h2,n,j⟩:=(show ObjOk P w H h b (.tup (k.map V.int)) from ok _ _ e);refine ⟨o,its.toArray,n,h1,h2,j,?_⟩;have all:∀{l:List Int}{us:List Value},Vals (l.map V.int) us->ItemsAre (intKind P w) l us:=by
  intro l
  induction l with
  | nil=>intro us r;cases r;exact .nil
  | cons x l ih=>
   intro us r;cases r with
   | cons a t=>
    obtain ⟨tk,rfl⟩:=a;exact .cons (by simp [intKind,Value.isInt]) (ih t)
 simpa using all r
noncomputable def gkI (P:Program)(w:World):GK P w (List Int):=⟨tupleKind (intKind P w),λH b k=>H b=some (.tup (k.map V.int)),λok x=>ZcZ ok x,λx t=>t _ _ x,λ{A} j=>by
 show A.in1.units<cLine;show A.units+1<cLine
 lia⟩
theorem FnOk.all {P:Program}{w:World}{K:W.Frag}{mg:Str->Option Value}{base:Heap}{CX:CXT}{k:Nat}{f:Addr}{fd:FuncData}{ps:List Str}{ι:Type}{C:ι->Prop}{sp:ι->Sp}(h:∀i,C i->FnOk P w K mg base CX k f fd ps (sp i)) :
  FnOk P w K mg base CX k f fd ps (λvs H Q E=>∃i,C i/\sp i vs H Q E):=
 ⟨λvs H Q E ⟨i,c,q⟩=>(h i c).len vs H Q E q,λA outer s H j us vs Q E B D L r ⟨i,c,q⟩=>(h i c).run A outer s H j us vs Q E B D L r q⟩
noncomputable def CellAt (H:Hp)(c:Addr)(v:V):Prop:=∃o u,H c=some (.frz o (.own c))/\o.data=.cell (some u)/\RelV v u
noncomputable abbrev Um:=List (Str×Addr)
noncomputable def CellsAt (H:Hp)(cl:Um)(vs:List V):Prop:=Paired (λ(q:Str×Addr) v=>CellAt H q.2 v) cl vs
noncomputable def hideC (cl:Um)(H:Hp):Hp:=λb=>if b∈cl.map (·.2) then none else H b
noncomputable def UE (cl:Um)(H H':Hp):Hp:=λb=>if b∈cl.map (·.2) then H b else H' b
section
variable {cl:Um}{H H':Hp}{b:Addr}
theorem JQ (h:b∈cl.map (·.2)):hideC cl H b=none:=if_pos h
theorem GG (h:b ∉ cl.map (·.2)):hideC cl H b=H b:=if_neg h
theorem W7 (h:b∈cl.map (·.2)):UE cl H H' b=H b:=if_pos h
theorem Js (h:b ∉ cl.map (·.2)):UE cl H H' b=H' b:=if_neg h
theorem CellAt.same {c:Addr}{v:V}(h:CellAt H c v)(s:Same H H'):CellAt H' c v:=let ⟨o,u,e,r⟩:=h;⟨o,u,s _ _ e,r⟩
theorem CellsAt.same {vs:List V}(h:CellsAt H cl vs)(s:Same H H'):CellsAt H' cl vs:=Paired.mapP h λ_ _ z=>z.same s
theorem CellsAt.frz:∀{cl:Um}{vs:List V},CellsAt H cl vs->∀c∈cl.map (·.2),∃o,H c=some (.frz o (.own c))
 | _,_,.nil,c,h=>by simp at h
 | _,_,.cons r t,c,h=>by
  rw [Yaq] at h;rcases Yau.mp h with rfl | h
  ·obtain ⟨o,u,e,_⟩:=r;exact ⟨o,e⟩
  ·exact CellsAt.frz t c h
theorem XI {P:Program}{w:World}{h:Heap}(ok:HOk P w H h)(hz:∀c∈cl.map (·.2),∃o,H c=some (.frz o (.own c))):HOk P w (hideC cl H) h:=λa o e=>by
 have ha:a ∉ cl.map (·.2):=λz=>by rw [JQ z] at e;cases e
 rw [GG ha] at e;refine (ok a o e).stay (λ_ _ _ q=>q) (λd q=>?_) λd ys q=>?_
 ·rw [GG (λz=>by obtain ⟨o',j⟩:=hz d z;rw [j] at q;cases q)];exact q
 ·rw [GG (λz=>by obtain ⟨o',j⟩:=hz d z;rw [j] at q;cases q)];exact q
theorem OM {α:Type}:∀{l:List (Str×α)}{x:Str}{u:α},(l.map (·.1)).Nodup->(x,u)∈l->l.lookup x=some u
 | [],_,_,_,h=>by cases h
 | p::l,x,u,nd,h=>by
  rw [Yaq,List.nodup_cons] at nd;rw [List.lookup_cons];rcases Yau.mp h with rfl | h
  ·simp
  ·have hne:(x == p.1)=false:=by
    rw [Ydb];exact λz=>nd.1 (by rw [<-z];exact Yam.mpr ⟨_,h,rfl⟩)
   rw [hne];exact OM nd.2 h
theorem YD {ps:List Str}{us:List Value}(j:us.length=ps.length)(nd:ps.Nodup){i:Nat}{x:Str}{u:Value}(h1:ps[i]?=some x)(h2:us[i]?=some u):(ps.zip us).reverse.lookup x=some u:=by
 refine OM ?_ ?_
 ·rw [List.map_reverse,List.map_fst_zip (by lia)];unfold List.Nodup at nd ⊢;rw [List.pairwise_reverse];exact nd.imp λh=>Ne.symm h
 ·rw [List.mem_reverse];refine Yat (i:=i) ?_;rw [List.getElem?_zip_eq_some];exact ⟨h1,h2⟩
end
structure VS (N ps fr:List Str)(sc:Scope):Prop where
 kind:sc.kind=.function
 co:sc.isCoroutine=false
 gen:sc.isGenerator=false
 nd:N.Nodup
 pre:N.take (ps++fr).length=ps++fr
 par:∀x∈ps,sc.names.lookup x=some .local
 frk:∀x∈fr,sc.names.lookup x=some .free
 nocell:∀y∈sc.names,y.2≠.cell
 free:∀y∈sc.names,y.2=.free->y.1∈fr
noncomputable def US (P:Program)(w:World)(K:W.Frag)(mg:Str->Option Value)(base:Heap)(N:List Str)(qual:Str)(scope:Scope)(clos:Um)(f:Addr)(cd:Value)(A:Around)(outer:List Env)(s:Shared)(H:Hp):Cx where
 prog:=P
 w:=w
 K:=K
 mg:=mg
 base:=base
 A:=A.deeper (W.envX qual scope s.heap.objs.size f cd clos)
 N:=N
 s₀:=s
 H₀:=hideC clos H
 env:=W.envX qual scope s.heap.objs.size f cd clos
 outer:=outer
 stack:=W.envX qual scope s.heap.objs.size f cd clos::outer
 ex:=[]
 calm:=true
 fn:=λ_=>false
 pn:=[]
 xe:=λ_ _=>False
section
variable {P:Program}{w:World}{K:W.Frag}{mg:Str->Option Value}{base:Heap}{N ps fr:List Str}{qual:Str}{scope:Scope}{clos:Um}{f:Addr}{cd:Value}{A:Around}{outer:List Env}{s:Shared}{H:Hp}{us:List Value}{vs fvs:List V}
theorem Zc0 {h1:Heap}{tk:Nat}(S:VS N ps fr scope)(hd:A.handled=none)(j:Env0 P w K mg base A outer s H)(hl:vs.length=ps.length)(r:Vals vs us)(hc:CellsAt H clos fvs)(B:clos.map (·.1)=fr)(aa:(clos.map (·.2)).Nodup)(ae:h1.Ns s.heap.objs.size (λx=>(ps.zip us).reverse.lookup x))(hk:∀b o,s.heap.get? b=some o->h1.get? b=some o) :
  Inv (US P w K mg base N qual scope clos f cd A outer s H) [] (start N (vs++fvs)) (hideC clos H) { s with heap:=h1,toks:=tk }:=by
 have ag:fvs.length=fr.length:=by rw [<-B,Yab];exact (Ydi hc).symm
 have ah:(vs++fvs).length<=N.length:=by
  have:=Ybh List.length S.pre;rw [Yba,Yae] at this;rw [Yae]
  lia
 have ab:(ps++fr).Nodup:=by rw [<-S.pre];exact S.nd.sublist (List.take_sublist _ _)
 have af:ps.Nodup:=(Ycd.mp ab).1;have ac:fr.Nodup:=(Ycd.mp ab).2.1;have L:∀{i:Nat}{x:Str}{v:V},fr[i]?=some x->fvs[i]?=some v->∃c u,clos.lookup x=some c/\RelV v u/\h1.IsCell c (some u):=λ{i x v} e1 e2=>by
  rw [<-B,Ybb] at e1;obtain ⟨q,hq,rfl⟩:=Ybk.mp e1;obtain ⟨v',ad,o,u,ho,U,rv⟩:=OK hc hq;rw [e2] at ad;cases ad;refine ⟨q.2,u,OM (by rw [B];exact ac) (Yat hq),rv,o,hk _ _ ?_,U⟩;exact (show ObjOk P w H s.heap q.2 (.frz o (.own q.2)) from j.hok _ _ ho).1
 have O:∀{x:Str}{c:Addr},clos.lookup x=some c->c∈clos.map (·.2):=λ{x c} e=>Yam.mpr ⟨_,Ycb e,rfl⟩;have Y:∀b:Addr,b ∉ (US P w K mg base N qual scope clos f cd A outer s H).ex:=λb z=>absurd (show b∈([]:List Addr) from z) (by simp);refine ⟨⟨j.mod,S.kind,rfl,rfl,Yad _,λy z c h1 h2=>?_,λy Z=>?_,λy c h _=>(nomatch h),λ_=>hd,Around.frames_deeper j.frames,.inr ⟨rfl,rfl⟩,λb z=>absurd z (Y b),λb o e=>⟨(j.bs b o e).1,?_⟩,j.bsz,λb _ _=>Y b,λb z=>absurd z (Y b),j.funs,λb hb=>?_⟩,
  rfl,j.bare,Un.kept hk,⟨_,ae,λi y v h1 h2 h3=>?_⟩,λy c h=>?_,?_,λy c h=>JQ (O h),λp D=>absurd (show p∈([]:List (Addr×Obj)) from D) (by simp),(XI j.hok hc.frz).kept hk,?_⟩
 ·have m1:=Ycb h1;have m2:=Ycb h2;have D:clos.Pairwise λa b=>a.2≠b.2:=by unfold List.Nodup at aa;rwa [Yct] at aa
  exact name_of_addr D m1 m2
 ·have Z:scope.names.lookup y=some .cell\/scope.names.lookup y=some .free:=Z;rcases Z with Z | Z
  ·exact absurd rfl (S.nocell _ (Ycb Z))
  ·have hm:=S.free _ (Ycb Z) rfl;rw [<-B] at hm;obtain ⟨q,hq,rfl⟩:=Yam.mp hm;exact ⟨q.2,OM (l:=clos) (by rw [B];exact ac) hq⟩
 ·by_cases z:b∈clos.map (·.2)
  ·exact JQ z
  ·show hideC clos H b=none;rw [GG z];exact (j.bs b o e).2
 ·by_cases z:b∈clos.map (·.2)
  ·exact JQ z
  ·show hideC clos H b=none;rw [GG z];exact j.frf b hb
 ·have hi:i<(vs++fvs).length:=by
   unfold start at h2;by_cases hi:i<(vs++fvs).length
   ·exact hi
   ·rw [Ybt (by simpa using hi)] at h2;rw [List.getElem?_replicate] at h2;split at h2 <;> cases h2
  have ha:(vs++fvs)[i]?=some v:=by
   unfold start at h2;rw [Ybl (by rw [Yab];exact hi),Ybb] at h2;cases e:(vs++fvs)[i]? with
   | none=>rw [e] at h2;cases h2
   | some a=>rw [e] at h2;cases h2;rfl
  have D:(ps++fr)[i]?=some y:=by
   rw [<-S.pre,List.getElem?_take_of_lt (by rw [Yae] at hi ⊢;lia)];exact h1
  by_cases hv:i<vs.length
  ·rw [Ybl hv] at ha;rw [Ybl (by lia)] at D;obtain ⟨u,hu,rv⟩:=r.get ha;exact ⟨u,rv,.inl ⟨S.par y (Yat D),YD (by rw [<-hl];exact r.length.symm) af D hu⟩⟩
  ·rw [Ybt (by lia)] at ha D;rw [hl] at ha;obtain ⟨c,u,e1,rv,ic⟩:=L D ha;exact ⟨u,rv,.inr ⟨.inr (S.frk y (Yat D)),c,e1,ic⟩⟩
 ·have hm:=Ycb h;obtain ⟨i,hi⟩:=List.getElem?_of_mem hm;obtain ⟨v,hv,o,u,ho,U,rv⟩:=OK hc hi;exact ⟨some u,o,hk _ _ (show ObjOk P w H s.heap c (.frz o (.own c)) from j.hok _ _ ho).1,U⟩
 ·have:H s.heap.objs.size=none:=j.hok.fresh (Yad _);show hideC clos H s.heap.objs.size=none;by_cases z:s.heap.objs.size∈clos.map (·.2)
  ·exact JQ z
  ·rw [GG z];exact this
 ·unfold start;show _=N.length;rw [Yae,Yab,List.length_replicate]
  lia
theorem Z2 {H':Hp}{s':Shared}{Q:VK}{u:Value}{v:V}{σ':St}(e0:Env0 P w K mg base A outer s H)(Y:CellsAt H clos fvs)(J:Inv (US P w K mg base N qual scope clos f cd A outer s H) [] σ' H' s')(rv:RelV v u)(q:(∀c∈clos.map (·.2),H' c=none)->Q v (UE clos H H')) :
  CE outer P w H s Q u s':=by
 have U:=Y.frz;have B:=J.base;have nH:∀{b:Addr}{o:HO},H b=some o->(∀j,o≠.frz j (.own b))->b ∉ clos.map (·.2):=λ{b o} e n z=>by
  obtain ⟨j,D⟩:=U b z;rw [e] at D;cases D;exact n _ rfl
 have Z:∀{b:Addr},H b=none->hideC clos H b=none:=λ{b} n=>by
  by_cases z:b∈clos.map (·.2)
  ·exact JQ z
  ·rw [GG z];exact n
 have nz:∀{b:Addr},H b=none->b ∉ clos.map (·.2):=λ{b} n z=>by
  obtain ⟨j,D⟩:=U b z;rw [n] at D;cases D
 have O:∀{b:Addr}{j:Obj},H b=some (.frz j (.own b))->s.heap.get? b=some j:=λ{b j} e=>(show ObjOk P w H s.heap b (.frz j (.own b)) from e0.hok _ _ e).1;have at1:∀{b:Addr}{j:Obj},b∈clos.map (·.2)->H b=some (.frz j (.own b))->s'.heap.get? b=some j:=λ{b j} z e=>B.keep b j (O e) (JQ z) (λy=>by have:=e0.frf b y;rw [e] at this;cases this) (by simp [US]);have L:∀{b:Addr},b∈clos.map (·.2)->H' b=none:=λ{b} z=>by
  obtain ⟨j,e⟩:=U b z;exact B.free b j (O e) (JQ z) (by simp [US])
 refine ⟨v,UE clos H H',J.os,J.bare,⟨λb o e n h1 h2=>B.keep b o e (Z n) h1 (by simp [US]),λb o e n h1 h2=>B.slot b o e (Z n) h1 (by simp [US]),λb o e n h1=>?_,λb o e h1=>B.there b o e (by simp [US]),λb ys e=>?_,λb o y e=>?_,λb ys e=>?_⟩,λa o e=>?_,rv,q λc Y=>L Y⟩
 ·rw [Js (nz n)];exact B.free b o e (Z n) (by simp [US])
 ·have z:=nH e (λ_=>by simp);rw [Js z];exact B.tups b ys (by show hideC clos H b=_;rw [GG z];exact e)
 ·by_cases z:b∈clos.map (·.2)
  ·rw [W7 z];exact e
  ·rw [Js z];exact B.frzs b o y (by show hideC clos H b=_;rw [GG z];exact e)
 ·have z:=nH e (λ_=>by simp);rw [Js z];exact B.tbls b ys (by show hideC clos H b=_;rw [GG z];exact e)
 ·by_cases z:a∈clos.map (·.2)
  ·obtain ⟨j,D⟩:=U a z;rw [W7 z,D] at e;cases e;exact ⟨at1 z D,_,at1 z D⟩
  ·rw [Js z] at e;refine (J.hok a o e).stay (λ_ _ _ y=>y) (λd y=>?_) λd ys y=>?_
   ·rw [Js (λzz=>by rw [L zz] at y;cases y)];exact y
   ·rw [Js (λzz=>by rw [L zz] at y;cases y)];exact y
noncomputable def CloFn (H:Hp)(f c:Addr)(qual:Str)(o:Obj):Prop:=H f=some (.frz o (.own f))/\∃j,H c=some (.frz j (.own c))/\Zbe qual j
theorem CloFn.same {H H':Hp}{f c:Addr}{qual:Str}{o:Obj}(h:CloFn H f c qual o)(s:Same H H'):CloFn H' f c qual o:=⟨s _ _ h.1,h.2.elim λj z=>⟨j,s _ _ z.1,z.2⟩⟩
theorem CloFn.rec_ {f c:Addr}{o:Obj}(h:CloFn H f c qual o)(ok:HOk P w H s.heap):s.heap.get? f=some o/\s.heap.CodeRec (.ref c) qual:=by
 obtain ⟨h1,j,h2,vs,t,hd,B⟩:=h;exact ⟨(show ObjOk P w H s.heap f (.frz o (.own f)) from ok _ _ h1).1,c,j,vs,t,rfl,(show ObjOk P w H s.heap c (.frz j (.own c)) from ok _ _ h2).1,hd,B⟩
theorem Zeo {k:Nat}{c':Addr}{name:Str}{params:Arguments}{body:List Stmt}{D pm L:Value}{sp:Sp}(S:VS N ps fr scope)(U:clos.map (·.1)=fr)(Y:(clos.map (·.2)).Nodup)(len:∀vs H Q E,sp vs H Q E->vs.length=ps.length)(Z:∀(A:Around)(outer:List Env)(s:Shared)(H:Hp)(vs:List V)(Q:VK)(E:XK),Room k (A.deeper (W.envX qual scope s.heap.objs.size f (.ref c') clos))->sp vs H Q E->CloFn H f c' qual (W.fnMade name qual params body scope clos D pm c' L)/\∃fvs,CellsAt H clos fvs /\
   ∃t,PSs (US P w K mg base N qual scope clos f (.ref c') A outer s H) body t/\t { nx:=λ_ H'=>(∀c∈clos.map (·.2),H' c=none)->Q .non (UE clos H H'),rt:=λv H'=>(∀c∈clos.map (·.2),H' c=none)->Q v (UE clos H H') } (start N (vs++fvs)) (hideC clos H)) :
  FnOk P w K mg base CX0 (k+1) f (W.fnX name qual params body scope clos .none .none D pm none (.ref c') L) ps sp:=by
 refine ⟨len,λA outer s H ad us vs Q E hr j hb r h=>?_⟩;have hl:=len _ _ _ _ h;obtain ⟨hf,fvs,hc,t,ht,q⟩:=Z A outer s H vs Q E (hr.deeper _) h;obtain ⟨ho,aa⟩:=hf.rec_ j.hok;have ab:s.heap.NoLimit:=j.mod.nolimit.keeps λb o e=>(j.bs b o e).1;refine codeAny_call_function hr.depth ho rfl S.co S.gen rfl aa (hb _ _ _ _ ?_);refine wpAny_newFunctionEnv S.nocell (λy hy=>S.par y.1 (List.of_mem_zip (show (y.1,y.2)∈ps.zip us from hy)).1) (λh1 ac O=>⟨ab.fresh _ O,codeAny_func ?_⟩) S.kind;have hk:∀b o,s.heap.get? b=some o->h1.get? b=some o:=λb o e=>O.extBut b o (Yay (Yal e)) (Yan _ e);have I:=Zc0 (qual:=qual) (f:=f) (cd:=.ref c') (tk:=s.toks+(ps.zip us).length) S hr.hd j hl r hc U Y ac hk;refine Ybp (ht [] _ (start N (vs++fvs)) _ _ I q) (λfl s' B=>?_) λe s' B=>B.elim;cases fl with
 | ret u=>
  obtain ⟨v,σ',H',J,rv,q⟩:=B;exact Z2 j hc J rv q
 | next=>
  obtain ⟨σ',H',J,q⟩:=B;exact Z2 (v:=V.non) (u:=Value.none) j hc J rfl q
 | brk=>
  obtain ⟨_,_,_,q⟩:=B;exact False.elim q
 | cont=>
  obtain ⟨_,_,_,q⟩:=B;exact False.elim q
end
structure ZdC where
 line:Nat
 col:Nat
 qual:Str
 c:Addr
noncomputable def Zau (es:List ZdC):List Value:=es.flatMap λe=>[rawInt e.line,rawInt e.col,.ref e.c]
noncomputable def TabOn (P:Addr)(es:List ZdC)(H:Hp):Prop:=H P=some (.tbl (Zau es).toArray)/\∀e∈es,∃j,H e.c=some (.frz j (.own e.c))/\Zbe e.qual j
theorem TabOn.same {P:Addr}{es:List ZdC}{H H':Hp}(h:TabOn P es H)(s:Same H H'):TabOn P es H':=⟨s _ _ h.1,λe j=>(h.2 e j).elim λB z=>⟨B,s _ _ z.1,z.2⟩⟩
theorem Z3:∀es:List ZdC,TriplesOk (Zau es)
 | []=>trivial
 | e::es=>by
  show TriplesOk (rawInt e.line::rawInt e.col::.ref e.c::Zau es);exact Z3 es
theorem Z4 (es:List ZdC)(e:ZdC):(Zau (es++[e])).toArray=(Zau es).toArray++#[rawInt e.line,rawInt e.col,.ref e.c]:=by
 unfold Zau;rw [List.flatMap_append];simp
section
variable {X:Cx}{qQ:List (Addr×Obj)}{σ:St}{H:Hp}{s:Shared}
theorem Zc1 {P c':Addr}{ps more:Array Value}{h':Heap}{tk:Nat}{oc o:Obj}(I:Inv X qQ σ H s)(D:H P=some (.tbl ps))(hx:Heap.ExtBut P s.heap h')(j:s.heap.objs.size<=c')(U:c'<h'.objs.size)(Y:h'.get? c'=some oc)(L:h'.get? P=some (W.tabObj (ps++more)))(aa:(h'.push o).get? h'.objs.size=some o) :
  ∃H',Inv X qQ σ H' { s with heap:=h'.push o,toks:=tk }/\SameL P H H'/\H' P=some (.tbl (ps++more))/\H' c'=some (.frz oc (.own c'))/\H' h'.objs.size=some (.frz o (.own h'.objs.size))/\H c'=none/\H h'.objs.size=none:=by
 have hP:s.heap.get? P=some (W.tabObj ps):=I.hok P _ D;have ab:c'≠P:=λz=>by rw [z] at j;exact Ycf _ (Yax (Yal hP) j)
 have ad:P<h'.objs.size:=Yal L;have nc:H c'=none:=I.hok.fresh j;have Z:s.heap.objs.size<=h'.objs.size:=Yca j (Ycr U);have nf:H h'.objs.size=none:=I.hok.fresh Z;have ae:c'≠h'.objs.size:=Yay U;have ag:P≠h'.objs.size:=Yay ad;generalize hH':upd (upd (upd H P (.tbl (ps++more))) c' (.frz oc (.own c'))) h'.objs.size (.frz o (.own h'.objs.size))=H';have aP:H' P=some (.tbl (ps++more)):=by rw [<-hH',Gn ag,Gn (Ne.symm ab),Gb]
 have ac:H' c'=some (.frz oc (.own c')):=by rw [<-hH',Gn ae,Gb]
 have af:H' h'.objs.size=some (.frz o (.own h'.objs.size)):=by rw [<-hH',Gb]
 have ao:∀b,b≠P->b≠c'->b≠h'.objs.size->H' b=H b:=λb h1 h2 h3=>by rw [<-hH',Gn h3,Gn h2,Gn h1]
 have O:SameL P H H':=λb o hb e=>by
  rw [ao b hb (λz=>by rw [z,nc] at e;cases e) (λz=>by rw [z,nf] at e;cases e)];exact e
 have kp:∀b u,b≠P->s.heap.get? b=some u->(h'.push o).get? b=some u:=λb u hb e=>Yan _ (hx b u hb e);have nP:∀b,H b=none->b≠P:=λb n z=>by rw [z,D] at n;cases n
 have gf:=aa;have I':Inv X qQ σ H' { s with heap:=h'.push o,toks:=tk }:=by
  refine I.un ⟨λb o e n _ _=>kp b o (nP b n) e,λb o e n _ _=>⟨o.slots,kp b o (nP b n) e⟩,λb o e n _=>?_,λb o e _=>?_,λb ys e=>O b _ (λz=>by rw [z,D] at e;cases e) e,λb o u e=>O b _ (λz=>by rw [z,D] at e;cases e) e,λb qs e=>?_⟩ λb u e=>?_
  ·rw [ao b (nP b n) (Yay (Yax (Yal e) j)) (Yay (Yax (Yal e) Z))];exact n
  ·by_cases z:b=P
   ·rw [z];exact ⟨_,Yan _ L⟩
   ·exact ⟨o,kp b o z e⟩
  ·by_cases z:b=P
   ·rw [z,D] at e;cases e;exact ⟨more,by rw [z];exact aP⟩
   ·exact ⟨#[],by rw [O b _ z e];simp⟩
  ·by_cases z:b=P
   ·rw [z,aP] at e;cases e;rw [z];exact Yan _ L
   ·by_cases z2:b=c'
    ·rw [z2,ac] at e;cases e;rw [z2];exact ⟨Yan _ Y,_,Yan _ Y⟩
    ·by_cases z3:b=h'.objs.size
     ·rw [z3,af] at e;cases e;rw [z3];exact ⟨gf,_,gf⟩
     ·rw [ao b z z2 z3] at e;refine (I.hok b u e).stay (λd y hd B=>kp d y ?_ B) (λd B=>O d _ (λy=>by rw [y,D] at B;cases B) B) λd ys B=>O d _ (λy=>by rw [y,D] at B;cases B) B;rcases hd with rfl | hd
      ·exact z
      ·exact λy=>by rw [y,D] at hd;cases hd
 exact ⟨H',I',O,aP,ac,af,nc,nf⟩
end
section
variable {X:Cx}
noncomputable def tMk (P:Addr)(pos:Pos)(qual:Str)(o:Addr->Value->Value->Obj)(H:Hp)(Q:VK):Prop:=∃es,TabOn P es H /\
 ((codeAmong pos (Zau es)=none/\∀(f c':Addr)(ctv doc:Value)(H':Hp),SameL P H H'->TabOn P (es++[⟨pos.line,pos.col,qual,c'⟩]) H'->H f=none->CloFn H' f c' qual (o c' ctv doc)->Q (.ref f) H') \/
  ∃e∈es,codeAmong pos (Zau es)=some (.ref e.c)/\e.qual=qual/\∀(f:Addr)(ctv doc:Value)(H':Hp),Same H H'->H f=none->CloFn H' f e.c qual (o e.c ctv doc)->Q (.ref f) H')
noncomputable def Zhf (P:Addr)(pos:Pos)(qual:Str)(o:Addr->Value->Value->Obj)(i:Nat):TS:=λD σ H=>tMk P pos qual o H λv H'=>D.nx (σ.set i (some v)) H'
theorem Zc2 {P:Addr}{ps:Array Value}{mg:Str->Option Value}{h:Heap}(j:h.Ns mainGlobals mg)(B:h.get? P=some (W.tabObj ps)):mainGlobals≠P:=λz=>by
 obtain ⟨o,es,ep,e,hd,_⟩:=j;rw [z,B] at e;cases e;cases hd
theorem Zep {i:Nat}{name qual:Str}{params:Arguments}{body:List Stmt}{scope:Scope}{pos:Pos}{clos:Um}{c P:Addr}(hN:X.N.Nodup)(hi:X.N[i]?=some name)(hx:Loc X.env.scope name)(O:closureFor scope X.env=pure clos)(L:X.env.code=.ref c)(C:W.CodeHd X.base c P)(hb:X.base.BuiltinsAt X.mg P)(hq:qualnameIn X.env name name=qual)(ab:params.defaults=[]:=by rfl)(ad:params.kw_defaults=[]:=by rfl)(ha:annTrees params none X.env=[]:=by rfl)(hf:X.fn name=true\/X.env.scope.names.lookup name=some .local:=by first | exact .inl rfl | exact .inr rfl | assumption) :
  PS X (.FunctionDef name params body [] none [] scope none name pos) (Zhf P pos qual (λc' j B=>W.fnMade name qual params body scope clos B ((X.mg "__name__").getD .none) c' j) i):=by
 intro qQ s σ H D I h;refine W.nestDef_K ab ad ha ?_;rw [hq];have hg:s.heap.Ns mainGlobals X.mg:=I.ok.mod.glob.keeps I.bk;have hB:s.heap.BuiltinsAt X.mg P:=by
  obtain ⟨bm,o,h1,h2,h3,h4,h5,h6⟩:=hb;exact ⟨bm,o,h1,h2,h3,h4,I.bk _ _ h5,h6⟩
 obtain ⟨es,U,h⟩:=h;have hP:s.heap.get? P=some (W.tabObj (Zau es).toArray):=I.hok P _ U.1;rcases h with ⟨ae,q⟩ | ⟨e,he,ag,ah,q⟩
 ·refine W.makeFunction_K (mg:=X.mg) O I.ok.glob hg L (C.keeps I.bk) hP (Z3 es) ae (Zc2 hg hP) hB λc' j B h' tk ai aj ak Y am=>?_;obtain ⟨c2,oc,vs,tq,ec,an,hd,hv⟩:=Y;cases ec;obtain ⟨H',I',sl,aP,ac,af,nc,nf⟩:=Zc1 (o:=W.fnMade name qual params body scope clos B ((X.mg "__name__").getD .none) c' j) (tk:=tk) I U.1 ai aj ak an am (Ybj _ rfl);refine Ue (v:=.ref h'.objs.size) I' hN hi hx rfl (λs' J=>⟨_,H',J,q _ c' j B H' sl ⟨?_,λy Z=>?_⟩ nf ⟨af,oc,ac,vs,tq,hd,hv⟩⟩) hf
  ·rw [Z4];exact aP
  ·rcases Yag.mp Z with Z | Z
   ·obtain ⟨oy,z1,z2⟩:=U.2 y Z;exact ⟨oy,sl _ _ (λz=>by rw [z,U.1] at z1;cases z1) z1,z2⟩
   ·rw [Yai.mp Z];exact ⟨oc,ac,vs,tq,hd,hv⟩
 ·refine W.makeFunction_hit (cv:=.ref e.c) (mg:=X.mg) O I.ok.glob hg L (C.keeps I.bk) hP (Z3 es) ag hB λj B h' tk hk aa=>?_;have nf:H h'.objs.size=none:=I.hok.fresh aa;have I':=I.laid (a:=h'.objs.size) (o:=.frz (W.fnMade name qual params body scope clos B ((X.mg "__name__").getD .none) e.c j) (.own h'.objs.size)) (h':=h'.push (W.fnMade name qual params body scope clos B ((X.mg "__name__").getD .none) e.c j)) (t':=tk) (λb o e=>Yan _ (hk b o e)) aa ⟨Ybj _ rfl,_,Ybj _ rfl⟩;have sm:Same H (upd H h'.objs.size (.frz (W.fnMade name qual params body scope clos B ((X.mg "__name__").getD .none) e.c j) (.own h'.objs.size))):=Same.new nf;obtain ⟨oc,z1,z2⟩:=U.2 e he;rw [ah] at z2;exact Ue (v:=.ref h'.objs.size) I' hN hi hx rfl (λs' J=>⟨_,_,J,q _ j B _ sm nf ⟨Gb,oc,sm _ _ z1,z2⟩⟩) hf
noncomputable def FnIn (H:Hp)(f:Addr):Prop:=∃o u fd,H f=some (.frz o u)/\o.data=.func fd
theorem CloFn.fin {H:Hp}{f c:Addr}{qual:Str}{o:Obj}{fd:FuncData}(h:CloFn H f c qual o)(e:o.data=.func fd):FnIn H f:=⟨o,_,fd,h.1,e⟩
theorem FnIn.at_ {qQ:List (Addr×Obj)}{σ:St}{H:Hp}{s:Shared}{f:Addr}(h:FnIn H f)(I:Inv X qQ σ H s):W.FnAt f s.heap:=by
 obtain ⟨o,u,fd,e,hd⟩:=h;have j:=(show ObjOk X.prog X.w H s.heap f (.frz o u) from I.hok _ _ e).1;obtain ⟨B,D,O,L⟩:=o;cases hd;exact ⟨B,D,fd,L,j⟩
noncomputable def Zeq (i:Nat)(f:Addr)(sp:Sp)(dvs:List V)(E:XK)(t:TA):TE:=λσ H Q=>σ[i]?=some (some (.ref f))/\FnIn H f/\t σ H λvs H1=>FnIn H1 f/\sp (vs++dvs) H1 Q E
theorem Zbl {CX:CXT}{k i:Nat}{f:Addr}{fd:FuncData}{ps:List Str}{sp:Sp}{ds:List Value}{dvs:List V}{E:XK}{x:Str}{e:Expr}{es:List Expr}{t:TA}{p pos:Pos}(F:FnOk X.prog X.w X.K X.mg X.base CX k f fd ps sp)(L:Room k X.A)(O:PE X (.Name x p) (Zfr i))(U:Binds X.K fd ps ds)(hd:Vals dvs ds)(Y:Ol CX X E)(ha:PA X (e::es) t)(Z:starEach (e::es) X.env=(false,eval e X.env)::starEach es X.env:=by rfl)(j:(backTo pos (starEach es X.env)).any (·.1)=false:=by rfl):PE X (.Call (.Name x p) (e::es) [] pos) (Zeq i f sp dvs E t):=by
 intro qQ s σ H Q I h;refine Ydl (thG (O qQ s σ H (λv H'=>v=.ref f/\H'=H) I ⟨_,h.1,rfl,rfl⟩) λu s1 v H1 B r1 ⟨ev,eH⟩=>?_);subst ev eH;obtain rfl:u=Value.ref f:=r1;refine W.callWith_F (h.2.1.at_ B) (thG (ha pos qQ s1 σ H1 _ B h.2.2) λus s2 vs H2 D r ⟨hf,q⟩=>⟨hf.at_ D,?_⟩) Z j;exact V6 F L U hd Y D r q
end
theorem Paired.comp {α β γ:Type}{A:α->β->Prop}{B:β->γ->Prop}{C:α->γ->Prop}:∀{l:List α}{m:List β}{n:List γ},Paired A l m->Paired B m n->(∀a b c,A a b->B b c->C a c)->Paired C l n
 | _,_,_,.nil,.nil,_=>.nil
 | _,_,_,.cons a t,.cons b u,h=>.cons (h _ _ _ a b) (Paired.comp t u h)
noncomputable def Zc3 (cl:Um)(h:Heap)(H:Hp):Hp:=λb=>if b∈cl.map (·.2) then (h.get? b).map (λo=>HO.frz o (.own b)) else H b
section
variable {X:Cx}{qQ:List (Addr×Obj)}{σ:St}{H:Hp}{s:Shared}
noncomputable def Zfz (X:Cx)(cl:Um)(is:List Nat):Prop:=Paired (λ(q:Str×Addr) (i:Nat)=>X.N[i]?=some q.1/\X.env.scope.names.lookup q.1=some .cell/\X.env.cells.lookup q.1=some q.2/\X.fn q.1=true) cl is
theorem UF {cl:Um}{is:List Nat}(h:Zfz X cl is):∀c∈cl.map (·.2),∃x,X.env.cells.lookup x=some c/\X.fn x=true:=λc B=>by
 obtain ⟨q,D,rfl⟩:=Yam.mp B;obtain ⟨i,hi⟩:=List.getElem?_of_mem D;obtain ⟨j,_,_,_,h1,h2⟩:=OK h hi;exact ⟨q.1,h1,h2⟩
theorem Zc4 {cl:Um}{is:List Nat}{fvs:List V}(I:Inv X qQ σ H s)(j:Zfz X cl is)(hv:Paired (λ(i:Nat) v=>σ[i]?=some (some v)) is fvs) :
  Env0 X.prog X.w X.K X.mg X.base X.A X.stack s (Zc3 cl s.heap H)/\CellsAt (Zc3 cl s.heap H) cl fvs/\∀b∈cl.map (·.2),H b=none:=by
 have E:=I.env0;have L:∀{b:Addr},b∈cl.map (·.2)->Zc3 cl s.heap H b=(s.heap.get? b).map (λo=>HO.frz o (.own b)):=λ{b} z=>if_pos z;have out:∀{b:Addr},b ∉ cl.map (·.2)->Zc3 cl s.heap H b=H b:=λ{b} z=>if_neg z;have U:∀b∈cl.map (·.2),H b=none:=λb B=>by
  obtain ⟨x,e,_⟩:=UF j b B;exact I.freeC x b e
 have old:∀b∈cl.map (·.2),X.s₀.heap.objs.size<=b:=λb B=>by
  obtain ⟨x,e,hf⟩:=UF j b B;exact I.ok.cab x b hf e
 refine ⟨⟨E.frames,E.mod,λb o e=>⟨(E.bs b o e).1,?_⟩,E.bsz,E.funs,λb B=>?_,λa o e=>?_,E.bare⟩,?_,U⟩
 ·rw [out (λz=>Ycf _ (Yax (Yal (I.ok.bs b o e).1) (old b z)))];exact (E.bs b o e).2
 ·rw [out (λz=>?_)]
  ·exact E.frf b B
  ·rcases Yau.mp (I.stkSub b B) with y | y
   ·obtain ⟨x,e,_⟩:=UF j b z;exact I.cne x b e y
   ·obtain ⟨_,o,D,_⟩:=I.ok.funs.mem y;exact Ycf _ (Yax (Yal D) (old b z))
 ·by_cases z:a∈cl.map (·.2)
  ·rw [L z] at e;obtain ⟨ob,D,rfl⟩:=Ybk.mp e;exact ⟨D,ob,D⟩
  ·rw [out z] at e;refine (I.hok a o e).stay (λ_ _ _ y=>y) (λd y=>?_) λd ys y=>?_
   ·rw [out (λY=>by rw [U d Y] at y;cases y)];exact y
   ·rw [out (λY=>by rw [U d Y] at y;cases y)];exact y
 ·obtain ⟨m,_,hl⟩:=I.loc;have O:Paired (λ(q:Str×Addr) (i:Nat)=>(X.N[i]?=some q.1/\X.env.scope.names.lookup q.1=some .cell/\X.env.cells.lookup q.1=some q.2/\X.fn q.1=true)/\q.2∈cl.map (·.2)) cl is:=by
   have:∀{l:Um}{Z:List Nat},Zfz X l Z->(∀q∈l,q.2∈cl.map (·.2))->Paired (λ(q:Str×Addr) (i:Nat)=>(X.N[i]?=some q.1/\X.env.scope.names.lookup q.1=some .cell/\X.env.cells.lookup q.1=some q.2/\X.fn q.1=true)/\q.2∈cl.map (·.2)) l Z:=by
    intro l Z h
    induction h with
    | nil=>intro _;exact .nil
    | cons r t ih=>intro hm;exact .cons ⟨r,hm _ (Yaw ..)⟩ (ih λq hq=>hm q (Ybf _ hq))
   exact this j λq hq=>Yam.mpr ⟨q,hq,rfl⟩
  refine Paired.comp O hv λq i v ⟨⟨h1,h2,h3,h4⟩,h5⟩ hs=>?_;obtain ⟨u,rv,lk⟩:=hl i q.1 v h1 hs (.inr (.inl h2));rcases lk with ⟨k,_⟩ | ⟨_,c,hc,o,D,hd⟩
  ·have k:X.env.scope.names.lookup q.1=some .local:=k;rw [h2] at k;cases k
  ·rw [h3] at hc;cases hc;refine ⟨o,u,?_,hd,rv⟩;rw [L h5,D]
   rfl
theorem Zhg {cl:Um}{Q:VK}{u:Value}{s':Shared}(hN:∀b∈cl.map (·.2),H b=none)(L:∀b∈cl.map (·.2),∃o,s.heap.get? b=some o)(O:∀b∈frs X.stack,b ∉ cl.map (·.2))(h:CE X.stack X.prog X.w (Zc3 cl s.heap H) s (λv H'=>Q v (hideC cl H')) u s'):CE X.stack X.prog X.w H s Q u s':=by
 obtain ⟨v,H',os,j,un,B,rv,q⟩:=h;have U:∀{b:Addr},b∈cl.map (·.2)->Zc3 cl s.heap H b=(s.heap.get? b).map (λo=>HO.frz o (.own b)):=λ{b} z=>if_pos z;have out:∀{b:Addr},b ∉ cl.map (·.2)->Zc3 cl s.heap H b=H b:=λ{b} z=>if_neg z;have Z:∀b∈cl.map (·.2),∃o,s.heap.get? b=some o/\H' b=some (.frz o (.own b)):=λb hb=>by
  obtain ⟨o,D⟩:=L b hb;refine ⟨o,D,un.frzs b o _ ?_⟩;rw [U hb,D]
  rfl
 have nz:∀{b:Addr}{o:HO},H b=some o->b ∉ cl.map (·.2):=λ{b o} e z=>by rw [hN b z] at e;cases e
 refine ⟨v,hideC cl H',os,j,⟨λb o e n h1 h2=>?_,λb o e n h1 h2=>un.slot b o e (by rw [out (O b h1)];exact n) h1 h2,λb o e n h1=>?_,un.there,λb ys e=>?_,λb o y e=>?_,λb ys e=>?_⟩,XI B λc hc=>?_,rv,q⟩
 ·by_cases z:b∈cl.map (·.2)
  ·obtain ⟨o',D,Y⟩:=Z b z;rw [e] at D;cases D;exact (show ObjOk X.prog X.w H' s'.heap b (.frz o (.own b)) from B _ _ Y).1
  ·exact un.keep b o e (by rw [out z];exact n) h1 h2
 ·by_cases z:b∈cl.map (·.2)
  ·exact JQ z
  ·rw [GG z];exact un.free b o e (by rw [out z];exact n) h1
 ·rw [GG (nz e)];exact un.tups b ys (by rw [out (nz e)];exact e)
 ·rw [GG (nz e)];exact un.frzs b o y (by rw [out (nz e)];exact e)
 ·rw [GG (nz e)];exact un.tbls b ys (by rw [out (nz e)];exact e)
 ·obtain ⟨o,_,Y⟩:=Z c hc;exact ⟨o,Y⟩
noncomputable def Zer (cl:Um)(is:List Nat)(sp:Sp)(dvs:List V)(E:XK)(t:TA):TE:=λσ H Q=>t σ H λvs H1=>∃fvs,Paired (λ(i:Nat) v=>σ[i]?=some (some v)) is fvs /\
 ∀H2:Hp,(∀b,b ∉ cl.map (·.2)->H2 b=H1 b)->(∀b∈cl.map (·.2),H1 b=none)->CellsAt H2 cl fvs->sp (vs++dvs) H2 (λv H'=>Q v (hideC cl H')) E
theorem Zbm {CX:CXT}{k:Nat}{f:Addr}{fd:FuncData}{ps:List Str}{sp:Sp}{ds:List Value}{dvs:List V}{E:XK}{x:Str}{e:Expr}{es:List Expr}{t:TA}{p pos:Pos}{cl:Um}{is:List Nat}(B:Zfz X cl is)(F:FnOk X.prog X.w X.K X.mg X.base CX k f fd ps sp)(hr:Room k X.A)(hg:Gl X x)(hm:X.mg x=some (.ref f))(hk:W.keepIn X.K (.ref f)=true)(D:Binds X.K fd ps ds)(hd:Vals dvs ds)(hx:∀{outer:List Env}{H:Hp}{s:Shared}{ev:Value}{s':Shared},CX outer H s E ev s'->False)(ha:PA X (e::es) t)(Y:(x == ("__debug__" : Str))=false:=by decide)(he:starEach (e::es) X.env=(false,eval e X.env)::starEach es X.env:=by rfl)(Z:(backTo pos (starEach es X.env)).any (·.1)=false:=by rfl) :
  PE X (.Call (.Name x p) (e::es) [] pos) (Zer cl is sp dvs E t):=by
 intro qQ s σ H Q I h;refine Ydl (Uq I hg hm ?_ Y);refine W.callWith_K (h₀:=X.base) I.ok.mod.kin hk (thG (ha pos qQ s σ H _ I h) λus s1 vs H1 j r ⟨fvs,hv,q⟩=>⟨j.kIn,?_⟩) he Z;obtain ⟨aa,hC,hN⟩:=Zc4 j B hv;have q:=q _ (λb z=>if_neg z) hN hC;have r2:Vals (vs++dvs) (us++ds):=r.append hd;have hl:(us++ds).length=ps.length:=by rw [<-r2.length];exact F.len _ _ _ _ q
 refine wpAny_call (codeAny_mono (F.run X.A X.stack s1 _ ⟨us,[]⟩ (us++ds) (vs++dvs) _ E hr aa (D s1 us j.kIn hl) r2 q) λr s' L=>?_);cases r with
 | error e=>exact (hx L).elim
 | ok fl=>
  cases fl with
  | ret u=>
   refine j.after (Zhg hN (λb D=>?_) (λb D z=>?_) L)
   ·obtain ⟨O,U,_⟩:=UF B b D;obtain ⟨v',o,ho,_⟩:=j.cell O b U;exact ⟨o,ho⟩
   ·obtain ⟨O,U,hf⟩:=UF B b z;rcases Yau.mp (j.stkSub b D) with y | y
    ·exact j.cne O b U y
    ·obtain ⟨_,o,ho,_⟩:=j.ok.funs.mem y;exact Ycf _ (Yax (Yal ho) (j.ok.cab O b hf U))
  | next=>exact False.elim L
  | brk=>exact False.elim L
  | cont=>exact False.elim L
end
theorem YE {a b:Expr}{env:Env}{p pos:Pos}{args:List Expr}{j:List Keyword}:eval (.Call (.Subscript a b p) args j pos) env=(eval (.Subscript a b p) env >>= λf=>callWith pos f [] (backTo pos (starEach args env)) (backToKw pos (keywordEach j env))):=by
 simp only [eval]
section
variable {X:Cx}
noncomputable def Zes (j:TE)(B:Addr->Sp->Prop)(dvs:List V)(E:XK)(t:TA):TE:=λσ H Q=>j σ H λv H1=>∃f sp,v=.ref f/\B f sp/\Zcp sp dvs E t σ H1 Q
theorem Zbn {CX:CXT}{k:Nat}{ps:List Str}{B:Addr->Sp->Prop}{ds:List Value}{dvs:List V}{E:XK}{a b e:Expr}{es:List Expr}{D:TE}{t:TA}{p pos:Pos}(U:∀f sp,B f sp->∃fd,FnOk X.prog X.w X.K X.mg X.base CX k f fd ps sp/\W.keepIn X.K (.ref f)=true/\Binds X.K fd ps ds)(Y:Room k X.A)(Z:PE X (.Subscript a b p) D)(hd:Vals dvs ds)(hx:Ol CX X E)(ha:PA X (e::es) t)(he:starEach (e::es) X.env=(false,eval e X.env)::starEach es X.env:=by rfl)(j:(backTo pos (starEach es X.env)).any (·.1)=false:=by rfl):PE X (.Call (.Subscript a b p) (e::es) [] pos) (Zes D B dvs E t):=by
 intro qQ s σ H Q I h;show wpAny _ _ (eval _ _) _ _ _;rw [YE];refine Yaa (thG (Z qQ s σ H _ I h) λu s1 v H1 L r1 ⟨f,sp,ev,hc,q⟩=>?_);subst ev;obtain rfl:u=Value.ref f:=r1;obtain ⟨fd,F,hk,hb⟩:=U f sp hc;refine W.callWith_K (h₀:=X.base) L.ok.mod.kin hk (thG (ha pos qQ s1 σ H1 _ L q) λus s2 vs H2 O r q=>⟨O.kIn,?_⟩) he j;exact V6 F Y hb hd hx O r q
end
end L2
namespace M
open PySem L2
noncomputable def top (i:Nat):Stmt:=PySem.Challenge.pw_onceways_k46_tables_joined.main.body.getD i (.Pass ⟨0,0,0,0⟩)
noncomputable abbrev Zet:Stmt:=top 6
noncomputable abbrev ZdD:Stmt:=top 7
noncomputable abbrev Zeu:Stmt:=top 8
noncomputable abbrev Zev:Stmt:=top 9
noncomputable abbrev Zew:Stmt:=top 10
noncomputable abbrev Zex:Stmt:=top 12
noncomputable abbrev Zey:Stmt:=top 13
noncomputable abbrev sIB:Stmt:=top 14
noncomputable abbrev sIE:Stmt:=top 15
noncomputable abbrev sIF:Stmt:=top 16
noncomputable abbrev sBo:Stmt:=top 17
noncomputable abbrev sEo:Stmt:=top 18
noncomputable abbrev sFw:Stmt:=top 19
noncomputable abbrev ZfA:Stmt:=top 21
noncomputable abbrev Zbo:Stmt:=top 22
noncomputable abbrev ZfB:Stmt:=top 23
noncomputable abbrev Zez:Stmt:=top 24
noncomputable abbrev ZeA:Stmt:=top 25
noncomputable abbrev ZdE:Stmt:=top 26
noncomputable abbrev ZfC:Stmt:=top 27
noncomputable abbrev ZfD:Stmt:=top 28
noncomputable abbrev ZeB:Stmt:=top 29
noncomputable abbrev ZfE:Stmt:=top 30
noncomputable abbrev ZfF:Stmt:=top 31
noncomputable abbrev ZfG:Stmt:=top 32
noncomputable abbrev Zav:Stmt:=top 33
noncomputable abbrev Zbp:Stmt:=Zd (top 5) 0
noncomputable abbrev Zc5:Stmt:=Zd (top 5) 1
section
variable {P:Program}{w:World}{K:W.Frag}{mg:Str->Option Value}{base:Heap}
theorem JB:2<=sizeLine:=by decide
theorem Zc6 {xs:List V}{i:Int}{v:V}(h0:0<=i)(h:xs[i.toNat]?=some v):atI xs i=some v:=by
 obtain ⟨k,rfl⟩:=Int.eq_ofNat_of_zero_le h0;exact Gm h
theorem Z5 {H:Hp}{xs:List V}{ts:List Tri}(T:Trs H xs ts){c:Int}{r:Tri}(n:Nd ts c r):∃t,atI xs (c-2)=some (.ref t)/\H t=some (.tup [.int r.1,.int r.2.1,.int r.2.2]):=by
 obtain ⟨t,h1,h2⟩:=T.at n.2;exact ⟨t,Zc6 (by have:=n.1;lia) h1,h2⟩
structure TabAt (H:Hp)(tb l:Addr)(root:Int)(xs:List V)(ts:List Tri):Prop where
 w:H tb=some (.tup [.int root,.ref l])
 l:H l=some (.lst xs)
 t:Trs H xs ts
theorem TabAt.same {H H':Hp}{tb l:Addr}{root:Int}{xs:List V}{ts:List Tri}(h:TabAt H tb l root xs ts)(s:Same H H'):TabAt H' tb l root xs ts:=⟨s _ _ h.w,s _ _ h.l,h.t.same s⟩
theorem JR {ns:List Int}{i:Nat}{x:V}(h:(ns.map V.int)[i]?=some x):∃z,x=.int z/\ns[i]?=some z:=by
 rw [Ybb] at h;cases hz:ns[i]? with
 | none=>rw [hz] at h;cases h
 | some z=>rw [hz] at h;cases h;exact ⟨z,rfl,rfl⟩
end
section
theorem Zgg:¬ (("most" : Str) = "nodes"):=by decide +kernel
theorem Zgh:¬ (("most" : Str) = "places"):=by decide +kernel
theorem Zgi:¬ (("nodes" : Str) = "places"):=by decide +kernel
noncomputable def Zaw (m:V)(nl pd:Addr):List (Str×V):=O6 "places" (.ref pd) (O6 "nodes" (.ref nl) (O6 "most" m []))
theorem Wy (m:V)(nl pd:Addr):(Zaw m nl pd).lookup ("most" : Str)=some m:=by
 unfold Zaw;rw [GJ,if_neg Zgh,GJ,if_neg Zgg,GJ,if_pos rfl]
theorem Of (m:V)(nl pd:Addr):(Zaw m nl pd).lookup ("nodes" : Str)=some (.ref nl):=by
 unfold Zaw;rw [GJ,if_neg Zgi,GJ,if_pos rfl]
theorem Jy (m:V)(nl pd:Addr):(Zaw m nl pd).lookup ("places" : Str)=some (.ref pd):=by
 unfold Zaw;rw [GJ,if_pos rfl]
theorem Zc7 (m:V)(nl pd:Addr){x:Str}(h1:¬ x = "places")(h2:¬ x = "nodes")(j:¬ x = "most"):(Zaw m nl pd).lookup x=none:=by
 unfold Zaw;rw [GJ,if_neg h1,GJ,if_neg h2,GJ,if_neg j]
 rfl
end
structure PlOk (kvs:List (List Key×V))(ts:List Tri):Prop where
 s:SeenOk kvs ts
 n:∀r:Tri,JW kvs (UQ r)=none->r ∉ ts
 l:kvs.length<=ts.length
theorem PlOk.nil:PlOk [] []:=⟨λr v e=>(by cases e),λr _ h=>(by cases h),Yad _⟩
theorem PlOk.add {kvs:List (List Key×V)}{ts:List Tri}(S:PlOk kvs ts)(r:Tri):PlOk (JI kvs (UQ r) (.int ((ts.length:Int)+2))) (ts++[r]):=by
 refine ⟨S.s.add rfl,λq e j=>?_,Yca (Jj _ _ _) (by rw [Yae,Yap];have:=S.l;lia)⟩;rw [Jr] at e;by_cases h:UQ q=UQ r
 ·rw [if_pos h] at e;cases e
 ·rw [if_neg h] at e;rcases Yag.mp j with z | z
  ·exact S.n q e z
  ·exact h (by rw [Yai.mp z])
structure ShelfAt (C:Addr)(H:Hp)(p nl pd:Addr)(m:V)(xs:List V)(ts:List Tri)(kvs:List (List Key×V)):Prop where
 ob:∃dx,H p=some (.ins C dx (Zaw m nl pd))
 nd:H nl=some (.lst xs)
 tr:Trs H xs ts
 pl:H pd=some (.dT kvs)
 ok:PlOk kvs ts
structure Shf (C:Addr)(H0 H:Hp)(p nl pd:Addr)(m:V)(ts:List Tri):Prop where
 kp:∀b o,b≠nl->b≠pd->H0 b=some o->H b=some o
 at_:∃xs kvs,ShelfAt C H p nl pd m xs ts kvs
section
variable {C p nl pd:Addr}{H0 H H':Hp}{m:V}{xs:List V}{ts:List Tri}{kvs:List (List Key×V)}
theorem ShelfAt.same (S:ShelfAt C H p nl pd m xs ts kvs)(s:Same H H'):ShelfAt C H' p nl pd m xs ts kvs:=
 ⟨S.ob.elim λdx e=>⟨dx,s _ _ e⟩,s _ _ S.nd,S.tr.same s,s _ _ S.pl,S.ok⟩
end
structure ZeC (K:W.Frag)(mg:Str->Option Value)(C TM:Addr):Prop where
 cl:Cls K C
 nM:NoAttr K C "most"
 nN:NoAttr K C "nodes"
 nP:NoAttr K C "places"
 mgC:mg "Shelf" = some (.ref C)
section
variable {P:Program}{w:World}{K:W.Frag}{mg:Str->Option Value}{base:Heap}
noncomputable def ZeD (C:Addr):Sp:=λvs H Q _=>∃(p dx:Addr)(m:V),vs=[.ref p,m]/\H p=some (.ins C dx [])/\∀(nl pd:Addr)(H':Hp),H nl=none->H pd=none->nl≠pd->ShelfAt C H' p nl pd m [] [] []->(∀b o,H b=some o->b≠p->H' b=some o)->Q .non H'
theorem Zgj:Gs ["self", "most"] ["self", "most"] (Gh Zbp):=⟨rfl,rfl,rfl,by decide +kernel,rfl,by decide +kernel,by decide +kernel⟩
theorem ZeE {f C TM:Addr}{fd:FuncData}{dV:Value}(F:FunD K "__init__" "Shelf.__init__" Zbp dV f fd)(T:ZeC K mg C TM):FnOk P w K mg base CX0 1 f fd ["self", "most"] (ZeD C):=by
 refine F.ok Zgj (λvs H Q E h=>?_) (λaa A outer s H vs Q E hr h=>?_)
 ·obtain ⟨p,dx,m,rfl,_⟩:=h
  rfl
 ·obtain ⟨p,dx,m,rfl,hp,q⟩:=h;refine ⟨_,Ge (Y0 (pv 0) (pv 1) rfl)
    (Ge (Y0 (pv 0) (Gy Gc) rfl)
    (Gj (Y0 (pv 0) ZaQ rfl))),?_⟩
  refine ⟨_,rfl,_,rfl,p,C,dx,[],rfl,hp,T.cl,T.nM,(by show 0<1000;decide),?_⟩;have Y:upd H p (.ins C dx (O6 "most" m [])) p=some (.ins C dx (O6 "most" m [])):=Gb;have k1:∀b o,H b=some o->b≠p->upd H p (.ins C dx (O6 "most" m [])) b=some o:=λb o e n=>Gi e n;have Z:∀b,upd H p (.ins C dx (O6 "most" m [])) b=none->H b=none:=λb e=>by
   by_cases z:b=p
   ·rw [z,Y] at e;cases e
   ·rw [Gn z] at e;exact e
  generalize upd H p (.ins C dx (O6 "most" m []))=H1 at Y k1 Z ⊢;refine ⟨Yao _,λnl L=>?_⟩;have O:p≠nl:=Gf Y L;refine ⟨_,rfl,p,C,dx,_,rfl,Gi Y O,T.cl,T.nN,(by show 1<1000;decide),?_⟩;intro pd j;have B:p≠pd:=λz=>by rw [z,Gb] at j;cases j
  have U:nl≠pd:=λz=>by rw [z,Gn (Ne.symm B),Gb] at j;cases j
  have D:H1 pd=none:=by rw [Gn (Ne.symm B),Gn (Ne.symm U)] at j;exact j
  refine ⟨_,rfl,p,C,dx,_,rfl,Gi Gb B,T.cl,T.nP,(by simp [O6];split <;> simp [O6]),?_⟩;refine q nl pd _ (Z _ L) (Z _ D) U ⟨⟨dx,Gb⟩,?_,.nil,?_,PlOk.nil⟩ λb o e n=>?_
  ·rw [Gn (Ne.symm O),Gn U,Gn (Ne.symm O),Gb]
  ·rw [Gn (Ne.symm B),Gb]
  ·have e':=k1 b o e n;rw [Gn n,Gn (Gf e' D),Gn n,Gn (Gf e' L)];exact e'
noncomputable def ZeF (C j:Addr):Sp:=λvs H Q E=>∃(p nl pd:Addr)(M:Int)(xs:List V)(ts:List Tri)(kvs:List (List Key×V))(r lo hi:Int),vs=[.ref p,.int r,.int lo,.int hi]/\ShelfAt C H p nl pd (.int M) xs ts kvs/\ts.length<=10000 /\
 (hi=0->Q (.int lo) H)/\(hi≠0->(∀c H',Nd ts c (r,lo,hi)->Same H H'->Q (.int c) H')/\((r,lo,hi) ∉ ts->((ts.length:Int)<M->∀H',Shf C H H' p nl pd (.int M) (ts++[(r,lo,hi)])->Q (.int ((ts.length:Int)+2)) H')/\(¬ (ts.length:Int)<M->∀H',Same H H'->E (.ref j) none H')))
theorem scPut:Gs ["self", "road", "low", "high", "node"] ["self", "road", "low", "high"] (Gh Zc5):=⟨rfl,rfl,rfl,by decide +kernel,rfl,by decide +kernel,by decide +kernel⟩
theorem ZeG {f C TM:Addr}{fd:FuncData}(F:Fun K "put" "Shelf.put" Zc5 f fd)(T:ZeC K mg C TM)(ab:mg "TooMany" = some (.ref TM))(ac:ExcC K TM)(D:mg "len" = none):FnOk P w K mg base (CXr P w) 1 f fd ["self", "road", "low", "high"] (ZeF C TM):=by
 refine F.okR scPut (λvs H Q E h=>?_) (λad A outer s H vs Q E hr h=>?_)
 ·obtain ⟨_,_,_,_,_,_,_,_,_,_,rfl,_⟩:=h
  rfl
 ·obtain ⟨p,nl,pd,M,xs,ts,kvs,r,lo,hi,rfl,S,aj,q0,q1⟩:=h;have L:(A.deeper (PyProof.Rows.envOfC "Shelf.put" (Gh Zc5) s.heap.objs.size f ad)).units+1<cLine:=by have:=hr.un;lia
  have ak:=Ybi.symm;refine ⟨_,Ge (Jl (Gr Ox (pv 3) Gg (GA _)) (Gj (Gx (pv 2))) GC)
    (Ge (Gp (i:=4) scPut.nd rfl (Or.inl rfl) (Je (Ga (pv 1) (Ga (pv 2) (Ga (pv 3) Gc)))))
    (Ge (Jl (Xf (Wn L (pv 4) (Oy (pv 0) rfl)) rfl) (Ge (Jl (PW.pt (V1 (Gr Zcl (Oy (pv 0) rfl) ZdK (GA _)) (Vl (Gr ZdS (Gu (YI K) rfl D Ycu (Ga (Oy (pv 0) rfl) Gc)) (Oy (pv 0) rfl) (GA _))))) (Gj (ZaJ (E:=E) rfl Wi rfl ab ac (Ga ZdL Gc))) GC)
    (Ge (WR L (Oy (pv 0) rfl) (pv 4) (GE Jv (Gu (YI K) rfl D Ycu (Ga (Oy (pv 0) rfl) Gc)) Gg) rfl)
    (Gj (Jc (Oq Yce Ycp Ycq GQ (Oy (pv 0) rfl) (Ga (pv 4) Gc)))))) GC)
    (Gj (Gx (Vw L (Oy (pv 0) rfl) (pv 4) (λ_ _=>rfl)))))),?_⟩
  refine ⟨_,rfl,rfl,_,rfl,O7 (λc1=>?_) (λc1=>?_)⟩
  ·have O:hi=0:=V.int.inj (Ycv c1);exact ⟨_,rfl,q0 O⟩
  have O:hi≠0:=λz=>c1 (Ybm (Ybh V.int z));obtain ⟨qo,qn⟩:=q1 O;dsimp only [JZ];refine ⟨_,rfl,_,rfl,_,rfl,(by show 3<=sizeLine;decide),λt ht=>?_⟩;have Z:Same H (upd H t (.tup [.int r,.int lo,.int hi])):=Same.new ht;have U:upd H t (.tup [.int r,.int lo,.int hi]) t=some (.tup ((UQ (r,lo,hi)).map kV)):=Gb;have j:=S.same Z;generalize upd H t (.tup [.int r,.int lo,.int hi])=H1 at Z U j ⊢;obtain ⟨dx,B⟩:=j.ob;have am:=j.tr.len;have an:=j.ok.l;dsimp only [GW];cases hv:JW kvs (UQ (r,lo,hi)) with
  | some v=>
   obtain ⟨c,rfl,hc⟩:=j.ok.s _ _ hv;have dg:DGet H1 pd (.ref t) (some (.int c)):=hv▸DGet.t j.pl U;refine ⟨_,rfl,_,rfl,p,C,dx,_,_,rfl,B,T.cl,T.nP,Jy _ _ _,pd,_,rfl,dg,_,rfl,Oj ?_⟩;dsimp only [JZ];exact ⟨_,rfl,p,C,dx,_,_,rfl,B,T.cl,T.nP,Jy _ _ _,_,rfl,pd,_,rfl,dg,qo c H1 hc Z⟩
  | none=>
   have dg:DGet H1 pd (.ref t) none:=hv▸DGet.t j.pl U;obtain ⟨qM,qE⟩:=qn (j.ok.n _ hv);refine ⟨_,rfl,_,rfl,p,C,dx,_,_,rfl,B,T.cl,T.nP,Jy _ _ _,pd,_,rfl,dg,_,rfl,OW ?_⟩;refine ⟨_,rfl,p,C,dx,_,_,rfl,B,T.cl,T.nM,Wy _ _ _,rfl,_,rfl,OW ?_⟩;refine ⟨_,rfl,p,C,dx,_,_,rfl,B,T.cl,T.nN,Of _ _ _,nl,_,rfl,.inl (SqL.of j.nd),_,rfl,p,C,dx,_,_,rfl,B,T.cl,T.nM,Wy _ _ _,_,_,rfl,rfl,_,rfl,O7 (λc2=>?_) (λc2=>?_)⟩
   ·have ae:((xs.length:Int))>=M:=Ycv c2;exact ⟨by show 1<=sizeLine;rw [Ybi];lia,qE (by lia) H1 Z⟩
   ·have ae:¬ ((xs.length:Int))>=M:=λz=>c2 (Ybm z);dsimp only [JZ];refine ⟨_,rfl,p,C,dx,_,_,rfl,B,T.cl,T.nN,Of _ _ _,nl,_,rfl,.inl (SqL.of j.nd),_,_,rfl,rfl,_,rfl,p,C,dx,_,_,rfl,B,T.cl,T.nP,Jy _ _ _,_,rfl,pd,_,rfl,DPut.t j.pl U (by lia),?_⟩;have aa:p≠pd:=GV B j.pl (λz=>by cases z);have Y:nl≠pd:=GV j.nd j.pl (λz=>by cases z);have af:p≠nl:=GV B j.nd (λz=>by cases z);have ag:t≠pd:=GV U j.pl (λz=>by cases z);have ah:t≠nl:=GV U j.nd (λz=>by cases z);rw [show (xs.length:Int)=(ts.length:Int) by lia];refine ⟨_,rfl,p,C,dx,_,_,rfl,Gi B aa,T.cl,T.nN,Of _ _ _,.inl ⟨rfl,_,SqL.of (Gi j.nd Y)⟩,_,rfl,nl,_,_,rfl,rfl,Gi j.nd Y,by lia,?_⟩;have ai:=j.ok.add (r,lo,hi);have ev:JW (JI kvs (UQ (r,lo,hi)) (.int ((ts.length:Int)+2))) (UQ (r,lo,hi))=some (.int ((ts.length:Int)+2)):=by rw [Jr,if_pos rfl]
    have e1:upd (upd H1 pd (.dT (JI kvs (UQ (r,lo,hi)) (.int ((ts.length:Int)+2))))) nl (.lst (xs++[.ref t])) pd=some (.dT (JI kvs (UQ (r,lo,hi)) (.int ((ts.length:Int)+2)))):=Gi Gb (Ne.symm Y);have e2:upd (upd H1 pd (.dT (JI kvs (UQ (r,lo,hi)) (.int ((ts.length:Int)+2))))) nl (.lst (xs++[.ref t])) t=some (.tup ((UQ (r,lo,hi)).map kV)):=Gi (Gi U ag) ah;have e3:upd (upd H1 pd (.dT (JI kvs (UQ (r,lo,hi)) (.int ((ts.length:Int)+2))))) nl (.lst (xs++[.ref t])) p=some (.ins C dx (Zaw (.int M) nl pd)):=Gi (Gi B aa) af;have t1:∀b ys,H1 b=some (.tup ys)->upd (upd H1 pd (.dT (JI kvs (UQ (r,lo,hi)) (.int ((ts.length:Int)+2))))) nl (.lst (xs++[.ref t])) b=some (.tup ys):=λb ys e=>Gi (Gi e (GV e j.pl (λz=>by cases z))) (GV e j.nd (λz=>by cases z));refine ⟨_,rfl,p,C,dx,_,_,rfl,e3,T.cl,T.nP,Jy _ _ _,_,rfl,pd,_,rfl,ev▸DGet.t e1 e2,?_⟩;exact qM (by lia) _ ⟨λb o n1 n2 e=>Gi (Gi (Z _ _ e) n2) n1,_,_,⟨dx,e3⟩,Gb,(j.tr.keep t1).snoc e2,e1,ai⟩
end
inductive Pt (κ:Type) where
 | leaf (n:Int)
 | node (r:Int) (lo hi:κ)
inductive Rc {κ:Type}(pf:κ->Pt κ)(s:κ):κ->Prop
 | start:Rc pf s s
 | lo {k:κ} {r:Int} {a b:κ}:Rc pf s k->pf k=.node r a b->Rc pf s a
 | hi {k:κ} {r:Int} {a b:κ}:Rc pf s k->pf k=.node r a b->Rc pf s b
section
variable {P:Program}{w:World}{κ:Type}[DecidableEq κ](G:GK P w κ)
noncomputable def PV (H:Hp)(v:V):Pt κ->Prop
 | .leaf n=>v=.int n
 | .node r lo hi=>∃t bl bh,v=.ref t/\H t=some (.tup [.int r,.ref bl,.ref bh])/\G.At H bl lo/\G.At H bh hi
noncomputable def Zgk (pf:κ->Pt κ)(Dom:κ->Prop):Sp:=λvs H Q _=>∃(b:Addr)(k:κ),vs=[.ref b]/\G.At H b k/\Dom k/\∀(v:V)(H':Hp),Same H H'->PV G H' v (pf k)->Q v H'
structure FndG (pf:κ->Pt κ)(s:κ)(H:Hp)(kvs:GKv κ):Prop where
 ks:GKeys G H kvs
 nd:(kvs.map (·.1)).Nodup
 rc:∀p∈kvs,Rc pf s p.1
 pv:∀p∈kvs,PV G H p.2.2 (pf p.1)
end
section
variable {P:Program}{w:World}{κ:Type}[DecidableEq κ]{G:GK P w κ}{H H':Hp}{v:V}{pf:κ->Pt κ}{s:κ}{kvs:GKv κ}
theorem PV.keep {p:Pt κ}(h:PV G H v p)(t:∀b ys,H b=some (.tup ys)->H' b=some (.tup ys)):PV G H' v p:=by
 cases p with
 | leaf n=>exact h
 | node r lo hi=>
  obtain ⟨x,j,B,e,h1,h2,D⟩:=h;exact ⟨x,j,B,e,t _ _ h1,G.keep h2 t,G.keep D t⟩
theorem FndG.keep (F:FndG G pf s H kvs)(t:∀b ys,H b=some (.tup ys)->H' b=some (.tup ys)):FndG G pf s H' kvs:=⟨F.ks.keep t,F.nd,F.rc,λp j=>(F.pv p j).keep t⟩
theorem UG {k:κ}(h:OR kvs k=none):k ∉ kvs.map (·.1):=by
 intro j;obtain ⟨p,B,rfl⟩:=Yam.mp j;unfold OR at h;have:=List.find?_eq_none.mp (Ydg.mp h) p B;simp at this
theorem XJ {k:κ}{v:V}(h:OR kvs k=some v):∃b,(k,b,v)∈kvs:=by
 unfold OR at h;obtain ⟨p,j,rfl⟩:=Ybk.mp h;have h1:=List.find?_some j;have h2:=List.mem_of_find?_eq_some j;exact ⟨p.2.1,by rw [<-Ycv h1];exact h2⟩
theorem Z6 (nd:(kvs.map (·.1)).Nodup){k:κ}{b:Addr}{v:V}(h:(k,b,v)∈kvs):OR kvs k=some v:=by
 unfold OR
 induction kvs with
 | nil=>cases h
 | cons p kvs ih=>
  rw [Yaq] at nd;obtain ⟨B,D⟩:=List.nodup_cons.mp nd;rcases Yau.mp h with e | e
  ·rw [<-e];simp
  ·have j:¬ p.1=k:=λz=>B (by rw [z];exact Yam.mpr ⟨_,e,rfl⟩);rw [Ycg];simp only [j,decide_false,Bool.false_eq_true,if_false];exact ih D e
theorem Wz {k:κ}{b:Addr}{v:V}(h:OR kvs k=none):OR (kvs++[(k,b,v)]) k=some v:=by
 unfold OR at h ⊢;rw [List.find?_append,Ydg.mp h];simp
theorem FndG.snoc (F:FndG G pf s H kvs){k:κ}{b:Addr}{v:V}(D:OR kvs k=none)(L:G.At H b k)(O:Rc pf s k)(U:PV G H v (pf k)):FndG G pf s H (kvs++[(k,b,v)]):=by
 refine ⟨λp j=>?_,?_,λp j=>?_,λp j=>?_⟩
 ·rcases Yag.mp j with h | h
  ·exact F.ks p h
  ·rw [Yai.mp h];exact L
 ·rw [Yak];refine Ycd.mpr ⟨F.nd,by simp,λa ha c B=>?_⟩;have B:c=k:=by simpa using B
  rw [B];exact λz=>UG D (z▸ha)
 ·rcases Yag.mp j with h | h
  ·exact F.rc p h
  ·rw [Yai.mp h];exact O
 ·rcases Yag.mp j with h | h
  ·exact F.pv p h
  ·rw [Yai.mp h];exact U
end
noncomputable def Shut {κ:Type}(pf:κ->Pt κ)(s:κ)(ks j:List κ):Prop:=(s∈ks\/s∈j)/\∀k∈ks,∀r a b,pf k=.node r a b->(a∈ks\/a∈j)/\(b∈ks\/b∈j)
theorem Shut.all {κ:Type}{pf:κ->Pt κ}{s:κ}{ks:List κ}(h:Shut pf s ks []):∀k,Rc pf s k->k∈ks:=by
 intro k j
 induction j with
 | start=>exact h.1.resolve_right (by simp)
 | lo _ e ih=>exact (h.2 _ ih _ _ _ e).1.resolve_right (by simp)
 | hi _ e ih=>exact (h.2 _ ih _ _ _ e).2.resolve_right (by simp)
section
variable {P:Program}{w:World}{K:W.Frag}{mg:Str->Option Value}{base:Heap}{κ:Type}[DecidableEq κ]{G:GK P w κ}{pf:κ->Pt κ}{Dom:κ->Prop}{HF:Hp->Prop}
noncomputable def ZeH (G:GK P w κ)(pf:κ->Pt κ)(j:Addr):Sp:=λvs H Q _=>∃(b:Addr)(s:κ)(U:List κ),vs=[.ref b,.ref j]/\G.At H b s/\(∀k,Rc pf s k->k∈U)/\U.length<=100000 /\
 ∀(fo:Addr)(kvs:GKv κ)(H':Hp),Same H H'->H fo=none->H' fo=some (gd G fo kvs)->FndG G pf s H' kvs->(∀k,Rc pf s k->k∈kvs.map (·.1))->kvs.length<=U.length->Q (.ref fo) H'
theorem scPbl:Gs ["start", "parts", "found", "pending", "part"] ["start", "parts"] (Gh Zet):=⟨rfl,rfl,rfl,by decide +kernel,rfl,by decide +kernel,by decide +kernel⟩
theorem ZeI {f fP:Addr}{fd ao:FuncData}{kp:Nat}{ps:List Str}(F:Fun K "parts_below" "parts_below" Zet f fd)(ah:∀{H H':Hp},HF H->Same H H'->HF H')(ap:∀{H:Hp},HF H->FnIn H fP)(az:Binds K ao ps [])(a1:FnOk P w K mg base CX0 kp fP ao ps (λvs H Q E=>HF H/\Zgk G pf Dom vs H Q E))(aq:∀s k,Rc pf s k->Dom s->Dom k)(a2:W.kitOne K (.type "int") (.type "tuple")=some false)(ar:mg "isinstance" = none)(as:mg "tuple" = none):FnOk P w K mg base CX0 (kp+1) f fd ["start", "parts"] (λvs H Q E=>(HF H/\∀b s,vs=[.ref b,.ref fP]->G.At H b s->Dom s)/\ZeH G pf fP vs H Q E):=by
 refine F.ok scPbl (λvs H Q E h=>?_) (λa3 A outer s H vs Q E hr h=>?_)
 ·obtain ⟨_,_,_,_,rfl,_⟩:=h
  rfl
 ·obtain ⟨⟨ai,au⟩,b,st,U,rfl,hb,hU,aB,qq⟩:=h;have a4:Dom st:=au b st rfl hb;have L:(A.deeper (PyProof.Rows.envOfC "parts_below" (Gh Zet) s.heap.objs.size f a3)).units+71<cLine:=by have:=hr.un;lia
  have aC:=Ybi.symm;refine ⟨_,Ge (Gp (i:=2) scPbl.nd rfl (Or.inl rfl) (ZY (G:=G)))
    (Ge (Gp (i:=3) scPbl.nd rfl (Or.inl rfl) (Gy (Ga (pv 0) Gc)))
    (Ge (Vm Yck (Vo (pv 3) (λ_=>rfl))
    (Ge (Gp (i:=4) scPbl.nd rfl (Or.inl rfl) (Zd1 Yce PySem.F.slot_list_pop PySem.F.type_list_pop Zd2 (pv 3)))
    (Gj (Jl (Xf (ZZ (G:=G) L (pv 4) (pv 2)) rfl) (Ge (W6 (G:=G) L (pv 2) (pv 4) (Zbl a1 hr (pv 1) az .nil Gv (Ga (pv 4) Gc)) rfl)
    (Gj (Jl (Ju (Gu (ZcA K) rfl ar JM (Ga (OL (G:=G) L (pv 2) (pv 4) (λ_ _=>rfl)) (Ga (Uz as Jd) Gc)))) (Gj (Jc (Oq Yce PySem.F.slot_list_extend PySem.F.type_list_extend Ve (pv 3) (Ga (J8 (Zfx K) (OL (G:=G) L (pv 2) (pv 4) (λ_ _=>rfl)) (OV Gg) OU) Gc)))) GC))) GC))))
    (Gj (Gx (pv 2))))),?_⟩
  refine Gw (λσ' H'=>∃fo:Addr,σ'=[some (.ref b),some (.ref fP),some (.ref fo),none,none]/\Same H H'/\H fo=none/\H' fo=some (gd G fo ([]:GKv κ))) ?s0 ?f0
  case f0=>exact λj fo aa=>j _ _ ⟨fo,rfl,Same.new aa,aa,Gb⟩
  rintro σ' H1 ⟨fo,rfl,s1,aa,ef⟩;refine Gw (λσ' H'=>∃B:Addr,σ'=[some (.ref b),some (.ref fP),some (.ref fo),some (.ref B),none]/\Same H1 H'/\H1 B=none/\H' B=some (.lst [.ref b])) ?s1 ?f1
  case f1=>exact λj=>⟨_,rfl,(by show 1<=sizeLine;decide),λB ab=>j _ _ ⟨B,rfl,Same.new ab,ab,Gb⟩⟩
  rintro σ' H2 ⟨B,rfl,s2,ab,ep⟩;have aj:B≠fo:=Ne.symm (Gf ef ab);have av:H B=none:=s1.free ab;refine Gw (λσ' H'=>∃(kvs:GKv κ)(v4:Option V),σ'=[some (.ref b),some (.ref fP),some (.ref fo),some (.ref B),v4]/\Same H H'/\H' fo=some (gd G fo kvs)/\FndG G pf st H' kvs/\Shut pf st (kvs.map (·.1)) []) ?s2 ?f2
  case s2=>
   rintro σ' H3 ⟨kvs,v4,rfl,s3,e3,F3,sh⟩;have hl:kvs.length<=U.length:=by
    have:=Ydp F3.nd (l₂:=U) λk j=>by
     obtain ⟨p,D,rfl⟩:=Yam.mp j;exact hU _ (F3.rc p D)
    rwa [Yab] at this
   exact ⟨_,rfl,qq fo kvs H3 s3 aa e3 F3 sh.all hl⟩
  case f2=>
   intro j;refine ⟨λm σ' H'=>∃(kvs:GKv κ)(bs:List (Addr×κ))(v4:Option V),σ'=[some (.ref b),some (.ref fP),some (.ref fo),some (.ref B),v4]/\Same H H'/\H' fo=some (gd G fo kvs)/\H' B=some (.lst (bs.map λz=>V.ref z.1))/\FndG G pf st H' kvs/\(∀z∈bs,G.At H' z.1 z.2/\Rc pf st z.2)/\Shut pf st (kvs.map (·.1)) (bs.map (·.2))/\m=3 * (U.length-kvs.length)+bs.length/\bs.length<=1+2 * kvs.length,
    ⟨_,[],[(b,st)],none,rfl,s1.trans s2,s2 _ _ ef,ep,⟨λp D=>(by cases D),Ydm,λp D=>(by cases D),λp D=>(by cases D)⟩,λz hz=>by rw [Yai.mp hz];exact ⟨G.keep hb λp ys e=>s2 _ _ (s1 _ _ e),.start⟩,⟨.inr (by simp),λk j=>(by cases j)⟩,rfl,by simp⟩,?_⟩
   rintro m σ' H3 ⟨kvs,bs,v4,rfl,s3,e3,ac,F3,ak,sh,rfl,af⟩;have aD:kvs.length<=U.length:=by
    have:=Ydp F3.nd (l₂:=U) λk j=>by
     obtain ⟨p,D,rfl⟩:=Yam.mp j;exact hU _ (F3.rc p D)
    rwa [Yab] at this
   by_cases aw:bs=[]
   ·subst aw;refine ⟨_,rfl,false,.inl ⟨_,SqL.of ac,rfl⟩,Oj ?_⟩;exact j _ _ ⟨kvs,v4,rfl,s3,e3,F3,sh⟩
   ·obtain ⟨cs,z,rfl⟩:∃cs z,bs=cs++[z]:=⟨_,_,(List.dropLast_concat_getLast aw).symm⟩;refine ⟨_,rfl,true,.inl ⟨_,SqL.of ac,by simp⟩,OW ?_⟩;refine ⟨_,λ_ _ h=>h,?_⟩;obtain ⟨Y,ad⟩:=ak z (by simp);refine ⟨_,rfl,.inl ⟨rfl,_,SqL.of ac⟩,B,_,.ref z.1,rfl,rfl,ac,by simp,?_⟩;have a5:((cs++[z]).map λz=>V.ref z.1).dropLast=cs.map λz=>V.ref z.1:=by rw [Yak];simp
    rw [a5];have t4:∀p ys,H3 p=some (.tup ys)->upd H3 B (.lst (cs.map λz=>V.ref z.1)) p=some (.tup ys):=Jq ac;have s4:Same H (upd H3 B (.lst (cs.map λz=>V.ref z.1))):=s3.put av;have e4:upd H3 B (.lst (cs.map λz=>V.ref z.1)) fo=some (gd G fo kvs):=Gi e3 (Ne.symm aj);have am:upd H3 B (.lst (cs.map λz=>V.ref z.1)) B=some (.lst (cs.map λz=>V.ref z.1)):=Gb;have F4:=F3.keep t4;have Y:=G.keep Y t4;have ag:∀y∈cs,G.At (upd H3 B (.lst (cs.map λz=>V.ref z.1))) y.1 y.2/\Rc pf st y.2:=λy hy=>⟨G.keep (ak y (by simp [hy])).1 t4,(ak y (by simp [hy])).2⟩;generalize upd H3 B (.lst (cs.map λz=>V.ref z.1))=H4 at s4 e4 am F4 Y ag ⊢;have ax:∀k,k∈(cs++[z]).map (·.2)->k=z.2\/k∈cs.map (·.2):=λk j=>by
     rw [Yak] at j;rcases Yag.mp j with h | h
     ·exact .inr h
     ·exact .inl (by simpa using h)
    dsimp only [GW];refine ⟨_,rfl,_,rfl,fo,OR kvs z.2,rfl,⟨kvs,z.2,z.1,.inl e4,F4.ks,rfl,Y,rfl⟩,_,rfl,?_⟩;cases hv:OR kvs z.2 with
    | some v=>
     refine Oj ?_;obtain ⟨b',hm⟩:=XJ hv;have a6:z.2∈kvs.map (·.1):=Yam.mpr ⟨_,hm,rfl⟩;have mv:∀k,(k∈kvs.map (·.1)\/k∈(cs++[z]).map (·.2))->(k∈kvs.map (·.1)\/k∈cs.map (·.2)):=λk h=>h.elim .inl λh=>(ax k h).elim (λe=>.inl (e▸a6)) .inr;exact ⟨3 * (U.length-kvs.length)+cs.length,by rw [Yae,Yap];lia,kvs,cs,_,rfl,s4,e4,am,F4,ag,⟨mv _ sh.1,λk j r a b e=>⟨mv _ (sh.2 k j r a b e).1,mv _ (sh.2 k j r a b e).2⟩⟩,rfl,by rw [Yae,Yap] at af;lia⟩
    | none=>
     refine OW ?_;have aE:kvs.length<U.length:=by
      have hn:(kvs.map (·.1)++[z.2]).Nodup:=Ycd.mpr ⟨F4.nd,by simp,λa ha c hc=>by
       have hc:c=z.2:=by simpa using hc
       rw [hc];exact λe=>UG hv (e▸ha)⟩
      have:=Ydp hn (l₂:=U) λk j=>by
       rcases Yag.mp j with h | h
       ·obtain ⟨p,D,rfl⟩:=Yam.mp h;exact hU _ (F4.rc p D)
       ·rw [Yai.mp h];exact hU _ ad
      rw [Yae,Yab,Yap] at this
      lia
     refine ⟨rfl,ap (ah ai s4),_,rfl,ap (ah ai s4),ah ai s4,z.1,z.2,rfl,Y,aq _ _ ad a4,λv H5 s5 pv=>?_⟩;have F5:=F4.keep λp ys e=>s5 _ _ e;have an:=G.keep Y λp ys e=>s5 _ _ e;refine ⟨_,rfl,_,rfl,fo,z.1,kvs,z.2,rfl,rfl,s5 _ _ e4,F5.ks,an,hv,by lia,?_⟩;have a7:fo≠B:=Ne.symm aj;have t6:∀p ys,H5 p=some (.tup ys)->upd H5 fo (gd G fo (kvs++[(z.2,z.1,v)])) p=some (.tup ys):=λp ys e=>Gi e (GV e (s5 _ _ e4) (λz=>by cases z));have s6:Same H (upd H5 fo (gd G fo (kvs++[(z.2,z.1,v)]))):=(s4.trans s5).put aa;have e6:upd H5 fo (gd G fo (kvs++[(z.2,z.1,v)])) fo=some (gd G fo (kvs++[(z.2,z.1,v)])):=Gb;have Z:upd H5 fo (gd G fo (kvs++[(z.2,z.1,v)])) B=some (.lst (cs.map λz=>V.ref z.1)):=Gi (s5 _ _ am) aj;have F6:=(F5.snoc hv an ad pv).keep t6;have ay:=G.keep an t6;have ae:=pv.keep t6;have O:∀y∈cs,G.At (upd H5 fo (gd G fo (kvs++[(z.2,z.1,v)]))) y.1 y.2/\Rc pf st y.2:=λy hy=>⟨G.keep (G.keep (ag y hy).1 λp ys e=>s5 _ _ e) t6,(ag y hy).2⟩;dsimp only [JZ];change ZgA _ _ _ _ _ (upd H5 fo (gd G fo (kvs++[(z.2,z.1,v)])));generalize upd H5 fo (gd G fo (kvs++[(z.2,z.1,v)]))=H6 at s6 e6 Z F6 ay ae O ⊢;have gg:Yx G H6 fo (.ref z.1) (some v):=⟨_,z.2,z.1,.inl e6,F6.ks,rfl,ay,(Wz hv).symm⟩;have mv:∀k,(k∈kvs.map (·.1)\/k∈(cs++[z]).map (·.2))->(k∈(kvs++[(z.2,z.1,v)]).map (·.1)\/k∈cs.map (·.2)):=λk h=>by
      rw [Yak];rcases h with h | h
      ·exact .inl (Yci _ h)
      ·rcases ax k h with rfl | h
       ·exact .inl (Ybs _ (by simp))
       ·exact .inr h
     cases D:pf z.2 with
     | leaf n=>
      rw [D] at ae;have ev:v=.int n:=ae;subst ev;refine ⟨_,rfl,_,rfl,fo,_,rfl,gg,_,_,false,rfl,⟨_,rfl,Oj ?_⟩,.inl ⟨_,.int _,rfl,a2⟩⟩;refine ⟨3 * (U.length-(kvs++[(z.2,z.1,V.int n)]).length)+cs.length,by rw [Yae,Yae,Yap,Yap];lia,_,cs,_,rfl,s6,e6,Z,F6,O,⟨mv _ sh.1,λk j r a b e=>?_⟩,rfl,by rw [Yae,Yap] at af ⊢;lia⟩;rw [Yak] at j;rcases Yag.mp j with h | h
      ·exact ⟨mv _ (sh.2 k h r a b e).1,mv _ (sh.2 k h r a b e).2⟩
      ·have:k=z.2:=by simpa using h
       rw [this,D] at e;cases e
     | node r lo hi=>
      rw [D] at ae;obtain ⟨t,bl,bh,rfl,et,a8,a9⟩:=ae;refine ⟨_,rfl,_,rfl,fo,_,rfl,gg,_,_,true,rfl,⟨_,rfl,OW ?_⟩,.inl ⟨_,.tup et,rfl,Oa⟩⟩;refine ⟨_,rfl,.inl ⟨rfl,_,SqL.of Z⟩,_,rfl,_,rfl,fo,_,rfl,gg,_,rfl,t,_,rfl,SqT.of et,?_,λq hq=>?_⟩
      ·rintro ⟨zz,_⟩;rw [show (some (1:Int))=some ((1:Nat):Int) from rfl,HT.sIx_nat] at zz;simp at zz
      ·have ec:Xi [V.int r,.ref bl,.ref bh] (some 1) none=[V.ref bl,.ref bh]:=rfl;rw [ec];have s7:Same H6 (upd H6 q (.tup [.ref bl,.ref bh])):=Same.new hq;refine ⟨B,q,_,_,rfl,rfl,s7 _ _ Z,Gb,by rw [Yab];show cs.length+2<=sizeLine;rw [Yae,Yap] at af;lia,?_⟩;have aF:B≠q:=Gf Z hq;have t8:∀p ys,upd H6 q (.tup [.ref bl,.ref bh]) p=some (.tup ys)->upd (upd H6 q (.tup [.ref bl,.ref bh])) B (.lst ((cs.map λz=>V.ref z.1)++[.ref bl,.ref bh])) p=some (.tup ys):=Jq (s7 _ _ Z);have t9:∀p ys,H6 p=some (.tup ys)->upd (upd H6 q (.tup [.ref bl,.ref bh])) B (.lst ((cs.map λz=>V.ref z.1)++[.ref bl,.ref bh])) p=some (.tup ys):=λp ys e=>t8 p ys (s7 _ _ e);refine ⟨3 * (U.length-(kvs++[(z.2,z.1,V.ref t)]).length)+(cs++[(bl,lo),(bh,hi)]).length,by rw [Yae,Yae,Yae,Yap,Yap];show _+(cs.length+2)<_;lia,_,cs++[(bl,lo),(bh,hi)],_,rfl,(s6.trans s7).put av,Gi (s7 _ _ e6) a7,by rw [Gb,Yak];rfl,F6.keep t9,λy hy=>?_,⟨?_,λk j r' a b' e=>?_⟩,rfl,?_⟩
       ·rcases Yag.mp hy with h | h
        ·exact ⟨G.keep (O y h).1 t9,(O y h).2⟩
        ·simp at h;rcases h with rfl | rfl
         ·exact ⟨G.keep a8 t9,.lo ad D⟩
         ·exact ⟨G.keep a9 t9,.hi ad D⟩
       ·exact (mv _ sh.1).imp id λh=>by rw [Yak];exact Yci _ h
       ·have up:∀k,(k∈(kvs++[(z.2,z.1,V.ref t)]).map (·.1)\/k∈cs.map (·.2))->(k∈(kvs++[(z.2,z.1,V.ref t)]).map (·.1)\/k∈(cs++[(bl,lo),(bh,hi)]).map (·.2)):=λk h=>h.imp id λh=>by rw [Yak];exact Yci _ h
        rw [Yak] at j;rcases Yag.mp j with h | h
        ·exact ⟨up _ (mv _ (sh.2 k h r' a b' e).1),up _ (mv _ (sh.2 k h r' a b' e).2)⟩
        ·have aA:k=z.2:=by simpa using h
         rw [aA,D] at e;cases e;exact ⟨.inr (by simp),.inr (by simp)⟩
       ·rw [Yae,Yae,Yap];rw [Yae,Yap] at af;show cs.length+2<=_
        lia
end
inductive YF {κ:Type}(pf:κ->Pt κ):κ->List Int->Prop
 | one {k:κ}:pf k=.leaf 1->YF pf k []
 | lo {k a b:κ} {r:Int} {s:List Int}:pf k=.node r a b->YF pf a s->YF pf k s
 | hi {k a b:κ} {r:Int} {s:List Int}:pf k=.node r a b->YF pf b s->YF pf k (r::s)
noncomputable def Abv {κ:Type}(pf:κ->Pt κ)(k:κ)(lo:Int):Prop:=∀r a b,pf k=.node r a b->lo<r
structure Zb2 {κ:Type}(pf:κ->Pt κ)(s:κ):Prop where
 lf:∀k n,Rc pf s k->pf k=.leaf n->n=0\/n=1
 nd:∀k r a b,Rc pf s k->pf k=.node r a b->(0<=r/\r<30)/\Abv pf a r/\Abv pf b r
structure NumOk {κ:Type}(pf:κ->Pt κ)(ts:List Tri)(k:κ)(c:Int):Prop where
 at_:∀lo,Abv pf k lo->At ts c lo
 has:∀s,Has ts c s↔YF pf k s
structure ShOk (ts:List Tri):Prop where
 ok:TabOk ts
 nd:ts.Nodup
 hi:∀r∈ts,r.2.2≠0
section
variable {κ:Type}{pf:κ->Pt κ}{ts us:List Tri}{k a b:κ}{c r n ca cb:Int}
theorem ShOk.nil:ShOk []:=⟨TabOk.nil,Ydm,λr h=>by cases h⟩
theorem ZeJ {c:Int}{s:List Int}(h:Has ts c s):Has (ts++us) c s:=by
 induction h with
 | one=>exact .one
 | low n _ ih=>exact .low (n.app us) ih
 | high n _ ih=>exact .high (n.app us) ih
theorem Zbq (T:TabOk ts){c:Int}{s:List Int}(h:Has (ts++us) c s):∀{lo:Int},At ts c lo->Has ts c s:=by
 induction h with
 | one=>exact λ_=>.one
 | low n _ ih=>
  intro lo a;obtain ⟨q,m,_⟩:=a.nd (by have:=n.1;lia);have e:=(m.app us).one n;subst e;exact .low m (ih (T.nd m).2.1)
 | high n _ ih=>
  intro lo a;obtain ⟨q,m,_⟩:=a.nd (by have:=n.1;lia);have e:=(m.app us).one n;subst e;exact .high m (ih (T.nd m).2.2)
theorem Zbr (pf:κ->Pt κ)(k:κ):∃lo,Abv pf k lo:=by
 cases h:pf k with
 | leaf n=>exact ⟨0,λr a b e=>by rw [h] at e;cases e⟩
 | node r a b=>exact ⟨r-1,λr' j B e=>by rw [h] at e;cases e;lia⟩
theorem NumOk.app (h:NumOk pf ts k c)(T:TabOk ts):NumOk pf (ts++us) k c:=
 ⟨λlo a=>(h.at_ lo a).app us,λs=>⟨λx=>(h.has s).mp (by obtain ⟨lo,a⟩:=Zbr pf k;exact Zbq T x (h.at_ lo a)),λx=>ZeJ ((h.has s).mpr x)⟩⟩
theorem NumOk.leaf (e:pf k=.leaf n)(h:n=0\/n=1):NumOk pf ts k n:=by
 refine ⟨λlo _=>h.imp id .inl,λs=>?_⟩;rw [Has.small (by lia) (by lia)];constructor
 ·rintro ⟨rfl,rfl⟩;exact .one e
 ·intro h';cases h' with
  | one e'=>rw [e] at e';cases e';exact ⟨rfl,rfl⟩
  | lo e' _=>rw [e] at e';cases e'
  | hi e' _=>rw [e] at e';cases e'
theorem NumOk.flat (e:pf k=.node r a b)(ha:Abv pf a r)(na:NumOk pf ts a ca)(nb:NumOk pf ts b 0):NumOk pf ts k ca:=by
 refine ⟨λlo h=>(na.at_ r ha).mono (by have:=h _ _ _ e;lia),λs=>?_⟩;rw [na.has];constructor
 ·exact .lo e
 ·intro h';cases h' with
  | one e'=>rw [e] at e';cases e'
  | lo e' x=>rw [e] at e';cases e';exact x
  | hi e' x=>rw [e] at e';cases e';exact absurd ((nb.has _).mpr x) Has.zero
theorem NumOk.node (e:pf k=.node r a b)(na:NumOk pf ts a ca)(nb:NumOk pf ts b cb)(N:Nd ts c (r,ca,cb)):NumOk pf ts k c:=by
 refine ⟨λlo h=>.inr (.inr ⟨_,N,h _ _ _ e⟩),λs=>?_⟩;constructor
 ·intro h;cases h with
  | one=>exact absurd N.1 (by decide)
  | low n x=>rw [<-N.one n] at x;exact .lo e ((na.has _).mp x)
  | high n x=>
   rw [<-N.one n] at x ⊢;exact .hi e ((nb.has _).mp x)
 ·intro h';cases h' with
  | one e'=>rw [e] at e';cases e'
  | lo e' x=>rw [e] at e';cases e';exact .low N ((na.has _).mpr x)
  | hi e' x=>rw [e] at e';cases e';exact .high N ((nb.has _).mpr x)
theorem ShOk.snoc (S:ShOk ts)(h0:0<=r/\r<30)(ha:Abv pf a r)(j:Abv pf b r)(na:NumOk pf ts a ca)(nb:NumOk pf ts b cb)(B:cb≠0)(D:(r,ca,cb) ∉ ts):ShOk (ts++[(r,ca,cb)]):=by
 refine ⟨S.ok.snoc h0 (na.at_ r ha) (nb.at_ r j),Ycd.mpr ⟨S.nd,by simp,λx L y O=>?_⟩,λq U=>?_⟩
 ·rw [Yai.mp O];exact λz=>D (z▸L)
 ·rcases Yag.mp U with h | h
  ·exact S.hi q h
  ·rw [Yai.mp h];exact B
end
section
variable {P:Program}{w:World}{K:W.Frag}{mg:Str->Option Value}{base:Heap}
theorem Fun.okRC {x qual:Str}{st:Stmt}{f c:Addr}{fd:FuncData}{N ps:List Str}{k:Nat}{sp:Sp}(F:Fun K x qual st f fd)(L:fd.code=.ref c)(S:Gs N ps (Gh st))(len:∀vs H Q E,sp vs H Q E->vs.length=ps.length)(O:∀(A:Around)(outer:List Env)(s:Shared)(H:Hp)(vs:List V)(Q:VK)(E:XK),Room k (A.deeper (PyProof.Rows.envOfC qual (Gh st) s.heap.objs.size f (.ref c)))->sp vs H Q E ->
   ∃t,PSs (Ye (CXr P w) P w K mg base N qual (Gh st) f (.ref c) A outer s H E) (GM st) t/\t { nx:=λ_ H'=>Q .non H',rt:=Q } (start N vs) H):FnOk P w K mg base (CXr P w) (k+1) f fd ps sp:=by
 obtain ⟨oc,od,kV,U,pm,an,j,ct,Y,rfl,Z,B⟩:=F.ex;obtain rfl:j=.ref c:=L;exact Y6 Z B S len λA outer s H vs Q E hr D=>O A outer s H vs Q E hr D
end
noncomputable def lqD:Str:=Str.ofString "laid_down.<locals>.<lambda>"
noncomputable abbrev LD (tb:Addr)(H:Hp):Prop:=LamSt tb 42 35 lqD H
noncomputable def Uo {κ:Type}:Pt κ->Bool
 | .leaf _=>false
 | .node ..=>true
noncomputable def rdP {κ:Type}:Pt κ->Int
 | .leaf _=>0
 | .node r _ _=>r
structure Grw {κ:Type}(pf:κ->Pt κ)(s:κ)(ts0 ts:List Tri):Prop where
 pre:∃us,ts=ts0++us
 sh:ShOk ts
 own:∀c r,Nd ts c r->c<ts0.length+2\/∃k,Rc pf s k/\NumOk pf ts k c
section
variable {P:Program}{w:World}{κ:Type}[DecidableEq κ](G:GK P w κ)
structure NV (pf:κ->Pt κ)(ts:List Tri)(done:κ->Prop)(kvs:GKv κ)(H:Hp)(nvs:GKv κ):Prop where
 ks:GKeys G H nvs
 nd:(nvs.map (·.1)).Nodup
 nm:∀q∈nvs,∃c:Int,q.2.2=.int c/\NumOk pf ts q.1 c
 le:∀q∈nvs,done q.1/\q.1∈kvs.map (·.1)
 al:∀q∈kvs,done q.1->∃c:Int,OR nvs q.1=some (.int c)/\NumOk pf ts q.1 c
end
section
variable {P:Program}{w:World}{κ:Type}[DecidableEq κ]{G:GK P w κ}{H H':Hp}{pf:κ->Pt κ}{s:κ}{kvs nvs:GKv κ}{ts:List Tri}{done done':κ->Prop}
theorem NV.keep (N:NV G pf ts done kvs H nvs)(t:∀b ys,H b=some (.tup ys)->H' b=some (.tup ys)):NV G pf ts done kvs H' nvs:=⟨N.ks.keep t,N.nd,N.nm,N.le,N.al⟩
theorem NV.len (N:NV G pf ts done kvs H nvs):nvs.length<=kvs.length:=by
 have:=Ydp N.nd (l₂:=kvs.map (·.1)) λk j=>by
  obtain ⟨q,B,rfl⟩:=Yam.mp j;exact (N.le q B).2
 rwa [Yab,Yab] at this
theorem NV.none (N:NV G pf ts done kvs H nvs){k:κ}(h:¬ done k):OR nvs k=none:=by
 cases e:OR nvs k with
 | none=>rfl
 | some v=>
  obtain ⟨b,j⟩:=XJ e;exact absurd (N.le _ j).1 h
theorem NV.like (N:NV G pf ts done kvs H nvs)(h:∀k∈kvs.map (·.1),done k↔done' k):NV G pf ts done' kvs H nvs:=
 ⟨N.ks,N.nd,N.nm,λq j=>⟨(h _ (N.le q j).2).mp (N.le q j).1,(N.le q j).2⟩,λq j d=>N.al q j ((h _ (Yam.mpr ⟨q,j,rfl⟩)).mpr d)⟩
theorem NV.app (N:NV G pf ts done kvs H nvs)(T:TabOk ts)(us:List Tri):NV G pf (ts++us) done kvs H nvs:=
 ⟨N.ks,N.nd,λq j=>(N.nm q j).elim λc h=>⟨c,h.1,h.2.app T⟩,N.le,λq j d=>(N.al q j d).elim λc h=>⟨c,h.1,h.2.app T⟩⟩
theorem Zbs {k:κ}{v:V}{us:GKv κ}(h:OR nvs k=some v):OR (nvs++us) k=some v:=by
 unfold OR at h ⊢;rw [List.find?_append];obtain ⟨p,j,rfl⟩:=Ybk.mp h;rw [j]
 rfl
theorem NV.snoc (N:NV G pf ts done kvs H nvs){k:κ}{b:Addr}{c:Int}(L:G.At H b k)(O:¬ done k)(U:k∈kvs.map (·.1))(B:NumOk pf ts k c):NV G pf ts (λx=>done x\/x=k) kvs H (nvs++[(k,b,.int c)]):=by
 have D:=N.none O;refine ⟨λp Y=>?_,?_,λq j=>?_,λq j=>?_,λq j d=>?_⟩
 ·rcases Yag.mp Y with h | h
  ·exact N.ks p h
  ·rw [Yai.mp h];exact L
 ·rw [Yak];refine Ycd.mpr ⟨N.nd,by simp,λa ha d hd=>?_⟩;have hd:d=k:=by simpa using hd
  rw [hd];exact λz=>UG D (z▸ha)
 ·rcases Yag.mp j with h | h
  ·exact N.nm q h
  ·rw [Yai.mp h];exact ⟨c,rfl,B⟩
 ·rcases Yag.mp j with h | h
  ·exact ⟨.inl (N.le q h).1,(N.le q h).2⟩
  ·rw [Yai.mp h];exact ⟨.inr rfl,U⟩
 ·by_cases e:q.1=k
  ·rw [e];exact ⟨c,Wz D,B⟩
  ·obtain ⟨c',h1,h2⟩:=N.al q j (d.resolve_right e);exact ⟨c',Zbs h1,h2⟩
theorem Grw.refl {j:List Tri}(S:ShOk j):Grw pf s j j:=⟨⟨[],by simp⟩,S,λc r n=>.inl n.lt⟩
theorem Grw.snoc {j:List Tri}{k a b:κ}{r ca cb:Int}(D:Grw pf s j ts)(B:Rc pf s k)(e:pf k=.node r a b)(h0:0<=r/\r<30)(ha:Abv pf a r)(L:Abv pf b r)(na:NumOk pf ts a ca)(nb:NumOk pf ts b cb)(O:cb≠0)(U:(r,ca,cb) ∉ ts):Grw pf s j (ts++[(r,ca,cb)])/\NumOk pf (ts++[(r,ca,cb)]) k ((ts.length:Int)+2):=by
 have N:NumOk pf (ts++[(r,ca,cb)]) k ((ts.length:Int)+2):=NumOk.node e (na.app D.sh.ok) (nb.app D.sh.ok) (Nd.last ts _);refine ⟨⟨D.pre.elim λus h=>⟨us++[(r,ca,cb)],by rw [h,Ybg]⟩,D.sh.snoc h0 ha L na nb O U,λc q n=>?_⟩,N⟩;by_cases Z:c<(ts.length:Int)+2
 ·have Y:Nd ts c q:=⟨n.1,by
   have:=n.2;have h1:=n.1
   rwa [Ybl (by lia)] at this⟩
  exact (D.own c q Y).imp id λ⟨k,h1,h2⟩=>⟨k,h1,h2.app D.sh.ok⟩
 ·have:=n.lt;rw [Yae,Yap] at this;exact .inr ⟨k,B,by rw [show c=(ts.length:Int)+2 by lia];exact N⟩
end
section
variable {P:Program}{w:World}{K:W.Frag}{mg:Str->Option Value}{base:Heap}{κ:Type}[DecidableEq κ]{G:GK P w κ}{pf:κ->Pt κ}{Dom:κ->Prop}
noncomputable def FrD (nl pd tb:Addr)(H H':Hp):Prop:=∀b o,b≠nl->b≠pd->b≠tb->H b=some o->H' b=some o
noncomputable def ZeK (G:GK P w κ)(pf:κ->Pt κ)(Dom:κ->Prop)(HF:Hp->Prop)(j C B tb:Addr):Sp:=λvs H Q E=>∃(b p nl pd:Addr)(s:κ)(U Un:List κ)(M:Int)(xs0:List V)(ts0:List Tri)(kv0:List (List Key×V)),vs=[.ref b,.ref j,.ref p]/\HF H/\G.At H b s/\Dom s/\(∀k,Rc pf s k->k∈U)/\(∀k,Rc pf s k->Uo (pf k)=true->k∈Un)/\ts0.length+U.length<=10000/\Zb2 pf s/\LD tb H /\
 ShelfAt C H p nl pd (.int M) xs0 ts0 kv0/\ShOk ts0 /\
 (∀(c:Int)(xs:List V)(ts:List Tri)(kvs:List (List Key×V))(H':Hp),FrD nl pd tb H H'->LD tb H'->ShelfAt C H' p nl pd (.int M) xs ts kvs->Grw pf s ts0 ts->ts.length<=ts0.length+Un.length->((ts.length:Int)<=M\/ts=ts0)->(∀k,Rc pf s k->∃c,NumOk pf ts k c)->NumOk pf ts s c->Q (.int c) H') /\
 (∀(ts:List Tri)(H':Hp),FrD nl pd tb H H'->LD tb H'->Grw pf s ts0 ts->M<ts.length->ts.length<=ts0.length+Un.length->E (.ref B) none H')
theorem scLdn:Gs ["start", "parts", "shelf", "numbers", "part", "rising", "road", "low", "high", "found"] ["start", "parts", "shelf"] (Gh ZdD):=⟨rfl,rfl,rfl,by decide +kernel,rfl,by decide +kernel,by decide +kernel⟩
theorem Zhh {X:Cx}{o i:Expr}{td ty:TE}{pos:Pos}(j:PE X o td)(hi:PE X i ty)(B:Zfv i)(D:X.prog=P:=by rfl)(L:X.w=w:=by rfl)(O:X.A.units+71<cLine:=by assumption):PE X (.Subscript o i pos) (ZgP G td ty):=by
 subst D L;exact OL O j hi B
theorem Vg {T:Addr}{j col:Nat}{qual:Str}{H H':Hp}(h:LamSt T j col qual H)(k:∀b o,((∃ps,o=.tbl ps)\/∃B,o=.frz B (.own b))->H b=some o->H' b=some o):LamSt T j col qual H':=by
 rcases h with e | ⟨c,e,B,D,L⟩
 ·exact .inl (k _ _ (.inl ⟨_,rfl⟩) e)
 ·exact .inr ⟨c,k _ _ (.inl ⟨_,rfl⟩) e,B,k _ _ (.inr ⟨_,rfl⟩) D,L⟩
theorem Zbt {B:GKv κ}(O:B.Pairwise λa b=>rdP (pf b.1)<=rdP (pf a.1)){i:Nat}{q D:κ×Addr×V}(hi:B[i]?=some q)(U:D∈B)(Y:rdP (pf q.1)<rdP (pf D.1)):D∈B.take i:=by
 obtain ⟨j,Z,e⟩:=List.getElem_of_mem U;obtain ⟨hi',L⟩:=Yaj.mp hi;by_cases h:j<i
 ·exact List.mem_take_iff_getElem.mpr ⟨j,by lia,e⟩
 ·by_cases h2:i=j
  ·subst h2;rw [<-e,L] at Y
   lia
  ·have:=Ydf.mp O i j hi' Z (by lia);rw [e,L] at this
   lia
theorem UH {k:κ}(h:Uo (pf k)=true):∃r a b,pf k=.node r a b:=by
 cases e:pf k with
 | leaf n=>rw [e] at h;cases h
 | node r a b=>exact ⟨r,a,b,rfl⟩
theorem Z7 {α:Type}{xs:List α}{i:Nat}{x:α}(p:α->Bool)(h:xs[i]?=some x):(xs.take (i+1)).filter p=if p x=true then (xs.take i).filter p++[x] else (xs.take i).filter p:=by
 rw [Ybu,h,Option.toList_some,Ydh];by_cases e:p x=true
 ·rw [if_pos e];simp [e]
 ·rw [if_neg e];simp [e]
theorem ZeL {HF:Hp->Prop}{f c tb fP a2 au C TM:Addr}{fd af ag:FuncData}{kp:Nat}(F:Fun K "laid_down" "laid_down" ZdD f fd)(hc:fd.code=.ref c)(hC:W.CodeHd base c tb)(aV:base.BuiltinsAt mg tb)(aW:Fun K "parts_below" "parts_below" Zet a2 af)(aX:Binds K af ["start", "parts"] [])(aY:mg "parts_below" = some (.ref a2))(aZ:FnOk P w K mg base CX0 (kp+1) a2 af ["start", "parts"] (λvs H Q E=>(HF H/\∀b s,vs=[.ref b,.ref fP]->G.At H b s->Dom s)/\ZeH G pf fP vs H Q E))(inj:∀{H:Hp}{b:Addr}{k k':κ},G.At H b k->G.At H b k'->k=k')(TS:ZeC K mg C TM)(a9:ZfV K C "put" au)(aA:Binds K ag ["self", "road", "low", "high"] [])(aB:FnOk P w K mg base (CXr P w) 1 au ag ["self", "road", "low", "high"] (ZeF C TM))(ba:W.kitOne K (.type "int") (.type "tuple")=some false)(aC:W.kitOne K (.type "tuple") (.type "int")=some false)(av:mg "isinstance" = none)(aD:mg "tuple" = none)(aE:mg "int" = none)(aF:mg "sorted" = none) :
  FnOk P w K mg base (CXr P w) (kp+2) f fd ["start", "parts", "shelf"] (ZeK G pf Dom HF fP C TM tb):=by
 refine Fun.okRC F hc scLdn (λvs H Q E h=>?_) (λA outer s H vs Q E hr h=>?_)
 ·obtain ⟨_,_,_,_,_,_,_,_,_,_,_,rfl,_⟩:=h
  rfl
 ·obtain ⟨b,p,nl,pd,st,U,Un,M,a3,Y,a4,rfl,bb,hb,bc,hU,bd,bF,PO,ld,S0,be,qq,qe⟩:=h;have L:(A.deeper (PyProof.Rows.envOfC "laid_down" (Gh ZdD) s.heap.objs.size f (.ref c))).units+71<cLine:=by have:=hr.un;lia
  have aG:(A.deeper (PyProof.Rows.envOfC "laid_down" (Gh ZdD) s.heap.objs.size f (.ref c))).units+80<cLine:=by have:=hr.un;lia
  have qG:=hr.depth;have bG:=Ybi.symm;refine ⟨_,Ge (Gp (i:=9) scLdn.nd rfl (Or.inr rfl) (Gk aZ hr rfl aY aW.kp aX .nil Gv (Ga (pv 0) (Ga (pv 1) Gc))))
    (Ge (Gp (i:=3) scLdn.nd rfl (Or.inl rfl) (ZY (G:=G)))
    (Ge (JE PassesOwn.leaving rfl (XG (G:=G) (pv 9)) (Go (i:=4) scLdn.nd rfl (Or.inl rfl))
    (Gj (Jl (Ju (Gu (ZcA K) rfl av JM (Ga (OL (G:=G) L (pv 9) (pv 4) (λ_ _=>rfl)) (Ga (Uz aE Uf) Gc)))) (Gj (W6 (G:=G) L (pv 3) (pv 4) (OL (G:=G) L (pv 9) (pv 4) (λ_ _=>rfl)) rfl)) GC)))
    (Ge (Uy (i:=5) scLdn.nd rfl (Or.inl rfl) (own:=["part"]) rfl (Gq (fr:=[("found", 9)]) [(".0", .local),("part", .local),("isinstance", .globalImplicit),("tuple", .globalImplicit),("found", .cell)] rfl rfl (by decide +kernel) rfl (by decide +kernel) ⟨rfl,trivial⟩ ⟨λh=>G7 h,λh=>G7 h,λh=>G7 h,λh=>G7 h,λ_=>⟨_,rfl⟩,trivial⟩ ⟨⟨rfl,.inl rfl,.inl rfl⟩,trivial⟩) (XG (G:=G) (pv 9)) (λ_ _ _ _=>Go (i:=0) (show List.Nodup (["part", "found"]:List Str) by decide +kernel) rfl (Or.inl rfl)) (λ_ _ _ _=>Jb (Ju (Gu (ZcA K) rfl av JM (Ga (Zhh (G:=G) (pv 1) (pv 0) (λ_ _=>rfl)) (Ga (Uz aD Jd) Gc))))) (λ_ _ _ _=>pv 0))
    (Ge (JE PassesOwn.leaving rfl (Jz K (Yt (YB (G:=G) (K:=K) (j:=9) (x:=Str.ofString "part") (y:=Str.ofString "found") (cc:=s.heap.objs.size+1) (qual:=Str.ofString "laid_down.<locals>.<lambda>") (params:={ posonlyargs:=[],args:=[{ arg := "part", annotation:=none,pos:=⟨42,42,42,46⟩:PySem.Arg }],vararg:=none,kwonlyargs:=[],kw_defaults:=[],kwarg:=none,defaults:=[]:PySem.Arguments }) (pm:=(mg "__name__").getD .none) (scope:={ kind:=PySem.ScopeKind.function,names:=[(PySem.Str.ofString "part", PySem.NameKind.local),(PySem.Str.ofString "found", PySem.NameKind.free)],isGenerator:=false,isCoroutine:=false,more:=[]:PySem.Scope }) (p1:=⟨42,48,42,53⟩) (p2:=⟨42,54,42,58⟩) (p5:=⟨42,48,42,59⟩) (p6:=⟨42,60,42,61⟩) (p7:=⟨42,48,42,62⟩) (d2:=0) rfl qG aG rfl (Or.inr (Or.inl rfl)) rfl rfl rfl rfl rfl (λ_ _ _=>rfl) rfl rfl (by decide +kernel) (by decide) (by decide) (by decide)) rfl aF PyProof.Rows.boot_sorted (Ga (pv 5) Gc) (Y4 (Zeh (qual:=Str.ofString "laid_down.<locals>.<lambda>") (clos:=[(Str.ofString "found", s.heap.objs.size+1)]) rfl rfl hC aV rfl) (Y4 UN ZdW)))) (Go (i:=4) scLdn.nd rfl (Or.inl rfl))
    (Ge (UU (OL (G:=G) L (pv 9) (pv 4) (λ_ _=>rfl)) (ZdB K (n:=3) rfl (G0 (Go (i:=6) scLdn.nd rfl (Or.inl rfl)) (G0 (Go (i:=7) scLdn.nd rfl (Or.inl rfl)) (G0 (Go (i:=8) scLdn.nd rfl (Or.inl rfl)) OS)))))
    (Gj (W6 (G:=G) L (pv 3) (pv 4) (Zcq (pv 2) TS.cl a9 aB (hr.mono (by lia)) aA .nil Zd9 (Ga (pv 6) (Ga (OL (G:=G) L (pv 3) (pv 7) (λ_ _=>rfl)) (Ga (OL (G:=G) L (pv 3) (pv 8) (λ_ _=>rfl)) Gc)))) rfl))))
    (Gj (Gx (OL (G:=G) L (pv 3) (pv 0) (λ_ _=>rfl)))))))),?_⟩
  refine ⟨_,rfl,_,rfl,⟨bb,λb' s' e ah=>?_⟩,b,st,U,rfl,hb,hU,by lia,λfo kvs H1 s1 bf ef F1 a5 bH=>?_⟩
  ·have e1:b=b':=by
    have:=Ybh (·[0]?) e;exact V.ref.inj (Ybo this)
   rw [inj ah (e1▸hb)];exact bc
  have bg:LD tb H1:=ld.same s1;have S1:=S0.same s1;have a6:∀q∈kvs,Rc pf st q.1:=F1.rc;dsimp only [GW];intro B am;have an:fo≠B:=Gf ef am;have aH:upd H1 B (gd G B ([]:GKv κ)) fo=some (gd G fo kvs):=Gi ef an;have aI:upd H1 B (gd G B ([]:GKv κ)) B=some (gd G B ([]:GKv κ)):=Gb;have s2:Same H1 (upd H1 B (gd G B ([]:GKv κ))):=Same.new am;dsimp only [GW];change Zfs _ _ _ _ (upd H1 B (gd G B ([]:GKv κ)));generalize upd H1 B (gd G B ([]:GKv κ))=H2 at aH aI s2 ⊢;have gK:∀{H':Hp},(∀a u,a≠fo->H1 a=some u->H' a=some u)->∀a ys,H1 a=some (.tup ys)->H' a=some (.tup ys):=λk a ys e=>k a _ (GV e ef (λz=>by cases z)) e;have gG:∀{H':Hp}{o:Obj}{q:κ×Addr×V},(∀a u,a≠fo->H1 a=some u->H' a=some u)->H' fo=some (.frz o (gd G fo kvs))->q∈kvs->Yx G H' fo (.ref q.2.1) (some q.2.2):=λ{H' o q} k e hq=>⟨kvs,q.1,q.2.1,.inr ⟨o,e⟩,F1.ks.keep (gK k),rfl,G.keep (F1.ks q hq) (gK k),(Z6 F1.nd (b:=q.2.1) (v:=q.2.2) hq).symm⟩;refine Gw (λσ' H'=>∃(o:Obj)(nvs:GKv κ)(v4:Option V),σ'=[some (.ref b),some (.ref fP),some (.ref p),some (.ref B),v4,none,none,none,none,some (.ref fo)]/\(∀a u,a≠fo->H1 a=some u->H' a=some u)/\H' fo=some (.frz o (gd G fo kvs))/\H' B=some (gd G B nvs)/\NV G pf Y (λk=>Uo (pf k)=false) kvs H' nvs) ?s1 ?f1
  case f1=>
   intro hk;refine ⟨_,rfl,fo,kvs,rfl,.inl ⟨aH,λo=>?_⟩⟩;refine Z0 (G:=G) (a:=fo) (o:=o) (kvs:=kvs) (λi σ' H'=>∃(nvs:GKv κ)(v4:Option V),σ'=[some (.ref b),some (.ref fP),some (.ref p),some (.ref B),v4,none,none,none,none,some (.ref fo)]/\(∀a u,a≠fo->H1 a=some u->H' a=some u)/\H' fo=some (.frz o (gd G fo kvs))/\H' B=some (gd G B nvs)/\NV G pf Y (λk=>k∈(kvs.take i).map (·.1)/\Uo (pf k)=false) kvs H' nvs)
    ⟨[],none,rfl,λa u n e=>Gi (s2 _ _ e) n,Gb,Gi aI (Ne.symm an),⟨λq hq=>(by cases hq),Ydm,λq hq=>(by cases hq),λq hq=>(by cases hq),λq hq d=>by have:=d.1;simp at this⟩⟩ (by rintro i σ' H' _ ⟨_,_,_,_,e,_⟩;exact e) ?_ ?_
   ·rintro i k bk v σ' H3 ac ⟨nvs,v4,rfl,k3,Z,aa,N⟩;have hm:(k,bk,v)∈kvs:=Yat ac;have bi:i<kvs.length:=(Yaj.mp ac).1;have gg:Yx G H3 fo (.ref bk) (some v):=gG k3 Z hm;have pv:=(F1.pv _ hm).keep (gK k3);have tk:(kvs.take (i+1)).map (·.1)=(kvs.take i).map (·.1)++[k]:=by
     rw [Ybu,ac,Yak]
     rfl
    dsimp only [GW];cases O:pf k with
    | leaf n=>
     dsimp only at pv;rw [O] at pv;obtain rfl:v=.int n:=pv;refine ⟨_,rfl,_,rfl,fo,_,rfl,gg,_,_,true,rfl,⟨_,rfl,OW ?_⟩,.inl ⟨_,.int _,rfl,Oa⟩⟩;have ao:¬ (k∈(kvs.take i).map (·.1)/\Uo (pf k)=false):=λz=>by
      have hz:=F1.nd;rw [<-Ycy (i+1) kvs,Yak,tk] at hz;exact (Ycd.mp (Ycd.mp hz).1).2.2 k z.1 k (by simp) rfl
     have hl:=N.len;refine ⟨_,rfl,_,rfl,fo,_,rfl,gg,_,rfl,_,rfl,B,bk,nvs,k,rfl,rfl,aa,N.ks,G.keep (F1.ks _ hm) (gK k3),N.none ao,by lia,?_⟩;have t4:∀a ys,H3 a=some (.tup ys)->upd H3 B (gd G B (nvs++[(k,bk,.int n)])) a=some (.tup ys):=λa ys e=>Gi e (GV e aa (λz=>by cases z));refine ⟨_,_,rfl,λa u n e=>Gi (k3 a u n e) (λz=>by rw [z,am] at e;cases e),Gi Z an,Gb,?_⟩;refine ((N.snoc (G.keep (F1.ks _ hm) (gK k3)) ao (Yam.mpr ⟨_,hm,rfl⟩) (NumOk.leaf O (PO.lf k n (a6 _ hm) O))).keep t4).like λx _=>?_;rw [tk,Yag,Yai];constructor
     ·rintro (h | rfl)
      ·exact ⟨.inl h.1,h.2⟩
      ·exact ⟨.inr rfl,by rw [O];rfl⟩
     ·rintro ⟨h | rfl,h2⟩
      ·exact .inl ⟨h,h2⟩
      ·exact .inr rfl
    | node r lo hi=>
     dsimp only at pv;rw [O] at pv;obtain ⟨t,bl,bh,rfl,et,_⟩:=pv;refine ⟨_,rfl,_,rfl,fo,_,rfl,gg,_,_,false,rfl,⟨_,rfl,Oj ?_⟩,.inl ⟨_,.tup et,rfl,aC⟩⟩;refine ⟨_,_,rfl,k3,Z,aa,N.like λx _=>?_⟩;rw [tk,Yag,Yai];constructor
     ·rintro ⟨h,h2⟩;exact ⟨.inl h,h2⟩
     ·rintro ⟨h | rfl,h2⟩
      ·exact ⟨h,h2⟩
      ·rw [O] at h2;cases h2
   ·rintro σ' H3 ⟨nvs,v4,rfl,k3,Z,aa,N⟩;refine hk _ _ ⟨o,nvs,v4,rfl,k3,Z,aa,N.like λx hx=>?_⟩;rw [Ybn];exact ⟨λh=>h.2,λh=>⟨hx,h⟩⟩
  rintro σ' H3 ⟨o,aw,v4,rfl,k3,Z,aa,N0⟩;refine Gw (λσ' H'=>∃(ri:Addr),σ'=[some (.ref b),some (.ref fP),some (.ref p),some (.ref B),v4,some (.ref ri),none,none,none,some (.ref fo)]/\Same H3 H'/\H3 ri=none/\H' ri=some (.lst ((kvs.filter λq=>Uo (pf q.1)).map λq=>V.ref q.2.1))) ?s2 ?f2
  case f2=>
   intro hk;refine ⟨_,rfl,fo,kvs,rfl,.inr ⟨o,Z,λD hD=>?_⟩⟩;refine Yz (G:=G) (a:=fo) (o:=o) (kvs:=kvs) (λi ys H'=>Same H3 H'/\H' D=some (.lst ys)/\ys=((kvs.take i).filter λq=>Uo (pf q.1)).map λq=>V.ref q.2.1) ⟨Same.new hD,Gb,rfl⟩ (by rintro i ys H' _ ⟨s4,_⟩;exact s4 _ _ Z) ?_ ?_
   ·rintro i k bk v ys H4 ac ⟨s4,ai,rfl⟩;have hm:(k,bk,v)∈kvs:=Yat ac;have k4:∀a u,a≠fo->H1 a=some u->H4 a=some u:=λa u n e=>s4 _ _ (k3 a u n e);have gg:Yx G H4 fo (.ref bk) (some v):=gG k4 (s4 _ _ Z) hm;have pv:=(F1.pv _ hm).keep (gK k4);rw [Z7 _ ac];refine ⟨⟨rfl,trivial⟩,?_⟩;cases O:pf k with
    | leaf n=>
     dsimp only at pv;rw [O] at pv;obtain rfl:v=.int n:=pv;refine ⟨_,rfl,_,rfl,fo,_,rfl,gg,_,_,false,rfl,⟨_,rfl,Oj ?_⟩,.inl ⟨_,.int _,rfl,ba⟩⟩;exact ⟨s4,ai,by simp [O,Uo]⟩
    | node r lo hi=>
     dsimp only at pv;rw [O] at pv;obtain ⟨t,bl,bh,rfl,et,_⟩:=pv;refine ⟨_,rfl,_,rfl,fo,_,rfl,gg,_,_,true,rfl,⟨_,rfl,OW ?_⟩,.inl ⟨_,.tup et,rfl,Oa⟩⟩;refine ⟨_,rfl,ai,?_,s4.put hD,Gb,by simp [O,Uo]⟩;rw [Yab];have:=Ycl (λq:κ×Addr×V=>Uo (pf q.1)) (kvs.take i);rw [Yba] at this
     lia
   ·rintro ys H4 ⟨s4,ai,rfl⟩;rw [Ybn] at ai;exact hk _ _ ⟨D,rfl,s4,hD,ai⟩
  rintro σ' H4 ⟨ri,rfl,s4,bI,bj⟩;have bm:=s4 _ _ Z;have bn:=s4 _ _ aa;have N4:=N0.keep λa ys e=>s4 _ _ e;have k4:∀a u,a≠fo->H1 a=some u->H4 a=some u:=λa u n e=>s4 _ _ (k3 a u n e);have aJ:LD tb H4:=Vg bg λa u h e=>k4 a u (λz=>by
   rw [z,ef] at e;rcases h with ⟨_,rfl⟩ | ⟨_,rfl⟩ <;> cases e) e
  have S4:ShelfAt C H4 p nl pd (.int M) a3 Y a4:=⟨S1.ob.elim λdx e=>⟨dx,k4 _ _ (GV e ef (λz=>by cases z)) e⟩,k4 _ _ (GV S1.nd ef (λz=>by cases z)) S1.nd,S1.tr.keep (gK k4),k4 _ _ (GV S1.pl ef (λz=>by cases z)) S1.pl,S1.ok⟩;obtain ⟨bJ,eT⟩:=aJ.tbl;refine ⟨_,rfl,aJ,λfl c' bo H5 sl on bK bp=>?_⟩;obtain ⟨bq,oc,aK,aL⟩:=on;have n5:∀a u,(∀ps,u≠.tbl ps)->H4 a=some u->H5 a=some u:=λa u hu e=>sl a u (λz=>by rw [z,eT] at e;exact hu _ (Ybo e).symm) e;have aM:=n5 _ _ (λ_ z=>by cases z) bj;have aN:=n5 _ _ (λ_ z=>by cases z) bm;have br:=n5 _ _ (λ_ z=>by cases z) bn;have t5:∀a ys,H4 a=some (.tup ys)->H5 a=some (.tup ys):=λa ys e=>n5 a _ (λ_ z=>by cases z) e;have a7:∀a ys,H1 a=some (.tup ys)->H5 a=some (.tup ys):=λa ys e=>t5 a ys (gK k4 a ys e);have S5:ShelfAt C H5 p nl pd (.int M) a3 Y a4:=⟨S4.ob.elim λdx e=>⟨dx,n5 _ _ (λ_ z=>by cases z) e⟩,n5 _ _ (λ_ z=>by cases z) S4.nd,S4.tr.keep t5,n5 _ _ (λ_ z=>by cases z) S4.pl,S4.ok⟩;have gT:∀{H':Hp}{q:κ×Addr×V},(∀a ys,H1 a=some (.tup ys)->H' a=some (.tup ys))->H' fo=some (.frz o (gd G fo kvs))->q∈kvs->Yx G H' fo (.ref q.2.1) (some q.2.2):=λ{H' q} k e hq=>⟨kvs,q.1,q.2.1,.inr ⟨o,e⟩,F1.ks.keep k,rfl,G.keep (F1.ks q hq) k,(Z6 F1.nd (b:=q.2.1) (v:=q.2.2) hq).symm⟩;refine ⟨ri,fl,c',fo,oc,bo,(kvs.filter λq=>Uo (pf q.1)).map (λq=>(q.2.1,rdP (pf q.1))),rfl,rfl,SqL.of (by rw [Ycw];exact aM),bp,aK,aL,rfl,λu hu=>?_,λl ps hl pm pw=>?_⟩
  ·obtain ⟨q,hq,rfl⟩:=Yam.mp hu;obtain ⟨aO,bt⟩:=Yby.mp hq;obtain ⟨r,lo,hi,O⟩:=UH bt;have pv:=(F1.pv q aO).keep a7;rw [O] at pv;obtain ⟨t,bl,bh,ev,et,_⟩:=pv;exact ⟨t,[.ref bl,.ref bh],ev▸gT a7 aN aO,by rw [O];exact SqT.of et⟩
  obtain ⟨qs,pq,rfl⟩:=UD pm;rw [Yct] at pw;have ad:∀q,q∈qs↔q∈kvs/\Uo (pf q.1)=true:=λq=>by rw [pq.mem_iff,Yby]
  have bL:qs.length<=kvs.length:=by
   rw [pq.length_eq];exact Ycl _ _
  have aP:(qs.map (·.1)).Nodup:=(pq.map (·.1)).nodup_iff.mpr (F1.nd.sublist (List.filter_sublist.map _));have bM:qs.length<=Un.length:=by
   have:=Ydp aP (l₂:=Un) λk hk=>by
    obtain ⟨q,hq,rfl⟩:=Yam.mp hk;exact bd _ (a6 _ ((ad q).mp hq).1) ((ad q).mp hq).2
   rwa [Yab] at this
  rw [Ycw];obtain ⟨H6,q_,s6,ae⟩:=nwU (o:=.lst (qs.map ((λt:Addr×Int=>V.ref t.1)∘λq:κ×Addr×V=>(q.2.1,rdP (pf q.1))))) hl;have ae:H6 l=some (.lst (qs.map λq=>V.ref q.2.1)):=ae;rw [q_];have a8:=s6 _ _ aN;have ab:=s6 _ _ br;have S6:=S5.same s6;have N6:NV G pf Y (λk=>Uo (pf k)=false) kvs H6 aw:=N4.keep λa ys e=>s6 _ _ (t5 a ys e);have aQ:∀a ys,H1 a=some (.tup ys)->H6 a=some (.tup ys):=λa ys e=>s6 _ _ (a7 a ys e);have bu:LD tb H6:=LamSt.same (.inr ⟨c',bq,oc,aK,aL⟩) s6;have bv:l≠nl:=λz=>by rw [z,S5.nd] at hl;cases hl
  have bw:l≠B:=GV ae ab (λz=>by cases z);have bx:l≠pd:=GV ae S6.pl (λz=>by cases z);have bz:fo≠B:=an;have b1:fo≠nl:=GV a8 S6.nd (λz=>by cases z);have b2:fo≠pd:=GV a8 S6.pl (λz=>by cases z);have ax:B≠nl:=GV ab S6.nd (λz=>by cases z);have ay:B≠pd:=GV ab S6.pl (λz=>by cases z);have b3:p≠B:=S6.ob.elim λdx e=>GV e ab (λz=>by cases z);have az:∀{H':Hp},(∀a u,a≠B->a≠nl->a≠pd->H6 a=some u->H' a=some u)->∀a ys,H6 a=some (.tup ys)->H' a=some (.tup ys):=λk a ys e=>k a _ (GV e ab (λz=>by cases z)) (GV e S6.nd (λz=>by cases z)) (GV e S6.pl (λz=>by cases z)) e;have a1:∀{H':Hp},(∀a u,a≠B->a≠nl->a≠pd->H6 a=some u->H' a=some u)->FrD nl pd tb H H'/\LD tb H':=λ{H'} k=>by
   refine ⟨λa u h1 h2 h3 e=>?_,Vg bu λa u h e=>?_⟩
   ·have e1:=s1 _ _ e;exact k a u (λz=>by rw [z,am] at e1;cases e1) h1 h2 (s6 _ _ (sl a u h3 (k4 a u (λz=>by rw [z,bf] at e;cases e) e1)))
   ·refine k a u (λz=>?_) (λz=>?_) (λz=>?_) e
    ·rw [z,ab] at e;rcases h with ⟨_,rfl⟩ | ⟨_,rfl⟩ <;> cases e
    ·rw [z,S6.nd] at e;rcases h with ⟨_,rfl⟩ | ⟨_,rfl⟩ <;> cases e
    ·rw [z,S6.pl] at e;rcases h with ⟨_,rfl⟩ | ⟨_,rfl⟩ <;> cases e
  refine ⟨l,rfl,⟨_,SqL.of ae⟩,?_⟩;refine JL (K:=K) (a:=l) (xs:=qs.map λq=>V.ref q.2.1) (λi σ' H'=>∃(nvs:GKv κ)(v4 v6 v7 v8:Option V)(xs:List V)(ts:List Tri)(kd:List (List Key×V)),σ'=[some (.ref b),some (.ref fP),some (.ref p),some (.ref B),v4,some (.ref ri),v6,v7,v8,some (.ref fo)]/\(∀a u,a≠B->a≠nl->a≠pd->H6 a=some u->H' a=some u)/\H' B=some (gd G B nvs)/\ShelfAt C H' p nl pd (.int M) xs ts kd/\Grw pf st Y ts/\ts.length<=Y.length+i/\((ts.length:Int)<=M\/ts=Y)/\NV G pf ts (λk=>Uo (pf k)=false\/k∈(qs.take i).map (·.1)) kvs H' nvs)
   ⟨aw,_,none,none,none,a3,Y,a4,rfl,λ_ _ _ _ _ e=>e,ab,S6,Grw.refl be,Yad _,.inr rfl,N6.like λk _=>⟨.inl,λh=>h.resolve_right (by simp)⟩⟩ (by rintro i σ' H' _ ⟨_,_,_,_,_,_,_,_,_,k,_⟩;exact SqL.of (k _ _ bw bv bx ae)) ?_ ?_
  ·rintro i x σ' H7 aR ⟨nvs,b4,v6,v7,v8,xs,ts,kd,rfl,k7,aj,S7,D,qV,ap,N⟩;rw [Ybb] at aR;obtain ⟨⟨k,bk,v⟩,aq,rfl⟩:=Ybk.mp aR;have bi:i<qs.length:=(Yaj.mp aq).1;obtain ⟨hm,ao⟩:=(ad _).mp (Yat aq);have t7:∀a ys,H1 a=some (.tup ys)->H7 a=some (.tup ys):=λa ys e=>az k7 a ys (aQ a ys e);have b5:=k7 _ _ bz b1 b2 a8;have gg:Yx G H7 fo (.ref bk) (some v):=gT t7 b5 hm;have aS:G.At H7 bk k:=G.keep (F1.ks _ hm) t7;obtain ⟨r,lo,hi,O⟩:=UH ao;dsimp only at O;have pv:=(F1.pv _ hm).keep t7;dsimp only at pv;rw [O] at pv;obtain ⟨t,bl,bh,rfl,et,b6,b7⟩:=pv;have hk:Rc pf st k:=a6 _ hm;obtain ⟨h0,ha,ah⟩:=PO.nd k r lo hi hk O;have tk:(qs.take (i+1)).map (·.1)=(qs.take i).map (·.1)++[k]:=by
    rw [Ybu,aq,Yak]
    rfl
   have ar:¬ (Uo (pf k)=false\/k∈(qs.take i).map (·.1)):=by
    rintro (z | z)
    ·rw [O] at z;cases z
    ·have hz:=aP;rw [<-Ycy (i+1) qs,Yak,tk] at hz;exact (Ycd.mp (Ycd.mp hz).1).2.2 k z k (by simp) rfl
   have ch:∀y,Rc pf st y->Abv pf y r->∃ca:Int,OR nvs y=some (.int ca)/\NumOk pf ts y ca:=by
    intro y hy b8;obtain ⟨q',ak,rfl⟩:=Yam.mp (a5 y hy);refine N.al q' ak ?_;cases e:Uo (pf q'.1) with
    | false=>exact .inl rfl
    | true=>
     obtain ⟨r',a',b',e'⟩:=UH e;exact .inr (Yam.mpr ⟨q',Zbt pw aq ((ad q').mpr ⟨ak,e⟩) (by dsimp only;rw [O,e'];exact b8 _ _ _ e'),rfl⟩)
   obtain ⟨ca,b9,na⟩:=ch lo (.lo hk O) ha;obtain ⟨cb,bA,nb⟩:=ch hi (.hi hk O) ah;have bN:=N.len;have step:∀{H8:Hp}{cn:Int}{xs':List V}{ts':List Tri}{as:List (List Key×V)},(∀a u,a≠nl->a≠pd->H7 a=some u->H8 a=some u)->ShelfAt C H8 p nl pd (.int M) xs' ts' as->Grw pf st Y ts'->ts'.length<=Y.length+(i+1)->NV G pf ts' (λk=>Uo (pf k)=false\/k∈(qs.take i).map (·.1)) kvs H7 nvs->NumOk pf ts' k cn ->
     H8 B=some (gd G B nvs)/\GKeys G H8 nvs/\G.At H8 bk k/\(∀a u,a≠B->a≠nl->a≠pd->H6 a=some u->upd H8 B (gd G B (nvs++[(k,bk,.int cn)])) a=some u)/\ShelfAt C (upd H8 B (gd G B (nvs++[(k,bk,.int cn)]))) p nl pd (.int M) xs' ts' as/\NV G pf ts' (λk=>Uo (pf k)=false\/k∈(qs.take (i+1)).map (·.1)) kvs (upd H8 B (gd G B (nvs++[(k,bk,.int cn)]))) (nvs++[(k,bk,.int cn)]):=by
    intro H8 cn xs' ts' as k8 S8 D8 l8 N8 nk;have aT:=k8 _ _ ax ay aj;have t8:∀a ys,H7 a=some (.tup ys)->H8 a=some (.tup ys):=λa ys e=>k8 a _ (GV e S7.nd (λz=>by cases z)) (GV e S7.pl (λz=>by cases z)) e;have t9:∀a ys,H8 a=some (.tup ys)->upd H8 B (gd G B (nvs++[(k,bk,.int cn)])) a=some (.tup ys):=λa ys e=>Gi e (GV e aT (λz=>by cases z));refine ⟨aT,N8.ks.keep t8,G.keep aS t8,λa u h1 h2 h3 e=>Gi (k8 a u h2 h3 (k7 a u h1 h2 h3 e)) h1,⟨S8.ob.elim λdx e=>⟨dx,Gi e b3⟩,Gi S8.nd (Ne.symm ax),S8.tr.keep t9,Gi S8.pl (Ne.symm ay),S8.ok⟩,?_⟩;refine (((N8.keep t8).snoc (G.keep aS t8) ar (Yam.mpr ⟨_,hm,rfl⟩) nk).keep t9).like λy _=>?_;rw [tk,Yag,Yai];exact or_assoc
   obtain ⟨dx,ob⟩:=S7.ob;dsimp only [GW];refine ⟨_,rfl,_,rfl,fo,_,rfl,gg,t,_,rfl,SqT.of et,rfl,_,_,rfl,_,_,rfl,_,_,rfl,rfl,?_⟩;have bB:¬ ("put" : Str) = "places" := by decide +kernel
   have bC:¬ ("put" : Str) = "nodes" := by decide +kernel
   have bD:¬ ("put" : Str) = "most" := by decide +kernel
   refine ⟨_,rfl,p,dx,_,rfl,ob,Zc7 _ _ _ bB bC bD,_,rfl,_,rfl,_,rfl,B,_,rfl,⟨nvs,lo,bl,.inl aj,N.ks,rfl,b6,b9.symm⟩,_,rfl,_,rfl,B,_,rfl,⟨nvs,hi,bh,.inl aj,N.ks,rfl,b7,bA.symm⟩,?_⟩;refine ⟨p,nl,pd,M,xs,ts,kd,r,ca,cb,rfl,S7,by lia,λhz=>?_,λhz=>⟨λcn H8 bE s8=>?_,λaU=>⟨λhM H8 sf=>?_,λhM H8 s8=>?_⟩⟩⟩
   ·subst hz;obtain ⟨h1,h2,h3,h4,h5,h6⟩:=step (H8:=H7) (λa u _ _ e=>e) S7 D (by lia) N (NumOk.flat O ha na nb);exact ⟨_,rfl,_,rfl,B,bk,nvs,k,rfl,rfl,h1,h2,h3,N.none ar,by lia,_,_,_,_,_,_,_,_,rfl,h4,Gb,h5,D,by lia,ap,h6⟩
   ·obtain ⟨h1,h2,h3,h4,h5,h6⟩:=step (H8:=H8) (λa u _ _ e=>s8 _ _ e) (S7.same s8) D (by lia) N (NumOk.node O na nb bE);exact ⟨_,rfl,_,rfl,B,bk,nvs,k,rfl,rfl,h1,h2,h3,N.none ar,by lia,_,_,_,_,_,_,_,_,rfl,h4,Gb,h5,D,by lia,ap,h6⟩
   ·obtain ⟨xs',as,S8⟩:=sf.at_;obtain ⟨D',nk⟩:=D.snoc hk O h0 ha ah na nb hz aU;obtain ⟨h1,h2,h3,h4,h5,h6⟩:=step (H8:=H8) (λa u n1 n2 e=>sf.kp a u n1 n2 e) S8 D' (by rw [Yae,Yap];lia) (N.app D.sh.ok _) nk;exact ⟨_,rfl,_,rfl,B,bk,nvs,k,rfl,rfl,h1,h2,h3,N.none ar,by lia,_,_,_,_,_,_,_,_,rfl,h4,Gb,h5,D',by rw [Yae,Yap];lia,.inl (by rw [Yae,Yap];lia),h6⟩
   ·obtain ⟨D',nk⟩:=D.snoc hk O h0 ha ah na nb hz aU;obtain ⟨f1,f2⟩:=a1 (H':=H8) λa u h1 h2 h3 e=>s8 _ _ (k7 a u h1 h2 h3 e);exact qe _ H8 f1 f2 D' (by rw [Yae,Yap];lia) (by rw [Yae,Yap];lia)
  ·rintro σ' H7 ⟨nvs,b4,v6,v7,v8,xs,ts,kd,rfl,k7,aj,S7,D,qV,ap,N⟩;rw [Yab] at qV N;rw [Ybn] at N;obtain ⟨f1,f2⟩:=a1 k7;obtain ⟨q',ak,e'⟩:=Yam.mp (a5 st .start);have hd:Uo (pf q'.1)=false\/q'.1∈qs.map (·.1):=by
    cases e:Uo (pf q'.1) with
    | false=>exact .inl rfl
    | true=>exact .inr (Yam.mpr ⟨q',(ad q').mpr ⟨ak,e⟩,rfl⟩)
   obtain ⟨cn,hv,hn⟩:=N.al q' ak hd;rw [e'] at hv hn;refine ⟨_,rfl,_,rfl,B,_,rfl,⟨nvs,st,b,.inl aj,N.ks,rfl,G.keep (G.keep hb λa ys e=>s1 _ _ e) (λa ys e=>az k7 a ys (aQ a ys e)),hv.symm⟩,?_⟩;refine qq cn xs ts kd H7 f1 f2 S7 D (by lia) ap (λk hk=>?_) hn;obtain ⟨q,hq,rfl⟩:=Yam.mp (a5 k hk);obtain ⟨c,_,hc⟩:=N.al q hq (by
    cases e:Uo (pf q.1) with
    | false=>exact .inl rfl
    | true=>exact .inr (Yam.mpr ⟨q,(ad q).mpr ⟨hq,e⟩,rfl⟩))
   exact ⟨c,hc⟩
end
section
variable {P:Program}{w:World}{K:W.Frag}{mg:Str->Option Value}{base:Heap}
theorem Zbu:bootBuiltins "max" = some (.builtin "max"):=by first | rfl | decide +kernel
theorem GX {p:Nat}{a:Int}(h:a.natAbs<2 ^ p:=by decide +kernel):Lt2 p a:=h
theorem Zc8 {H:Hp}{l:Addr}{zs:List (Key×V)}{o:HO}(h:H l=some (.dK zs)):∀p ys,H p=some (.tup ys)->upd H l o p=some (.tup ys):=λp ys e=>Gi e (GV e h (λz=>by cases z))
noncomputable def Zgl (H:Hp)(ks:List Tri)(root:Int)(Q:VK):Prop:=∀(p l:Addr)(a0:Int)(xs:List V)(us:List Tri)(fs:List Int)(H':Hp),Same H H'->H p=none->H l=none->TabAt H' p l a0 xs us->Rch ks root fs->Fin ks root fs->fs.Nodup->(∀x∈fs,∃r,Nd ks x r)->Said ks fs us fs.length->us.length=fs.length->fs.length<=ks.length->J4 fs root=some a0->Q (.ref p) H'
theorem Zhi (n:Int):JW (Jp [] [(Sum.inl 0,.int 0),(Sum.inl 1,.int 1)]:List (Key×V)) (.inl n)=(J4 [] n).map V.int:=by
 show JW (JI (JI [] (Sum.inl 0) (.int 0)) (Sum.inl 1) (.int 1):List (Key×V)) (.inl n)=_;rw [Jr,Jr];unfold J4;by_cases h1:n=1
 ·subst h1
  rfl
 ·rw [if_neg (λz=>h1 (Sum.inl.inj z))];by_cases h0:n=0
  ·subst h0
   rfl
  ·rw [if_neg (λz=>h0 (Sum.inl.inj z)),if_neg h0,if_neg h1]
   rfl
noncomputable def ZeM:Sp:=λvs H Q _=>∃(l:Addr)(root:Int)(xs:List V)(ks:List Tri),vs=[.int root,.ref l]/\H l=some (.lst xs)/\Trs H xs ks/\TabOk ks/\ks.length<=900/\At ks root (-1) /\
 ∀(j:Addr)(fs:List Int)(H':Hp),Same H H'->H' j=some (.lst (fs.map V.int))->Rch ks root fs->Fin ks root fs->fs.Nodup->(∀x∈fs,∃r,Nd ks x r)->Q (.ref j) H'
theorem scFou:Gs ["root", "nodes", "found", "seen", "ahead", "new", "number"] ["root", "nodes"] (Gh Zeu):=⟨rfl,rfl,rfl,by decide +kernel,rfl,by decide +kernel,by decide +kernel⟩
theorem Zgm (n:Int):JW (Jp [] [(Sum.inl 0,.bl true),(Sum.inl 1,.bl true)]:List (Key×V)) (.inl n)=none↔New [] n:=by
 show JW (JI (JI [] (Sum.inl 0) (.bl true)) (Sum.inl 1) (.bl true):List (Key×V)) (.inl n)=none↔_;rw [Jr,Jr];unfold New;by_cases h1:n=1
 ·rw [if_pos (by rw [h1])];exact ⟨λz=>(by cases z),λz=>absurd h1 z.2.1⟩
 ·rw [if_neg (λz=>h1 (Sum.inl.inj z))];by_cases h0:n=0
  ·rw [if_pos (by rw [h0])];exact ⟨λz=>(by cases z),λz=>absurd h0 z.1⟩
  ·rw [if_neg (λz=>h0 (Sum.inl.inj z))];exact ⟨λ_=>⟨h0,h1,λz=>(by cases z)⟩,λ_=>rfl⟩
theorem ZeN {f:Addr}{fd:FuncData}(F:Fun K "found_from" "found_from" Zeu f fd):FnOk P w K mg base CX0 1 f fd ["root", "nodes"] ZeM:=by
 refine F.ok scFou (λvs H Q E h=>?_) (λa1 A outer s H vs Q E hr h=>?_)
 ·obtain ⟨_,_,_,_,rfl,_⟩:=h
  rfl
 ·obtain ⟨l,root,xs,ks,rfl,el,tr,T,a8,ar,q⟩:=h;have a9:=Ybi.symm;have ap:(A.deeper (PyProof.Rows.envOfC "found_from" (Gh Zeu) s.heap.objs.size f a1)).units+1<cLine:=by have:=hr.un;lia
  refine ⟨_,Ge (Gp (i:=2) scFou.nd rfl (Or.inl rfl) (Gy Gc))
    (Ge (Gp (i:=3) scFou.nd rfl (Or.inl rfl) (Zq (OB Gg UN (OB Gg UN WS)) rfl rfl (by decide) (by decide)))
    (Ge (Gp (i:=4) scFou.nd rfl (Or.inl rfl) (Gy (Ga (pv 0) Gc)))
    (Ge (Vm Yck (Vo (pv 4) (λ_=>rfl))
    (Ge (Gp (i:=5) scFou.nd rfl (Or.inl rfl) (Gy Gc))
    (Ge (JE Yck rfl (Jz K (pv 4)) (Go (i:=6) scFou.nd rfl (Or.inl rfl))
    (Gj (Jl (Xf (Wn ap (pv 6) (pv 3)) rfl) (Ge (WR ap (pv 3) (pv 6) UN rfl)
    (Ge (Jc (Oq Yce Ycp Ycq GQ (pv 2) (Ga (pv 6) Gc)))
    (Gj (Jc (Oq Yce PySem.F.slot_list_extend PySem.F.type_list_extend Ve (pv 5) (Ga (J8 (Zfx K) (GD (On K) (pv 1) (GE Ur (pv 6) Gg) (λ_ _=>rfl)) (OV Gg) OU) Gc)))))) GC)))
    (Gj (Gp (i:=4) scFou.nd rfl (Or.inl rfl) (pv 5))))))
    (Gj (Gx (pv 2)))))),?_⟩
  refine ⟨Yao _,λO aq=>?_⟩;obtain ⟨H1,q_,s1,D⟩:=nwU (o:=.lst []) aq;have D:H1 O=some (.lst (([]:List Int).map V.int)):=D;rw [q_];intro d hd;refine ⟨Gb,[(.inl 0,.bl true),(.inl 1,.bl true)],rfl,by decide,?_⟩;have s2:Same H1 (upd (upd H1 d (.dK [])) d (.dK (Jp [] [(.inl 0,.bl true),(.inl 1,.bl true)]))):=(Same.new hd).put hd;have Y:upd (upd H1 d (.dK [])) d (.dK (Jp [] [(.inl 0,.bl true),(.inl 1,.bl true)])) d=some (.dK (Jp [] [(.inl 0,.bl true),(.inl 1,.bl true)])):=Gb;generalize upd (upd H1 d (.dK [])) d (.dK (Jp [] [(.inl 0,.bl true),(.inl 1,.bl true)]))=H2 at s2 Y ⊢;have a2:H d=none:=s1.free hd;have as:O≠d:=Gf D hd;have ac:=s2 _ _ D;have au:=s1.trans s2;clear D s1 s2;refine ⟨_,rfl,(by show 1<=sizeLine;decide),λal af=>?_⟩;obtain ⟨H3,q_,s3,B⟩:=nwU (o:=.lst [.int root]) af;have B:H3 al=some (.lst (([root]:List Int).map V.int)):=B;have Z:al≠O:=λz=>by rw [z,ac] at af;cases af
  rw [q_];have W0:Wk ks root [] (Jp [] [(.inl 0,.bl true),(.inl 1,.bl true)]) [] [root]:=⟨rfl,λy hy=>(by cases hy),Zgm,Ydm,λx hx=>(by cases hx),.nil,by decide,λy hy=>by rw [Yai] at hy;rw [hy];exact ar⟩;refine ⟨λm σ' H'=>∃(al:Addr)(fs:List Int)(kvs:List (Key×V))(pr U:List Int)(v5 v6:Option V),σ'=[some (.int root),some (.ref l),some (.ref O),some (.ref d),some (.ref al),v5,v6]/\Same H H'/\H' O=some (.lst (fs.map V.int))/\H' d=some (.dK kvs)/\H' al=some (.lst (U.map V.int))/\al≠O/\Wk ks root fs kvs pr U/\m=ks.length-fs.length+(if U=[] then 0 else 1),
   ⟨_,al,[],_,[],[root],none,none,rfl,au.trans s3,s3 _ _ ac,s3 _ _ Y,B,Z,W0,rfl⟩,?_⟩
  clear W0 B s3 ac Y au af Z;rintro m σ' H4 ⟨al,fs,kvs,pr,U,v5,v6,rfl,s4,D,Y,B,Z,W,rfl⟩;have aA:=W.le;have av:=W.ahl;by_cases hz:U=[]
  ·subst hz;refine ⟨_,rfl,false,.inl ⟨_,SqL.of B,rfl⟩,Oj ?_⟩;exact ⟨_,rfl,q O fs _ s4 D W.rch W.fin W.nd W.nod⟩
  ·refine ⟨_,rfl,true,.inl ⟨_,SqL.of B,by cases U with | nil=>exact absurd rfl hz | cons a b=>rfl⟩,OW ?_⟩;refine ⟨_,λ_ _ h=>h,?_⟩;refine ⟨Yao _,λnl ab=>?_⟩;obtain ⟨H5,q_,s5,L⟩:=nwU (o:=.lst []) ab;have L:H5 nl=some (.lst (([]:List Int).map V.int)):=L;have a3:nl≠al:=λz=>by rw [z,B] at ab;cases ab
   have am:nl≠O:=λz=>by rw [z,D] at ab;cases ab
   have aw:H nl=none:=s4.free ab;rw [q_];refine ⟨_,rfl,al,rfl,⟨_,SqL.of (s5 _ _ B)⟩,?_⟩;refine JL (K:=K) (a:=al) (xs:=U.map V.int) (λi σ' H'=>∃(fs':List Int)(j:List (Key×V))(nw:List Int)(v6:Option V),σ'=[some (.int root),some (.ref l),some (.ref O),some (.ref d),some (.ref al),some (.ref nl),v6]/\Same H H'/\H' O=some (.lst (fs'.map V.int))/\H' d=some (.dK j)/\H' al=some (.lst (U.map V.int))/\H' nl=some (.lst (nw.map V.int))/\Wk ks root fs' j (pr++U.take i) (U.drop i++nw)/\((fs'=fs/\nw=[])\/fs.length<fs'.length))
    ⟨fs,kvs,[],_,rfl,s4.trans s5,s5 _ _ D,s5 _ _ Y,s5 _ _ B,L,by rw [List.take_zero,List.drop_zero,Ybv,Ybv];exact W,.inl ⟨rfl,rfl⟩⟩ (by rintro i σ' H' _ ⟨_,_,_,_,_,_,_,_,e,_⟩;exact SqL.of e) ?_ ?_
   ·clear D Y B L s5 W av;rintro i y σ' H6 hy ⟨fs',j,nw,a4,rfl,s6,D,Y,B,L,W,hd⟩;obtain ⟨c,rfl,hc⟩:=JR hy;have e1:U.drop i=c::U.drop (i+1):=by
     obtain ⟨hi,e⟩:=Yaj.mp hc;rw [Yde hi,e]
    have e2:pr++U.take (i+1)=(pr++U.take i)++[c]:=by
     obtain ⟨hi,e⟩:=Yaj.mp hc;rw [List.take_succ_eq_append_getElem hi,e,Ybg]
    rw [e1,List.cons_append] at W;have ax:=W.le;have ay:=W.ahl;rw [Ybq,Yae] at ay;have aB:=W.kl;refine ⟨_,rfl,_,rfl,d,_,rfl,DGet.k (k:=.inl c) Y,_,rfl,?_⟩;cases hv:JW j (.inl c) with
    | some v=>
     refine Oj ?_;refine ⟨fs',j,nw,_,rfl,s6,D,Y,B,L,?_,hd⟩;rw [e2];exact W.skip λz=>by rw [(W.seen c).mpr z] at hv;cases hv
    | none=>
     refine OW ?_;have ad:=(W.seen c).mp hv;obtain ⟨r,n,_⟩:=(W.ok c Yaw).nd (by have:=(W.ok c Yaw).lt;have:=ad.1;have:=ad.2.1;lia);have W':=W.take (v:=.bl true) T ad n;refine ⟨_,rfl,_,rfl,d,_,rfl,DPut.k (k:=.inl c) Y (by lia),?_⟩;have k7:=Zc8 (o:=.dK (JI j (.inl c) (.bl true))) Y;have ae:upd H6 d (.dK (JI j (.inl c) (.bl true))) O=some (.lst (fs'.map V.int)):=Gi D as;have ag:upd H6 d (.dK (JI j (.inl c) (.bl true))) al=some (.lst (U.map V.int)):=Gi B (GV B Y (λz=>by cases z));have ai:upd H6 d (.dK (JI j (.inl c) (.bl true))) nl=some (.lst (nw.map V.int)):=Gi L (GV L Y (λz=>by cases z));have az:upd H6 d (.dK (JI j (.inl c) (.bl true))) d=some (.dK (JI j (.inl c) (.bl true))):=Gb;have s7:Same H (upd H6 d (.dK (JI j (.inl c) (.bl true)))):=s6.put a2;generalize upd H6 d (.dK (JI j (.inl c) (.bl true)))=H7 at ae ag ai az s7 ⊢;clear k7;refine ⟨_,rfl,.inl ⟨rfl,_,SqL.of ae⟩,_,rfl,O,_,_,rfl,rfl,ae,by rw [Yab];lia,?_⟩;have aj:upd H7 O (.lst (fs'.map V.int++[.int c])) O=some (.lst ((fs'++[c]).map V.int)):=by rw [Gb,Yak];rfl
     have ak:upd H7 O (.lst (fs'.map V.int++[.int c])) al=some (.lst (U.map V.int)):=Gi ag Z;have aa:upd H7 O (.lst (fs'.map V.int++[.int c])) nl=some (.lst (nw.map V.int)):=Gi ai am;have an:upd H7 O (.lst (fs'.map V.int++[.int c])) d=some (.dK (JI j (.inl c) (.bl true))):=Gi az (Ne.symm as);have s8:Same H (upd H7 O (.lst (fs'.map V.int++[.int c]))):=s7.put aq;generalize upd H7 O (.lst (fs'.map V.int++[.int c]))=H8 at aj ak aa an s8 ⊢;obtain ⟨t,a5,a6⟩:=Z5 (tr.same s8) n;refine ⟨_,rfl,.inl ⟨rfl,_,SqL.of aa⟩,_,rfl,_,rfl,_,_,rfl,rfl,l,_,_,_,rfl,rfl,SqL.of (s8 _ _ el),a5,_,rfl,t,_,rfl,SqT.of a6,(λz=>by have:=z.1;simp [HT.sIx] at this),λps a7=>?_⟩;obtain ⟨H9,q_,s9,ao⟩:=nwU (o:=.tup (Xi [.int r.1,.int r.2.1,.int r.2.2] (some 1) none)) a7;have ao:H9 ps=some (.tup [.int r.2.1,.int r.2.2]):=ao;rw [q_];refine ⟨nl,ps,_,_,rfl,rfl,s9 _ _ aa,ao,by rw [Yab];show nw.length+2<=sizeLine;lia,?_⟩;refine ⟨fs'++[c],_,nw++[r.2.1,r.2.2],_,rfl,(s8.trans s9).put aw,Gi (s9 _ _ aj) (Ne.symm am),Gi (s9 _ _ an) (GV an aa (λz=>by cases z)),Gi (s9 _ _ ak) (Ne.symm a3),by rw [Gb,Yak];rfl,?_,.inr ?_⟩
     ·rw [e2,<-Ybg];exact W'
     ·rw [Yae,Yap];rcases hd with ⟨h,_⟩ | h
      ·rw [h];lia
      ·lia
   ·clear D Y B L s5 W av;rintro σ' H6 ⟨fs',j,nw,a4,rfl,s6,D,Y,B,L,W,hd⟩;rw [Yab,Ybn,List.drop_length,List.nil_append] at W;have ax:=W.le;refine ⟨_,rfl,?_⟩;refine ⟨_,?_,nl,fs',j,pr++U,nw,_,_,rfl,s6,D,Y,L,am,W,rfl⟩;rw [if_neg hz];rcases hd with ⟨h1,h2⟩ | h
    ·rw [h1,h2,if_pos rfl];lia
    ·split <;> lia
theorem numI_of {fs:List Int}{y:Int}(h:¬ New fs y):∃a,J4 fs y=some a:=by
 cases e:J4 fs y with
 | none=>exact absurd (New.num.mpr e) h
 | some a=>exact ⟨a,rfl⟩
noncomputable def ZfH (ks:List Tri)(x:Int):Tri:=(ks[(x-2).toNat]?).getD (0,0,0)
theorem Z8 {ks:List Tri}{x:Int}{r:Tri}(n:Nd ks x r):ZfH ks x=r:=by
 unfold ZfH;rw [n.2]
 rfl
noncomputable def ZeO:Sp:=λvs H Q _=>∃(l:Addr)(root:Int)(xs:List V)(ks:List Tri),vs=[.int root,.ref l]/\H l=some (.lst xs)/\Trs H xs ks/\TabOk ks/\ks.length<=900/\At ks root (-1)/\Zgl H ks root Q
theorem scNum:Gs ["root", "nodes", "found", "numbers", "place", "number", "told"] ["root", "nodes"] (Gh Zev):=⟨rfl,rfl,rfl,by decide +kernel,rfl,by decide +kernel,by decide +kernel⟩
theorem ZeP {f fF:Addr}{fd af:FuncData}(F:Fun K "numbered" "numbered" Zev f fd)(FF:Fun K "found_from" "found_from" Zeu fF af)(bF:Binds K af ["root", "nodes"] [])(mF:mg "found_from" = some (.ref fF))(GF:FnOk P w K mg base CX0 1 fF af ["root", "nodes"] ZeM)(ag:mg "enumerate" = none) :
  FnOk P w K mg base CX0 2 f fd ["root", "nodes"] ZeO:=by
 refine F.ok scNum (λvs H Q E h=>?_) (λaw A outer s H vs Q E hr h=>?_)
 ·obtain ⟨_,_,_,_,rfl,_⟩:=h
  rfl
 ·obtain ⟨l,root,xs,ks,rfl,el,tr,T,ax,ar,q⟩:=h;have aA:=Ybi.symm;have aa:(A.deeper (PyProof.Rows.envOfC "numbered" (Gh Zev) s.heap.objs.size f aw)).units+1<cLine:=by have:=hr.un;lia
  refine ⟨_,Ge (Gp (i:=2) scNum.nd rfl (Or.inl rfl) (Gk GF (hr.mono (by decide)) rfl mF FF.kp bF .nil Gv (Ga (pv 0) (Ga (pv 1) Gc))))
    (Ge (Gp (i:=3) scNum.nd rfl (Or.inr rfl) (Zq (OB Gg Gg (OB Gg Gg WS)) rfl rfl (by decide) (by decide)))
    (Ge (JE Yck rfl (Zf4 K rfl ag (Ga (pv 2) Gc)) (ZdB K (n:=2) rfl (G0 (Go (i:=4) scNum.nd rfl (Or.inl rfl)) (G0 (Go (i:=5) scNum.nd rfl (Or.inl rfl)) OS)))
    (Gj (WR aa (pv 3) (pv 5) (GE Jv (pv 4) Gg) rfl)))
    (Ge (Uy (i:=6) scNum.nd rfl (Or.inl rfl) (own:=["number"]) rfl (Gq (fr:=[("nodes", 1)]) [(".0", .local),("number", .local),("nodes", .cell)] rfl rfl (by decide +kernel) rfl (by decide +kernel) ⟨rfl,trivial⟩ ⟨λh=>G7 h,λh=>G7 h,λ_=>⟨_,rfl⟩,trivial⟩ ⟨⟨rfl,.inl rfl,.inl rfl⟩,trivial⟩) (Jz K (pv 2)) (λ_ _ _ _=>Go (i:=0) (show List.Nodup (["number", "nodes"]:List Str) by decide +kernel) rfl (Or.inl rfl)) (λ_ _ _ _=>Oz) (λ_ _ _ _=>GD (On K) (pv 1) (GE Ur (pv 0) Gg) (λ_ _=>rfl)))
    (Gj (Gx (Je (Ga (Vw aa (pv 3) (pv 0) (λ_ _=>rfl)) (Ga (Jo (own:=["road", "low", "high"]) rfl (Gq (fr:=[("numbers", 3)]) [(".0", .local),("road", .local),("low", .local),("high", .local),("numbers", .cell)] rfl rfl (by decide +kernel) rfl (by decide +kernel) ⟨rfl,trivial⟩ ⟨λh=>G7 h,λh=>G7 h,λh=>G7 h,λh=>G7 h,λ_=>⟨_,rfl⟩,trivial⟩ ⟨⟨rfl,.inl rfl,.inl rfl⟩,trivial⟩) (Jz K (pv 6)) (λ_ _ _ _=>ZdB K (n:=3) rfl (G0 (Go (i:=0) (show List.Nodup (["road", "low", "high", "numbers"]:List Str) by decide +kernel) rfl (Or.inl rfl)) (G0 (Go (i:=1) (show List.Nodup (["road", "low", "high", "numbers"]:List Str) by decide +kernel) rfl (Or.inl rfl)) (G0 (Go (i:=2) (show List.Nodup (["road", "low", "high", "numbers"]:List Str) by decide +kernel) rfl (Or.inl rfl)) OS)))) (λ_ _ _ _=>Oz) (λ_ _ _ _=>Je (Ga (pv 0) (Ga (Vw aa (pv 3) (pv 1) (λ_ _=>rfl)) (Ga (Vw aa (pv 3) (pv 2) (λ_ _=>rfl)) Gc))))) Gc)))))))),?_⟩
  refine ⟨_,rfl,_,rfl,l,root,xs,ks,rfl,el,tr,T,ax,ar,λfl fs H1 s1 ab rch fin nd O=>?_⟩;have ay:fs.length<=ks.length:=by
   have:=Ydp (l₂:=(List.range ks.length).map λ(i:Nat)=>(i:Int)+2) nd λx hx=>by
    obtain ⟨r,n⟩:=O x hx;have h1:=n.lt;have h2:=n.1;exact Yam.mpr ⟨(x-2).toNat,List.mem_range.mpr (by lia),by lia⟩
   rwa [Yab,List.length_range] at this
  dsimp only [GW];intro d hd;refine ⟨Gb,[(.inl 0,.int 0),(.inl 1,.int 1)],rfl,by decide,?_⟩;have s2:Same H1 (upd (upd H1 d (.dK [])) d (.dK (Jp [] [(.inl 0,.int 0),(.inl 1,.int 1)]))):=(Same.new hd).put hd;have ed:upd (upd H1 d (.dK [])) d (.dK (Jp [] [(.inl 0,.int 0),(.inl 1,.int 1)])) d=some (.dK (Jp [] [(.inl 0,.int 0),(.inl 1,.int 1)])):=Gb;dsimp only [GW];generalize upd (upd H1 d (.dK [])) d (.dK (Jp [] [(.inl 0,.int 0),(.inl 1,.int 1)]))=H2 at s2 ed ⊢;have aj:=s1.trans s2;have ak:=s2 _ _ ab;have aB:=aj _ _ el;have aC:=tr.same aj;have aD:H d=none:=s1.free hd;refine Gw (λZ H'=>∃(kvs:List (Key×V))(v4 v5:Option V),Z=[some (.int root),some (.ref l),some (.ref fl),some (.ref d),v4,v5,none]/\Same H1 H'/\H' d=some (.dK kvs)/\∀n:Int,JW kvs (.inl n)=(J4 fs n).map V.int) ?s1 ?f1
  case f1=>
   intro hk;refine ⟨_,rfl,fl,_,rfl,SqL.of ak,?_⟩;refine ZaR (K:=K) (a:=fl) (xs:=fs.map V.int) (λi Z H'=>∃(kvs:List (Key×V))(v4 v5:Option V),Z=[some (.int root),some (.ref l),some (.ref fl),some (.ref d),v4,v5,none]/\Same H1 H'/\H' d=some (.dK kvs)/\(∀n:Int,JW kvs (.inl n)=(J4 (fs.take i) n).map V.int)/\kvs.length<=i+2)
    ⟨_,none,none,rfl,s2,ed,λn=>by rw [List.take_zero];exact Zhi n,by decide⟩ (by rintro i Z H' _ ⟨_,_,_,_,B,_⟩;exact SqL.of (B _ _ ab)) ?_ ?_
   ·rintro i x Z H3 T3 ah ⟨kvs,v4,v5,rfl,B,e3,val,len⟩ hT;obtain ⟨c,rfl,L⟩:=JR ah;have hi:i<fs.length:=(Yaj.mp L).1;obtain ⟨r,n⟩:=O c (Yat L);have hn:J4 (fs.take i) c=none:=New.num.mp ⟨by have:=n.1;lia,by have:=n.1;lia,λz=>by
     have hz:=nd;rw [<-Ycy (i+1) fs,Ybu,L,Option.toList_some] at hz;exact (Ycd.mp (Ycd.mp hz).1).2.2 c z c (by simp) rfl⟩
    have az:d≠T3:=Gf e3 hT;refine ⟨T3,_,rfl,SqT.of Gb,rfl,_,_,rfl,_,_,rfl,rfl,?_⟩;have a3:=Jj kvs (Sum.inl c:Key) (.int ((i:Int)+2));refine ⟨_,rfl,_,_,rfl,rfl,_,rfl,_,rfl,d,_,rfl,DPut.k (k:=Sum.inl c) (Gi e3 az) (by lia),?_⟩;refine ⟨_,_,_,rfl,(B.put (B.free hT)).put hd,Gb,λm=>?_,Yca a3 (by lia)⟩;rw [Ybu,L,Option.toList_some,Za5 _ m c hn,Jr,val m,Yba,Yds (Ycr hi)];by_cases e:m=c
    ·rw [if_pos e,if_pos (by rw [e])]
     rfl
    ·rw [if_neg e,if_neg (λz=>e (Sum.inl.inj z))]
   ·rintro Z H3 ⟨kvs,v4,v5,rfl,B,e3,val,len⟩;rw [Yab,Ybn] at val;exact hk _ _ ⟨kvs,v4,v5,rfl,B,e3,val⟩
  rintro Z H3 ⟨kvs,v4,v5,rfl,B,e3,val⟩;have a4:=tr.same (s1.trans B);refine Gw (λZ H'=>∃(tl:Addr)(ys:List V),Z=[some (.int root),some (.ref l),some (.ref fl),some (.ref d),v4,v5,some (.ref tl)]/\Same H3 H'/\H' tl=some (.lst ys)/\Trs H' ys (fs.map (ZfH ks))) ?s2 ?f2
  case f2=>
   intro hk;refine ⟨_,rfl,fl,rfl,⟨_,SqL.of (B _ _ ab)⟩,λD hD=>?_⟩;refine GL (K:=K) (a:=fl) (xs:=fs.map V.int) (λi ys H'=>Same H3 H'/\H' D=some (.lst ys)/\Trs H3 ys ((fs.take i).map (ZfH ks))) ⟨Same.new hD,Gb,by rw [List.take_zero];exact .nil⟩ (by rintro i ys H' _ ⟨U,_⟩;exact SqL.of (U _ _ (B _ _ ab))) ?_ ?_
   ·rintro i x ys H4 ah ⟨U,ai,ty⟩;obtain ⟨c,rfl,L⟩:=JR ah;have hi:i<fs.length:=(Yaj.mp L).1;obtain ⟨r,n⟩:=O c (Yat L);obtain ⟨t,a5,a6⟩:=Z5 a4 n;have ac:=ty.len;rw [Yab,Yba] at ac;refine ⟨⟨rfl,trivial⟩,?_⟩;unfold ZdA;refine OW ?_;refine ⟨_,rfl,_,rfl,_,_,rfl,rfl,l,_,_,_,rfl,rfl,SqL.of (U _ _ ((s1.trans B) _ _ el)),a5,?_⟩;refine ⟨ai,by lia,U.put hD,Gb,?_⟩;rw [Ybu,L,Option.toList_some,Yak,List.map_singleton,Z8 n];exact ty.snoc a6
   ·rintro ys H4 ⟨U,ai,ty⟩;rw [Yab,Ybn] at ty;exact hk _ _ ⟨D,ys,rfl,U,ai,ty.same U⟩
  rintro Z H4 ⟨tl,ys,rfl,U,am,ty⟩;obtain ⟨a0,an⟩:=numI_of (fin root (by unfold JD;exact Yaw));have g0:JW kvs (.inl root)=some (.int a0):=by rw [val,an];rfl
  have ao:=U _ _ e3;refine ⟨_,rfl,_,rfl,d,_,rfl,g0▸DGet.k (k:=.inl root) ao,?_⟩;refine ⟨_,rfl,tl,rfl,⟨_,SqL.of am⟩,λD hD=>?_⟩;refine GL (K:=K) (a:=tl) (xs:=ys) (λi zs H'=>Same H4 H'/\H' D=some (.lst zs)/\∃us,Trs H' zs us/\us.length=i/\Said ks fs us i) ⟨Same.new hD,Gb,[],.nil,rfl,λj x hj=>absurd hj (Nat.not_lt_zero _)⟩ (by rintro i zs H' _ ⟨s5,_⟩;exact SqL.of (s5 _ _ am)) ?_ ?_
  ·rintro i y zs H5 a7 ⟨s5,ad,us,ae,Y,S⟩;obtain ⟨t,r,rfl,et,er⟩:=ty.get a7;rw [Ybb] at er;obtain ⟨c,L,ap⟩:=Ybk.mp er;obtain ⟨r',n⟩:=O c (Yat L);rw [Z8 n] at ap;subst ap;have hi:i<fs.length:=(Yaj.mp L).1;have aq:∀z,z∈[r'.2.1,r'.2.2]->z∈JD ks root fs:=λz hz=>by
    unfold JD;exact Ybf _ (List.mem_flatMap.mpr ⟨c,Yat L,by rw [XA n];exact hz⟩)
   obtain ⟨a1,as⟩:=numI_of (fin _ (aq r'.2.1 (by simp)));obtain ⟨a2,au⟩:=numI_of (fin _ (aq r'.2.2 (by simp)));have g1:JW kvs (.inl r'.2.1)=some (.int a1):=by rw [val,as];rfl
   have g2:JW kvs (.inl r'.2.2)=some (.int a2):=by rw [val,au];rfl
   have av:=s5 _ _ ao;have aE:=ae.len;refine ⟨t,_,rfl,SqT.of (s5 _ _ et),rfl,_,_,rfl,_,_,rfl,_,_,rfl,rfl,⟨rfl,trivial⟩,?_⟩;unfold ZdA;refine OW ?_;refine ⟨_,rfl,_,rfl,_,rfl,d,_,rfl,g1▸DGet.k (k:=.inl r'.2.1) av,_,rfl,_,rfl,d,_,rfl,g2▸DGet.k (k:=.inl r'.2.2) av,(by show 3<=sizeLine;decide),λt5 a8=>?_⟩;obtain ⟨H6,q_,s6,a9⟩:=nwU (o:=.tup [.int r'.1,.int a1,.int a2]) a8;rw [q_];have k5:=Jq (o:=.lst (zs++[.ref t5])) (s6 _ _ ad);exact ⟨s6 _ _ ad,by lia,(s5.trans s6).put hD,Gb,us++[(r'.1,a1,a2)],((ae.same s6).keep k5).snoc (k5 _ _ a9),by rw [Yae,Yap,Y],S.snoc Y L n as au⟩
  ·rintro zs H5 ⟨s5,ad,us,ae,Y,S⟩;have ac:=ty.len;rw [Yab] at ac;rw [ac] at Y S;refine ⟨JB,λp hp=>?_⟩;have s6:Same H5 (upd H5 p (.tup [.int a0,.ref D])):=Same.new hp;have sa:=((s1.trans B).trans U).trans s5;exact q p D a0 zs us fs _ (sa.trans s6) (sa.free hp) (((s1.trans B).trans U).free hD) ⟨Gb,s6 _ _ ad,ae.same s6⟩ rch fin nd O S Y ay an
end
structure LeT {κ:Type}(pf:κ->Pt κ)(s:κ)(a0:Int)(us:List Tri)(ts:List Tri)(root:Int)(fs:List Int):Prop where
 grw:Grw pf s [] ts
 num:NumOk pf ts s root
 rch:Rch ts root fs
 fin:Fin ts root fs
 nd:fs.Nodup
 nod:∀x∈fs,∃r,Nd ts x r
 said:Said ts fs us fs.length
 len:us.length=fs.length
 le:fs.length<=ts.length
 a0:J4 fs root=some a0
 all:∀k,Rc pf s k->∃c,NumOk pf ts k c
section
variable {P:Program}{w:World}{K:W.Frag}{mg:Str->Option Value}{base:Heap}{κ:Type}[DecidableEq κ]{G:GK P w κ}{pf:κ->Pt κ}{Dom:κ->Prop}
noncomputable def Zc9 (G:GK P w κ)(pf:κ->Pt κ)(Dom:κ->Prop)(HF:Hp->Prop)(j B tb:Addr):Sp:=λvs H Q E=>∃(b:Addr)(s:κ)(U Un:List κ)(M:Int),vs=[.ref b,.ref j,.int M]/\HF H/\G.At H b s/\Dom s/\(∀k,Rc pf s k->k∈U)/\(∀k,Rc pf s k->Uo (pf k)=true->k∈Un)/\U.length<=10000/\(0<=M/\M<=900)/\Zb2 pf s/\Abv pf s (-1)/\LD tb H /\
 (∀(p l:Addr)(a0 root:Int)(xs:List V)(us ts:List Tri)(fs:List Int)(H':Hp),SameL tb H H'->LD tb H'->H p=none->H l=none->TabAt H' p l a0 xs us->LeT pf s a0 us ts root fs->ts.length<=Un.length->(ts.length:Int)<=M->Q (.ref p) H') /\
 (∀(ts:List Tri)(H':Hp),SameL tb H H'->LD tb H'->Grw pf s [] ts->M<ts.length->ts.length<=Un.length->E (.ref B) none H')
theorem scLeT:Gs ["start", "parts", "most", "shelf"] ["start", "parts", "most"] (Gh Zew):=⟨rfl,rfl,rfl,by decide +kernel,rfl,by decide +kernel,by decide +kernel⟩
theorem ZeQ {HF:Hp->Prop}{f fI O Y fP C TM tb:Addr}{fd Z j B:FuncData}{kp:Nat}(F:Fun K "least_table" "least_table" Zew f fd)(aj:∀{H H':Hp},HF H->Same H H'->HF H')(TS:ZeC K mg C TM)(ak:Mk K C fI)(aa:Binds K Z ["self", "most"] [])(ac:FnOk P w K mg base CX0 1 fI Z ["self", "most"] (ZeD C))(am:Fun K "laid_down" "laid_down" ZdD O j)(an:Binds K j ["start", "parts", "shelf"] [])(ao:mg "laid_down" = some (.ref O))(ap:FnOk P w K mg base (CXr P w) (kp+2) O j ["start", "parts", "shelf"] (ZeK G pf Dom HF fP C TM tb))(aq:Fun K "numbered" "numbered" Zev Y B)(ar:Binds K B ["root", "nodes"] [])(as:mg "numbered" = some (.ref Y))(au:FnOk P w K mg base CX0 2 Y B ["root", "nodes"] ZeO) :
  FnOk P w K mg base (CXr P w) (kp+3) f fd ["start", "parts", "most"] (Zc9 G pf Dom HF fP TM tb):=by
 refine F.okR scLeT (λvs H Q E h=>?_) (λav A outer s H vs Q E hr h=>?_)
 ·obtain ⟨_,_,_,_,_,rfl,_⟩:=h
  rfl
 ·obtain ⟨b,st,U,Un,M,rfl,aw,hb,ax,hU,ay,az,ad,PO,ab,ld,qq,qe⟩:=h;have a1:Room 2 (A.deeper (PyProof.Rows.envOfC "least_table" (Gh Zew) s.heap.objs.size f av)):=hr.mono (by lia);refine ⟨_,Ge (Gp (i:=3) scLeT.nd rfl (Or.inl rfl) (Zcr ak ac a1 rfl TS.mgC aa .nil Gv (Ga (pv 2) Gc)))
    (Gj (Gx (Gk au (hr.mono (by lia)) rfl as aq.kp ar .nil Gv (Ga (Gk ap hr rfl ao am.kp an .nil Zd9 (Ga (pv 0) (Ga (pv 1) (Ga (pv 3) Gc)))) (Ga (Oy (pv 3) rfl) Gc))))),?_⟩
  refine ⟨_,rfl,λp dx hp a2 aD=>?_⟩;refine ⟨p,dx,.int M,rfl,Gb,λnl pd H2 ae af aE S2 k2=>⟨rfl,?_⟩⟩;have k1:∀a u,H a=some u->upd (upd H dx (.own p)) p (.ins C dx []) a=some u:=λa u e=>Gi (Gi e (Gf e a2)) (Gf e hp);have s2:Same H H2:=λa u e=>k2 a u (k1 a u e) (Gf e hp);have ag:H nl=none:=by
   cases e:H nl with
   | none=>rfl
   | some u=>rw [k1 _ _ e] at ae;cases ae
  have ah:H pd=none:=by
   cases e:H pd with
   | none=>rfl
   | some u=>rw [k1 _ _ e] at af;cases af
  have a3:LD tb H2:=ld.same s2;obtain ⟨aF,eT⟩:=ld.tbl;have up:∀{H':Hp},FrD nl pd tb H2 H'->SameL tb H H':=λfr a u n e=>fr a u (λz=>by rw [z,ag] at e;cases e) (λz=>by rw [z,ah] at e;cases e) n (s2 _ _ e);dsimp only [GW];refine ⟨_,rfl,_,rfl,_,rfl,b,p,nl,pd,st,U,Un,M,[],[],[],rfl,aj aw s2,G.keep hb (λa ys e=>s2 _ _ e),ax,hU,ay,by simpa using az,PO,a3,S2,ShOk.nil,λroot xs ts kvs H3 fr L S3 D hl a4 all nk=>?_,λts H3 fr L D hM hl=>qe ts H3 (up fr) L D hM (by simpa using hl)⟩;obtain ⟨a5,ob⟩:=S3.ob;have a6:ts.length<=Un.length:=by simpa using hl
  have a7:(ts.length:Int)<=M:=by
   rcases a4 with h | h
   ·exact h
   ·rw [h];exact ad.1
  refine ⟨_,rfl,p,C,a5,_,_,rfl,ob,TS.cl,TS.nN,Of _ _ _,?_⟩;refine ⟨nl,root,xs,ts,rfl,S3.nd,S3.tr,D.sh.ok,by lia,nk.at_ (-1) ab,λq l a0 ys us fs H4 s4 hq a8 W rch fin nd a9 sd aA aB h0=>?_⟩;obtain ⟨aC,ai⟩:=L.tbl;exact qq q l a0 root ys us ts fs H4 ((up fr).trans (SameL.of s4)) (L.same s4) ((up fr).free eT ⟨_,ai⟩ hq) ((up fr).free eT ⟨_,ai⟩ a8) W ⟨D,nk,rch,fin,nd,a9,sd,aA,aB,h0,all⟩ a6 a7
end
noncomputable def Sim (ts ts':List Tri)(c c':Int):Prop:=∀s,Has ts c s↔Has ts' c' s
section
variable {ts ts':List Tri}{c c' lo lo':Int}{r r':Tri}
theorem Sim.symm (h:Sim ts ts' c c'):Sim ts' ts c' c:=λs=>(h s).symm
theorem Z9 (n:Nd ts c r):r∈ts:=Yat n.2
theorem Og (S:ShOk ts):∀(n:Nat)(c lo:Int),At ts c lo->(30-lo).toNat<=n->c≠0->∃s,Has ts c s
 | n,c,lo,h,hn,h0=>by
  rcases h with h | rfl | ⟨r,m,g⟩
  ·exact absurd h h0
  ·exact ⟨[],.one⟩
  ·obtain ⟨⟨a1,a2⟩,a3,a4⟩:=S.ok.nd m
   match n with
   | 0=>lia
   | n+1=>
    obtain ⟨s,j⟩:=Og S n r.2.2 r.1 a4 (by lia) (S.hi r (Z9 m));exact ⟨_,.high m j⟩
theorem Sim.zero (S:ShOk ts)(h:Sim ts ts' c c')(a:At ts c lo)(e:c'=0):c=0:=by
 subst e;by_cases z:c=0
 ·exact z
 ·obtain ⟨s,j⟩:=Og S _ c lo a (Yad _) z;exact absurd ((h s).mp j) Has.zero
theorem Sim.one (S:ShOk ts)(h:Sim ts ts' c c')(a:At ts c lo)(e:c'=1):c=1:=by
 subst e;rcases a with rfl | z | ⟨r,m,_⟩
 ·exact absurd ((h []).mpr .one) Has.zero
 ·exact z
 ·obtain ⟨s,j⟩:=Og S _ r.2.2 r.1 (S.ok.nd m).2.2 (Yad _) (S.hi r (Z9 m));have:=Has.at1.mp ((h _).mp (.high m j));cases this
theorem Sim.le (S:ShOk ts)(j:ShOk ts')(h:Sim ts ts' c c')(n:Nd ts c r)(B:Nd ts' c' r'):r'.1<=r.1:=by
 obtain ⟨s,D⟩:=Og S _ r.2.2 r.1 (S.ok.nd n).2.2 (Yad _) (S.hi r (Z9 n));by_cases z:r.1<r'.1
 ·exact absurd ((h _).mp (.high n D)) (Has.none j.ok B z)
 ·lia
theorem Sim.node (S:ShOk ts)(j:ShOk ts')(h:Sim ts ts' c c')(n:Nd ts c r)(B:Nd ts' c' r'):r.1=r'.1/\Sim ts ts' r.2.1 r'.2.1/\Sim ts ts' r.2.2 r'.2.2:=by
 have e:r.1=r'.1:=by
  have h1:=h.le S j n B;have h2:=h.symm.le j S B n
  lia
 refine ⟨e,λs=>?_,λs=>?_⟩
 ·cases s with
  | nil=>rw [<-Has.nil n,<-Has.nil B];exact h []
  | cons x xs=>
   by_cases z:r.1=x
   ·constructor
    ·intro k;have:=k.gt S.ok (S.ok.nd n).2.1 rfl
     lia
    ·intro k;have:=k.gt j.ok (j.ok.nd B).2.1 rfl
     lia
   ·rw [<-Has.skip S.ok n z,<-Has.skip j.ok B (by lia)];exact h _
 ·rw [<-Has.take S.ok n rfl,<-Has.take j.ok B e.symm];exact h _
theorem WA (S:ShOk ts):∀(n:Nat)(c c' lo lo':Int),At ts c lo->At ts c' lo'->(30-lo).toNat<=n->Sim ts ts c c'->c=c'
 | n,c,c',lo,lo',a,a',hn,h=>by
  by_cases z0:c=0
  ·rw [z0,h.symm.zero S a' z0]
  by_cases z1:c=1
  ·rw [z1,h.symm.one S a' z1]
  have y0:c'≠0:=λz=>z0 (h.zero S a z);have L:c'≠1:=λz=>z1 (h.one S a z);rcases a with z | z | ⟨r,m,g⟩
  ·exact absurd z z0
  ·exact absurd z z1
  rcases a' with z | z | ⟨r',j,g'⟩
  ·exact absurd z y0
  ·exact absurd z L
  obtain ⟨O,U,Y⟩:=h.node S S m j;obtain ⟨⟨a1,a2⟩,Z,a4⟩:=S.ok.nd m;obtain ⟨_,b3,b4⟩:=S.ok.nd j
  match n with
  | 0=>lia
  | n+1=>
   have f2:=WA S n _ _ _ _ Z b3 (by lia) U;have f3:=WA S n _ _ _ _ a4 b4 (by lia) Y;have er:r=r':=Prod.ext O (Prod.ext f2 f3);subst er;obtain ⟨h1,h2⟩:=Yaj.mp m.2;obtain ⟨B,D⟩:=Yaj.mp j.2;have:(c-2).toNat=(c' - 2).toNat:=by
    rcases Nat.lt_trichotomy (c-2).toNat (c' - 2).toNat with z | z | z
    ·exact absurd (h2.trans D.symm) (Ydf.mp S.nd _ _ h1 B z)
    ·exact z
    ·exact absurd (D.trans h2.symm) (Ydf.mp S.nd _ _ B h1 z)
   have g1:=m.1;have g2:=j.1
   lia
end
inductive All2 {α β:Type}(R:α->β->Prop):List α->List β->Prop
 | nil:All2 R [] []
 | cons {x:α} {y:β} {xs:List α} {ys:List β}:R x y->All2 R xs ys->All2 R (x::xs) (y::ys)
section
variable {α β:Type}{R R':α->β->Prop}{xs xs':List α}{ys ys':List β}
theorem All2.len (h:All2 R xs ys):xs.length=ys.length:=by
 induction h with
 | nil=>rfl
 | cons _ _ ih=>simp [ih]
theorem All2.app (h:All2 R xs ys)(h':All2 R xs' ys'):All2 R (xs++xs') (ys++ys'):=by
 induction h with
 | nil=>exact h'
 | cons a _ ih=>exact .cons a ih
theorem All2.get (h:All2 R xs ys):∀{i:Nat}{x:α}{y:β},xs[i]?=some x->ys[i]?=some y->R x y:=by
 induction h with
 | nil=>intro i x y e;simp at e
 | cons a _ ih=>
  intro i x y e j;cases i with
  | zero=>simp at e j;subst e j;exact a
  | succ i=>exact ih (by simpa using e) (by simpa using j)
theorem All2.memR (h:All2 R xs ys){y:β}(j:y∈ys):∃x∈xs,R x y:=by
 induction h with
 | nil=>cases j
 | cons a _ ih=>
  rcases Yau.mp j with rfl | j
  ·exact ⟨_,Yaw,a⟩
  ·obtain ⟨x,B,r⟩:=ih j;exact ⟨x,Ybf _ B,r⟩
end
section
variable {ts ts':List Tri}{root root':Int}
structure SimA (ts ts':List Tri)(c c':Int):Prop where
 s:Sim ts ts' c c'
 a:At ts c (-1)
 b:At ts' c' (-1)
theorem SimA.symm {c c':Int}(h:SimA ts ts' c c'):SimA ts' ts c' c:=⟨h.s.symm,h.b,h.a⟩
theorem SimA.new {f g:List Int}{y j:Int}(S:ShOk ts)(D:ShOk ts')(A:All2 (SimA ts ts') f g)(h:SimA ts ts' y j)(n:New f y):New g j:=by
 refine ⟨λz=>n.1 (h.s.zero S h.a z),λz=>n.2.1 (h.s.one S h.a z),λz=>?_⟩;obtain ⟨x,B,k⟩:=A.memR z;have:y=x:=WA S _ _ _ _ _ h.a k.a (Yad _) λs=>(h.s s).trans (k.s s).symm;exact n.2.2 (this▸B)
theorem All2.symm {α β:Type}{R:α->β->Prop}{xs:List α}{ys:List β}(h:All2 R xs ys):All2 (λy x=>R x y) ys xs:=by
 induction h with
 | nil=>exact .nil
 | cons a _ ih=>exact .cons a ih
theorem All2.imp {α β:Type}{R R':α->β->Prop}{xs:List α}{ys:List β}(h:All2 R xs ys)(k:∀x y,R x y->R' x y):All2 R' xs ys:=by
 induction h with
 | nil=>exact .nil
 | cons a _ ih=>exact .cons (k _ _ a) ih
theorem XM (S:ShOk ts)(B:ShOk ts')(L:SimA ts ts' root root'){f g:List Int}(A:All2 (SimA ts ts') f g)(D:∀x∈f,2<=x):All2 (SimA ts ts') (JD ts root f) (JD ts' root' g):=by
 unfold JD;refine .cons L ?_
 induction A with
 | nil=>exact .nil
 | @cons x y xs ys a A ih=>
  rw [List.flatMap_cons,List.flatMap_cons];refine All2.app ?_ (ih λz O=>D z (Ybf _ O));have h2:=D x Yaw;obtain ⟨r,n,_⟩:=a.a.nd (by lia);have y0:y≠0:=λz=>by have:=a.s.zero S a.a z;lia
  have y1:y≠1:=λz=>by have:=a.s.one S a.a z;lia
  obtain ⟨r',j,_⟩:=a.b.nd (by have:=a.b.lt;lia);obtain ⟨e1,U,Y⟩:=a.s.node S B n j;obtain ⟨p1,p2,Z⟩:=S.ok.nd n;obtain ⟨q1,q2,q3⟩:=B.ok.nd j;rw [XA n,XA j];exact .cons ⟨U,p2.mono (by lia),q2.mono (by lia)⟩ (.cons ⟨Y,Z.mono (by lia),q3.mono (by lia)⟩ .nil)
theorem Zda (S:ShOk ts)(D:ShOk ts')(Y:SimA ts ts' root root'){f g:List Int}(A:All2 (SimA ts ts') f g)(Z:∀x∈f,2<=x){x:Int}(h:Ext ts root f x):∃y,Ext ts' root' g y/\SimA ts ts' x y:=by
 obtain ⟨p,q,e,n,old⟩:=h;have B:=XM S D Y A Z;have hl:=B.len;rw [e,Yae,Ybq] at hl;have L:p.length<(JD ts' root' g).length:=by lia
 have gx:(JD ts root f)[p.length]?=some x:=by rw [e,Ybt (Yad _),Ych];rfl
 have gy:(JD ts' root' g)[p.length]?=some (JD ts' root' g)[p.length]:=Yaz L;have k:=B.get gx gy;refine ⟨_,⟨(JD ts' root' g).take p.length,(JD ts' root' g).drop (p.length+1),?_,k.new S D A n,λy hy hn=>?_⟩,k⟩
 ·rw [<-Yde L,Ycy]
 ·obtain ⟨j,hj,O⟩:=List.getElem_of_mem hy;rw [Yba] at hj;rw [List.getElem_take] at O;have gj:(JD ts root f)[j]?=some p[j]:=by rw [e,Ybl (by lia)];exact Yaz (by lia)
  have U:=B.get gj (Yaz (by lia));rw [O] at U;exact old _ (List.getElem_mem (by lia)) (U.symm.new D S (A.symm.imp λ_ _ z=>z.symm) hn)
theorem Zaa {f:List Int}(S:ShOk ts)(a:At ts root (-1))(h:Rch ts root f):∀x∈f,2<=x:=by
 intro x D;obtain ⟨i,hi,e⟩:=List.getElem_of_mem D;obtain ⟨p,q,es,n,_⟩:=h.at i x (by rw [Yaz hi,e]);have B:x∈JD ts root (f.take i):=by rw [es];simp
 have h0:0<=x:=by
  unfold JD at B;rcases Yau.mp B with rfl | B
  ·exact a.lt.1
  ·obtain ⟨y,_,j⟩:=List.mem_flatMap.mp B;unfold chT at j;cases e2:ts[(y-2).toNat]? with
   | none=>rw [e2] at j;cases j
   | some r=>
    rw [e2] at j;obtain ⟨_,L,O⟩:=S.ok _ r e2;simp at j;rcases j with rfl | rfl
    ·exact L.lt.1
    ·exact O.lt.1
 have:=n.1;have:=n.2.1
 lia
theorem Zdb (S:ShOk ts)(B:ShOk ts')(j:SimA ts ts' root root'){f:List Int}(h:Rch ts root f):∃g,Rch ts' root' g/\All2 (SimA ts ts') f g:=by
 induction h with
 | nil=>exact ⟨[],.nil,.nil⟩
 | @snoc f x h e ih=>
  obtain ⟨g,D,A⟩:=ih;obtain ⟨y,L,k⟩:=Zda S B j A (Zaa S j.a h) e;exact ⟨g++[y],.snoc D L,A.app (.cons k .nil)⟩
theorem Zdc (S:ShOk ts)(j:ShOk ts')(B:SimA ts ts' root root'){f g:List Int}(h:Rch ts root f)(A:All2 (SimA ts ts') f g)(D:Fin ts root f):Fin ts' root' g:=by
 intro y L O;obtain ⟨x,U,k⟩:=(XM S j B A (Zaa S B.a h)).memR L;exact D x U (k.symm.new j S (A.symm.imp λ_ _ z=>z.symm) O)
end
section
variable {ts ts':List Tri}
theorem Zbv (S:ShOk ts)(D:ShOk ts'){x y j B:Int}(h:SimA ts ts' x j)(k:SimA ts ts' y B):x=y↔j=B:=
 ⟨λe=>WA D _ _ _ _ _ h.b k.b (Yad _) λs=>(h.s s).symm.trans (by rw [e];exact k.s s),
  λe=>WA S _ _ _ _ _ h.a k.a (Yad _) λs=>(h.s s).trans (by rw [e];exact (k.s s).symm)⟩
theorem Zdd (S:ShOk ts)(B:ShOk ts'){f g:List Int}{y j:Int}(A:All2 (SimA ts ts') f g)(k:SimA ts ts' y j):f.idxOf? y=g.idxOf? j:=by
 induction A with
 | nil=>rfl
 | @cons a b f g h A ih=>
  have e:=Zbv S B h k;unfold List.idxOf? at ih ⊢;rw [List.findIdx?_cons,List.findIdx?_cons,ih];by_cases z:a=y
  ·simp [z,e.mp z]
  ·have D:¬ b=j:=λq=>z (e.mpr q);simp [z,D]
theorem W8 (S:ShOk ts)(j:ShOk ts'){f g:List Int}{y B:Int}(A:All2 (SimA ts ts') f g)(k:SimA ts ts' y B):J4 f y=J4 g B:=by
 unfold J4;by_cases h0:y=0
 ·rw [if_pos h0,if_pos (k.symm.s.zero j k.b h0)]
 rw [if_neg h0,if_neg (λz=>h0 (k.s.zero S k.a z))];by_cases h1:y=1
 ·rw [if_pos h1,if_pos (k.symm.s.one j k.b h1)]
 rw [if_neg h1,if_neg (λz=>h1 (k.s.one S k.a z)),Zdd S j A k]
theorem Zbw (S:ShOk ts)(B:ShOk ts'){root root' a0 L:Int}{fs fs':List Int}{us D:List Tri}(O:SimA ts ts' root root')(R:Rch ts root fs)(Fi:Fin ts root fs)(Sd:Said ts fs us fs.length)(hl:us.length=fs.length)(h0:J4 fs root=some a0)(R':Rch ts' root' fs')(U:Fin ts' root' fs')(Y:Said ts' fs' D fs'.length)(ad:D.length=fs'.length)(Z:J4 fs' root'=some L):us=D/\a0=L:=by
 obtain ⟨g,Rg,A⟩:=Zdb S B O R;obtain rfl:=Rg.eq (Zdc S B O R A Fi) R' U;have qV:=A.len;refine ⟨List.ext_getElem? λj=>?_,?_⟩
 ·by_cases hj:j<fs.length
  ·obtain ⟨r,a,b,n,ha,hb,eu⟩:=Sd j _ hj (Yaz hj);obtain ⟨r',a',b',n',aa,ab,ac⟩:=Y j _ (by lia) (Yaz (show j<g.length by lia));have k:=A.get (Yaz hj) (Yaz (show j<g.length by lia));obtain ⟨e1,e2,e3⟩:=k.s.node S B n n';obtain ⟨p1,p2,p3⟩:=S.ok.nd n;obtain ⟨q1,q2,q3⟩:=B.ok.nd n';rw [W8 S B A ⟨e2,p2.mono (by lia),q2.mono (by lia)⟩,aa] at ha;rw [W8 S B A ⟨e3,p3.mono (by lia),q3.mono (by lia)⟩,ab] at hb;cases ha;cases hb;rw [eu,ac,e1]
  ·rw [List.getElem?_eq_none (by lia),List.getElem?_eq_none (by lia)]
 ·rw [W8 S B A O,Z] at h0;exact (Ybo h0).symm
end
section
variable {κ:Type}{pf:κ->Pt κ}{s:κ}{a0 root:Int}{us ts:List Tri}{fs:List Int}
theorem LeT.same {ks vs:List Tri}{b0 rt:Int}{j:List Int}(L:LeT pf s a0 us ts root fs)(ab:Abv pf s (-1))(S:ShOk ks)(B:At ks rt (-1))(R:Rch ks rt j)(Fi:Fin ks rt j)(D:Said ks j vs j.length)(O:vs.length=j.length)(h0:J4 j rt=some b0)(h:∀x,Has ks rt x↔YF pf s x):vs=us/\b0=a0:=
 Zbw S L.grw.sh ⟨λx=>(h x).trans (L.num.has x).symm,B,L.num.at_ _ ab⟩ R Fi D O h0 L.rch L.fin L.said L.len L.a0
end
theorem J6 (m:Nat):JA (m+1)=JA m++[(m:Int)+2]:=by
 unfold JA;rw [List.range_succ,Yak]
 rfl
theorem XN {m:Nat}{y:Int}:y∈JA m↔2<=y/\y<(m:Int)+2:=by
 unfold JA;rw [Yam];constructor
 ·rintro ⟨i,hi,rfl⟩;have:=List.mem_range.mp hi
  lia
 ·rintro ⟨h1,h2⟩;exact ⟨(y-2).toNat,List.mem_range.mpr (by lia),by lia⟩
theorem UI {m:Nat}{y:Int}:¬ New (JA m) y↔y=0\/y=1\/(2<=y/\y<(m:Int)+2):=by
 unfold New;rw [XN];constructor
 ·intro h;by_cases h0:y=0
  ·exact .inl h0
  ·by_cases h1:y=1
   ·exact .inr (.inl h1)
   ·refine .inr (.inr ?_);by_cases h2:2<=y/\y<(m:Int)+2
    ·exact h2
    ·exact absurd ⟨h0,h1,h2⟩ h
 ·rintro h ⟨h0,h1,h2⟩;rcases h with h | h | h
  ·exact h0 h
  ·exact h1 h
  ·exact h2 h
theorem ZeR {ts us:List Tri}{i:Nat}(h:i<ts.length):chT (ts++us) ((i:Int)+2)=chT ts ((i:Int)+2):=by
 unfold chT;rw [show ((i:Int)+2-2).toNat=i by lia,Ybl h]
theorem ZeS {ts:List Tri}{i:Nat}(h:ts.length<=i):chT ts ((i:Int)+2)=[]:=by
 unfold chT;rw [show ((i:Int)+2-2).toNat=i by lia,List.getElem?_eq_none h]
theorem VT {ts us:List Tri}{root:Int}:∀{m:Nat},m<=ts.length->JD (ts++us) root (JA m)=JD ts root (JA m)
 | 0,_=>rfl
 | m+1,h=>by rw [J6,JH,JH,VT (by lia),ZeR (by lia)]
theorem Zbx {ts:List Tri}{root:Int}:∀{m:Nat},ts.length<=m->JD ts root (JA m)=JD ts root (JA ts.length)
 | m,h=>by
  induction m with
  | zero=>
   have:ts.length=0:=by lia
   rw [this]
  | succ m ih=>
   by_cases z:ts.length=m+1
   ·rw [z]
   ·rw [J6,JH,ih (by lia),ZeS (by lia),Ybv]
theorem WB {ts:List Tri}{root:Int}(m k:Nat):∃q,JD ts root (JA (m+k))=JD ts root (JA m)++q:=by
 induction k with
 | zero=>exact ⟨[],by rw [Ybv];rfl⟩
 | succ k ih=>
  obtain ⟨q,e⟩:=ih;exact ⟨q++chT ts (((m+k:Nat):Int)+2),by rw [<-Nat.add_assoc,J6,JH,e,Ybg]⟩
theorem Zby {ts us:List Tri}{root:Int}(m:Nat):∃q,JD (ts++us) root (JA m)=JD ts root (JA m)++q:=by
 by_cases h:m<=ts.length
 ·exact ⟨[],by rw [VT h,Ybv]⟩
 ·obtain ⟨q,e⟩:=WB (ts:=ts++us) (root:=root) ts.length (m-ts.length);rw [show ts.length+(m-ts.length)=m by lia] at e;exact ⟨q,by rw [e,VT (Yad _),Zbx (ts:=ts) (m:=m) (by lia)]⟩
theorem Zde {ts us:List Tri}{root:Int}{m:Nat}{x:Int}(h:Ext ts root (JA m) x):Ext (ts++us) root (JA m) x:=by
 obtain ⟨p,q,e,n,a⟩:=h;obtain ⟨j,B⟩:=Zby (ts:=ts) (us:=us) (root:=root) m;exact ⟨p,q++j,by rw [B,e,Ybg];rfl,n,a⟩
structure BF (ts:List Tri)(m:Nat):Prop where
 ex:∀i,i<m->Ext ts 2 (JA i) ((i:Int)+2)
 old:∀y∈JD ts 2 (JA ts.length),¬ New (JA m) y
theorem BF.start:BF [] 1:=by
 refine ⟨λi hi=>?_,λy j=>?_⟩
 ·have:i=0:=by lia
  subst this;exact ⟨[],[],rfl,⟨by decide,by decide,by simp [JA]⟩,λy j=>by cases j⟩
 ·have:y=2:=by simpa [JD,JA] using j
  rw [this,UI]
  lia
noncomputable def Nxt (m j:Nat)(a:Int):Prop:=(¬ New (JA m) a/\j=m)\/(a=(m:Int)+2/\j=m+1)
theorem Zab {m j:Nat}{y:Int}(h:¬ New (JA m) y)(B:m<=j):¬ New (JA j) y:=by
 rw [UI] at h ⊢
 lia
theorem Nxt.le {m j:Nat}{a:Int}(h:Nxt m j a):m<=j:=by rcases h with ⟨_,h⟩ | ⟨_,h⟩ <;> lia
theorem Nxt.old {m j:Nat}{a:Int}(h:Nxt m j a):¬ New (JA j) a:=by
 rcases h with ⟨h,rfl⟩ | ⟨rfl,rfl⟩
 ·exact h
 ·rw [UI]
  lia
theorem BF.step {ts:List Tri}{m m1 m2:Nat}{r a b:Int}(h:BF ts m)(hl:ts.length<m)(ha:Nxt m m1 a)(B:Nxt m1 m2 b):BF (ts++[(r,a,b)]) m2:=by
 have U:=ha.le;have Y:=B.le;have L:JD (ts++[(r,a,b)]) 2 (JA (ts.length+1))=JD ts 2 (JA ts.length)++[a,b]:=by
  rw [J6,JH,VT (Yad _)]
  congr 1
  unfold chT;rw [show ((ts.length:Int)+2-2).toNat=ts.length by lia,Ybt (Yad _),Ych]
  rfl
 have D:∀i,ts.length+1<=i->∃q,JD (ts++[(r,a,b)]) 2 (JA i)=JD ts 2 (JA ts.length)++[a,b]++q:=λi hi=>by
  obtain ⟨q,e⟩:=WB (ts:=ts++[(r,a,b)]) (root:=2) (ts.length+1) (i-(ts.length+1));rw [show ts.length+1+(i-(ts.length+1))=i by lia,L] at e;exact ⟨q,e⟩
 have O:∀i:Nat,New (JA i) ((i:Int)+2):=λi=>⟨by lia,by lia,by rw [XN];lia⟩;refine ⟨λi hi=>?_,λy j=>?_⟩
 ·by_cases h1:i<m
  ·exact Zde (h.ex i h1)
  ·obtain ⟨q,e⟩:=D i (by lia);by_cases h2:i<m1
   ·rcases ha with ⟨_,z⟩ | ⟨Z,z⟩
    ·lia
    ·have hi':i=m:=by lia
     subst hi';refine ⟨JD ts 2 (JA ts.length),b::q,by rw [e,Z,Ybg];rfl,O i,λy j=>h.old y j⟩
   ·rcases B with ⟨_,z⟩ | ⟨zb,z⟩
    ·lia
    ·have hi':i=m1:=by lia
     subst hi';refine ⟨JD ts 2 (JA ts.length)++[a],q,by rw [e,zb,Ybg,Ybg];rfl,O i,λy j=>?_⟩;rcases Yag.mp j with j | j
     ·exact Zab (h.old y j) U
     ·rw [Yai.mp j];exact ha.old
 ·rw [Yae,Yap,L] at j;rcases Yag.mp j with j | j
  ·exact Zab (h.old y j) (by lia)
  ·rcases Yau.mp j with rfl | j
   ·exact Zab ha.old Y
   ·rw [Yai.mp j];exact B.old
theorem BF.rch {ts:List Tri}{m:Nat}(h:BF ts m):∀i,i<=m->Rch ts 2 (JA i)
 | 0,_=>.nil
 | i+1,hi=>by
  rw [J6];exact .snoc (h.rch i (by lia)) (h.ex i (by lia))
theorem BF.fin {ts:List Tri}(h:BF ts ts.length):Rch ts 2 (JA ts.length)/\Fin ts 2 (JA ts.length):=⟨h.rch _ (Yad _),h.old⟩
theorem Zac {ts:List Tri}(T:TabOk ts):Said ts (JA ts.length) ts (JA ts.length).length:=by
 intro j x B ex;rw [XB] at B;rw [VG B] at ex;cases ex;have num:∀{c lo:Int},At ts c lo->J4 (JA ts.length) c=some c:=λ{c lo} h=>by
  rcases h with rfl | rfl | ⟨r,n,_⟩
  ·exact Wr _
  ·exact Xz _
  ·have O:=n.1;have D:=(Yaj.mp n.2).1;have e:=L2.numI_of (Vd ts.length) (show 1<c by lia) (i:=(c-2).toNat) (by rw [VG D];congr 1;lia);rw [e]
   congr 1
   lia
 have L:ts[j]?=some ts[j]:=Yaz B;obtain ⟨_,h1,h2⟩:=T j _ L;exact ⟨ts[j],_,_,⟨by lia,by rw [show ((j:Int)+2-2).toNat=j by lia];exact L⟩,num h1,num h2,L⟩
noncomputable abbrev Zax:Stmt:=(GM Zey).getD 0 (.Pass ⟨0,0,0,0⟩)
noncomputable def rdN (ks:List Tri)(n:Int):List Int:=if 1<n then (match ks[(n-2).toNat]? with | some q=>[q.1] | none=>[]) else []
noncomputable def mnJ:List Int->Int
 | []=>0
 | [x]=>x
 | x::y::_=>if x<=y then x else y
noncomputable def loP (ks:List Tri)(n r:Int):Int:=if rdN ks n=[r] then (match ks[(n-2).toNat]? with | some q=>q.2.1 | none=>n) else n
noncomputable def hiP (ks:List Tri)(n r:Int):Int:=if rdN ks n=[r] then (match ks[(n-2).toNat]? with | some q=>q.2.2 | none=>0) else 0
noncomputable def DomN (ks:List Tri)(n:Int):Prop:=n=0\/n=1\/∃r,Nd ks n r
noncomputable def Zdf (ks vs:List Tri)(k:List Int):Prop:=∃a b,k=[a,b]/\DomN ks a/\DomN vs b
noncomputable def pfJ (ks vs:List Tri)(ru:Bool->Bool->Bool)(k:List Int):Pt (List Int):=match k with
 | [a,b]=>if rdN ks a++rdN vs b=[] then .leaf (if ru (decide (a=1)) (decide (b=1))=true then 1 else 0) else .node (mnJ (rdN ks a++rdN vs b)) [loP ks a (mnJ (rdN ks a++rdN vs b)),loP vs b (mnJ (rdN ks a++rdN vs b))] [hiP ks a (mnJ (rdN ks a++rdN vs b)),hiP vs b (mnJ (rdN ks a++rdN vs b))]
 | _=>.leaf 0
section
variable {ks vs:List Tri}{n r:Int}{q:Tri}
theorem ON (h:n=0\/n=1):rdN ks n=[]:=by
 unfold rdN;rw [if_neg (by lia)]
theorem XO (h:Nd ks n q):rdN ks n=[q.1]:=by
 have:=h.1;unfold rdN;rw [if_pos (by lia),h.2]
theorem WC (h:Nd ks n q):loP ks n q.1=q.2.1:=by
 unfold loP;rw [XO h,if_pos rfl,h.2]
theorem WD (h:Nd ks n q):hiP ks n q.1=q.2.2:=by
 unfold hiP;rw [XO h,if_pos rfl,h.2]
theorem Vh (h:rdN ks n≠[r]):loP ks n r=n:=if_neg h
theorem XQ (h:rdN ks n≠[r]):hiP ks n r=0:=if_neg h
theorem DomN.rd (h:DomN ks n):(rdN ks n=[]/\(n=0\/n=1))\/∃q,rdN ks n=[q.1]/\Nd ks n q:=by
 rcases h with h | h | ⟨q,h⟩
 ·exact .inl ⟨ON (.inl h),.inl h⟩
 ·exact .inl ⟨ON (.inr h),.inr h⟩
 ·exact .inr ⟨q,XO h,h⟩
theorem Zgn {rs:List Int}{m:Int}(B:rs.length<=2)(j:m∈rs)(h:∀x∈rs,m<=x):m=mnJ rs:=by
 match rs,B,j,h with
 | [x],_,j,_=>exact Yai.mp j
 | [x,y],_,j,h=>
  have h1:=h x (by simp);have h2:=h y (by simp);show m=if x<=y then x else y
  rcases Yau.mp j with z | z
  ·rw [if_pos (by lia)];exact z
  ·rw [Yai.mp z] at h1 ⊢;by_cases q:x<=y
   ·rw [if_pos q];lia
   ·rw [if_neg q]
end
section
variable {P:Program}{w:World}{K:W.Frag}{mg:Str->Option Value}{base:Heap}
noncomputable def ZeT:Sp:=λvs H Q _=>∃(l:Addr)(n r:Int)(xs:List V)(ks:List Tri),vs=[.ref l,.int n,.int r]/\H l=some (.lst xs)/\Trs H xs ks/\DomN ks n/\∀(t:Addr)(H':Hp),Same H H'->H' t=some (.tup [.int (loP ks n r),.int (hiP ks n r)])->Q (.ref t) H'
theorem Zgo:Gs ["nodes", "number", "road"] ["nodes", "number", "road"] (Gh Zex):=⟨rfl,rfl,rfl,by decide +kernel,rfl,by decide +kernel,by decide +kernel⟩
theorem Zdg {H:Hp}{xs:List V}{ks:List Tri}{n:Int}{q:Tri}(t:Trs H xs ks)(h:Nd ks n q):∃p,atI xs (n-2)=some (.ref p)/\H p=some (.tup [.int q.1,.int q.2.1,.int q.2.2]):=by
 obtain ⟨p,e,j⟩:=t.at h.2;refine ⟨p,?_,j⟩;have h2:=h.1;have:n-2=(((n-2).toNat:Nat):Int):=by lia
 rw [this];exact Gm e
theorem ZeU {f:Addr}{fd:FuncData}(F:Fun K "parts_by" "parts_by" Zex f fd):FnOk P w K mg base CX0 1 f fd ["nodes", "number", "road"] ZeT:=by
 refine F.ok Zgo (λvs H Q E h=>?_) (λO A outer s H vs Q E hr h=>?_)
 ·obtain ⟨_,_,_,_,_,rfl,_⟩:=h
  rfl
 ·obtain ⟨l,n,r,xs,ks,rfl,D,U,Y,q⟩:=h;refine ⟨_,(@Ge _ _ _ _ _ (@Jl _ _ _ _ _ _ _ _ (PW.pt (V1 (Gr ZaC (pv 1) Gg (GA _)) (Vl (Gr Ox (@GD _ _ _ _ _ _ _ (U7 K) (@GD _ _ _ _ _ _ _ (On K) (pv 0) (@GE _ _ _ _ _ _ _ _ Ur (pv 1) Gg) (λ_ _=>rfl)) Gg (λ_ _=>rfl)) (pv 2) (GA _))))) (@Gj _ _ _ (@Gx _ _ _ _ (J8 (Zfx K) (@GD _ _ _ _ _ _ _ (On K) (pv 0) (@GE _ _ _ _ _ _ _ _ Ur (pv 1) Gg) (λ_ _=>rfl)) (OV Gg) OU))) GC)
    (@Gj _ _ _ (@Gx _ _ _ _ (@Je _ _ _ _ _ (@Ga _ _ _ _ _ (pv 1) (@Ga _ _ _ _ _ Gg Gc rfl) rfl))))),?_⟩
  have no:rdN ks n≠[r]->Q (.ref 0) H->True:=λ_ _=>trivial;have fin:rdN ks n≠[r]->∀p,H p=none->Q (.ref p) (upd H p (.tup [.int n,.int 0])):=λz p Z=>q p _ (Same.new Z) (by rw [Vh z,XQ z];exact Gb);refine ⟨_,rfl,_,_,rfl,rfl,_,rfl,?_⟩;rcases Y.rd with ⟨e,aa⟩ | ⟨k,e,B⟩
  ·rw [Ybx (by lia)];refine Oj ?_;dsimp only [JZ];exact ⟨_,rfl,JB,fin (by rw [e];simp)⟩
  ·obtain ⟨p,ep,L⟩:=Zdg U B;have h2:=B.1;rw [Ybm (by lia)];refine OW ⟨_,rfl,_,rfl,_,_,rfl,rfl,l,_,_,_,rfl,rfl,SqL.of D,ep,p,_,_,_,rfl,rfl,SqT.of L,Gm (j:=0) rfl,_,rfl,rfl,_,rfl,?_⟩;by_cases z:k.1=r
   ·rw [Ybm (by rw [z])];refine OW ⟨_,rfl,_,rfl,_,_,rfl,rfl,l,_,_,_,rfl,rfl,SqL.of D,ep,?_⟩;refine ⟨_,rfl,p,_,rfl,SqT.of L,?_,λt ht=>q t _ (Same.new ht) ?_⟩
    ·show ¬ (HT.sIx 3 0 (some 1)=0/\HT.sIx 3 3 none=3);decide
    ·subst z;rw [WC B,WD B];exact Gb
   ·rw [Ybx (λy=>z (V.int.inj y))];refine Oj ?_;dsimp only [JZ];exact ⟨_,rfl,JB,fin (by rw [e];simp [z])⟩
noncomputable def ZeV (ru:Bool->Bool->Bool):Sp:=λvs H Q _=>∃x y,vs=[.bl x,.bl y]/\Q (.bl (ru x y)) H
theorem Zhj:Gs ["first", "second"] ["first", "second"] (Gh sIB):=⟨rfl,rfl,rfl,by decide +kernel,rfl,by decide +kernel,by decide +kernel⟩
theorem Zhk:Gs ["first", "second"] ["first", "second"] (Gh sIE):=⟨rfl,rfl,rfl,by decide +kernel,rfl,by decide +kernel,by decide +kernel⟩
theorem Zhl:Gs ["first", "second"] ["first", "second"] (Gh sIF):=⟨rfl,rfl,rfl,by decide +kernel,rfl,by decide +kernel,by decide +kernel⟩
theorem Zgp {f:Addr}{fd:FuncData}(F:Fun K "in_both" "in_both" sIB f fd):FnOk P w K mg base CX0 1 f fd ["first", "second"] (ZeV (· && ·)):=by
 refine F.ok Zhj (λvs H Q E h=>?_) (λj A outer s H vs Q E B h=>?_)
 ·obtain ⟨_,_,rfl,_⟩:=h
  rfl
 ·obtain ⟨x,y,rfl,q⟩:=h;refine ⟨_,Gj (Gx (ZbI (pv 0) (YN (pv 1)))),?_⟩;refine ⟨_,rfl,_,rfl,?_⟩;cases x
  ·exact q
  ·exact ⟨_,rfl,q⟩
theorem Zgq {f:Addr}{fd:FuncData}(F:Fun K "in_either" "in_either" sIE f fd):FnOk P w K mg base CX0 1 f fd ["first", "second"] (ZeV (· || ·)):=by
 refine F.ok Zhk (λvs H Q E h=>?_) (λj A outer s H vs Q E B h=>?_)
 ·obtain ⟨_,_,rfl,_⟩:=h
  rfl
 ·obtain ⟨x,y,rfl,q⟩:=h;refine ⟨_,Gj (Gx (ZfL (pv 0) (YN (pv 1)))),?_⟩;refine ⟨_,rfl,_,rfl,?_⟩;cases x
  ·exact ⟨_,rfl,q⟩
  ·exact q
theorem Zgr {f:Addr}{fd:FuncData}(F:Fun K "in_first_alone" "in_first_alone" sIF f fd):FnOk P w K mg base CX0 1 f fd ["first", "second"] (ZeV λx y=>x && !y):=by
 refine F.ok Zhl (λvs H Q E h=>?_) (λj A outer s H vs Q E B h=>?_)
 ·obtain ⟨_,_,rfl,_⟩:=h
  rfl
 ·obtain ⟨x,y,rfl,q⟩:=h;refine ⟨_,Gj (Gx (ZbI (pv 0) (YN (ZdM (pv 1))))),?_⟩;refine ⟨_,rfl,_,rfl,?_⟩;cases x
  ·exact q
  ·exact ⟨_,rfl,_,rfl,q⟩
theorem scPrt:VS ["pair", "rule", "other", "one", "first", "second", "roads", "road", "low", "high", "other_low", "other_high"] ["pair"] ["rule", "other", "one"] (Gh Zax):=⟨rfl,rfl,rfl,by decide +kernel,rfl,by decide +kernel,by decide +kernel,by decide +kernel,by decide +kernel⟩
noncomputable abbrev Zdh:Str:=Str.ofString "joined_by.<locals>.parts"
noncomputable abbrev Zdi (clos:Um)(pm:Value)(c':Addr)(j B:Value):Obj:=W.fnMade "parts" Zdh (Ja Zax) (GM Zax) (Gh Zax) clos B pm c' j
structure HFp (H0:Hp)(f c':Addr)(clos:Um)(o:Obj)(fR t2 t1:Addr)(H:Hp):Prop where
 s:Same H0 H
 fn:CloFn H f c' Zdh o
 cs:CellsAt H clos [.ref fR,.ref t2,.ref t1]
theorem HFp.same {H0 H H':Hp}{f c':Addr}{clos:Um}{o:Obj}{j B D:Addr}(h:HFp H0 f c' clos o j B D H)(q:Same H H'):HFp H0 f c' clos o j B D H':=⟨h.s.trans q,h.fn.same q,h.cs.same q⟩
theorem Zad {H0 H:Hp}{clos:Um}(s:Same H0 H)(j:∀c∈clos.map (·.2),H0 c=none):Same H0 (hideC clos H):=λa u e=>by
 rw [GG (λz=>by rw [j a z] at e;cases e)];exact s a u e
theorem Zae {H H':Hp}{clos:Um}(s:Same (hideC clos H) H'):Same H (UE clos H H'):=λa u e=>by
 by_cases z:a∈clos.map (·.2)
 ·rw [W7 z];exact e
 ·rw [Js z];exact s a u (by rw [GG z];exact e)
theorem VU {H H':Hp}{clos:Um}{a:Addr}{u:HO}(j:∀c∈clos.map (·.2),H' c=none)(e:H' a=some u):UE clos H H' a=some u:=by
 rw [Js (λz=>by rw [j a z] at e;cases e)];exact e
noncomputable abbrev clJ (cr co cn:Addr):Um:=[(Str.ofString "rule", cr),(Str.ofString "other", co),(Str.ofString "one", cn)]
theorem ZeW {f c' fR t1 l1 t2 l2 cr co cn aa:Addr}{ac O:FuncData}{pm ad ae:Value}{H0:Hp}{ru:Bool->Bool->Bool}{a0 b0:Int}{xs ys:List V}{ks vs:List Tri}(ak:cr≠co/\cr≠cn/\co≠cn)(h0:∀c∈[cr,co,cn],H0 c=none)(am:TabAt H0 t1 l1 a0 xs ks)(an:TabAt H0 t2 l2 b0 ys vs)(kR:W.keepIn K (.ref fR)=true)(bR:Binds K ac ["first", "second"] [])(GR:FnOk P w K mg base CX0 1 fR ac ["first", "second"] (ZeV ru))(ab:Fun K "parts_by" "parts_by" Zex aa O)(af:Binds K O ["nodes", "number", "road"] [])(ag:mg "parts_by" = some (.ref aa))(ah:mg "min" = none) :
  FnOk P w K mg base CX0 2 f (W.fnX "parts" Zdh (Ja Zax) (GM Zax) (Gh Zax) (clJ cr co cn) .none .none ae pm none (.ref c') ad) ["pair"]
   (λus H Q E=>HFp H0 f c' (clJ cr co cn) (Zdi (clJ cr co cn) pm c' ad ae) fR t2 t1 H/\Zgk (gkI P w) (pfJ ks vs ru) (Zdf ks vs) us H Q E):=by
 have ai:FnOk P w K mg base CX0 1 aa O ["nodes", "number", "road"] ZeT:=ZeU ab;generalize hcl:clJ cr co cn=clos;have ao:∀c∈clos.map (·.2),H0 c=none:=by rw [<-hcl];exact h0
 refine Zeo (N:=["pair", "rule", "other", "one", "first", "second", "roads", "road", "low", "high", "other_low", "other_high"]) scPrt (by rw [<-hcl];rfl) (by rw [<-hcl];simp [clJ,ak]) (λus H Q E h=>?_) (λA outer s H us Q E hr h=>?_)
 ·obtain ⟨_,_,_,rfl,_⟩:=h
  rfl
 ·obtain ⟨hf,b,k,rfl,hb,⟨m,n,rfl,hm,hn⟩,q⟩:=h;refine ⟨hf.fn,_,hf.cs,_,(@Ge _ _ _ _ _ (@UU _ _ _ _ _ _ (pv 0) (ZdB K (n:=2) rfl (G0 (Go (i:=4) scPrt.nd rfl (Or.inl rfl)) (G0 (Go (i:=5) scPrt.nd rfl (Or.inl rfl)) OS))) rfl rfl rfl)
 (@Ge _ _ _ _ _ (@Gp _ _ 6 _ _ _ _ scPrt.nd rfl (Or.inl rfl) (Xg (Gr ZaC (pv 4) Gg (GA _)) (@Gy _ _ _ _ (@Ga _ _ _ _ _ (@GD _ _ _ _ _ _ _ (U7 K) (@GD _ _ _ _ _ _ _ (On K) (@GD _ _ _ _ _ _ _ (U7 K) (pv 3) Gg (λ_ _=>rfl)) (@GE _ _ _ _ _ _ _ _ Ur (pv 4) Gg) (λ_ _=>rfl)) Gg (λ_ _=>rfl)) Gc rfl)) (@Gy _ _ _ _ Gc)) rfl (by first | exact .inl rfl | exact .inr rfl))
 (@Ge _ _ _ _ _ (@Jl _ _ _ _ _ _ _ _ (Gr ZaC (pv 5) Gg (GA _)) (@Gj _ _ _ (Jc (Oq Yce Ycp Ycq GQ (pv 6) (@Ga _ _ _ _ _ (@GD _ _ _ _ _ _ _ (U7 K) (@GD _ _ _ _ _ _ _ (On K) (@GD _ _ _ _ _ _ _ (U7 K) (pv 2) Gg (λ_ _=>rfl)) (@GE _ _ _ _ _ _ _ _ Ur (pv 5) Gg) (λ_ _=>rfl)) Gg (λ_ _=>rfl)) Gc rfl)))) GC)
 (@Ge _ _ _ _ _ (@Jl _ _ _ _ _ _ _ _ (JY (Vo (pv 6) (λ_=>rfl))) (@Gj _ _ _ (@Gx _ _ _ _ (Xg (Ju (Zbk GR (hr.mono (by lia)) (pv 1) kR bR .nil Gv (@Ga _ _ _ _ _ (OT Ox (pv 4) Gg (GA _)) (@Ga _ _ _ _ _ (OT Ox (pv 5) Gg (GA _)) Gc rfl) rfl))) Gg Gg))) GC)
 (@Ge _ _ _ _ _ (@Gp _ _ 7 _ _ _ _ scPrt.nd rfl (Or.inl rfl) (Gu (ZgO K rfl) rfl ah Vv (@Ga _ _ _ _ _ (pv 6) Gc rfl)) rfl (by first | exact .inl rfl | exact .inr rfl))
 (@Ge _ _ _ _ _ (@UU _ _ _ _ _ _ (@Gk _ _ _ _ _ _ _ _ _ _ _ _ _ _ _ _ ai (hr.mono (by lia)) rfl ag ab.kp af .nil Gv (@Ga _ _ _ _ _ (@GD _ _ _ _ _ _ _ (U7 K) (pv 3) Gg (λ_ _=>rfl)) (@Ga _ _ _ _ _ (pv 4) (@Ga _ _ _ _ _ (pv 7) Gc rfl) rfl) rfl) (by decide) rfl rfl) (ZdB K (n:=2) rfl (G0 (Go (i:=8) scPrt.nd rfl (Or.inl rfl)) (G0 (Go (i:=9) scPrt.nd rfl (Or.inl rfl)) OS))) rfl rfl rfl)
 (@Ge _ _ _ _ _ (@UU _ _ _ _ _ _ (@Gk _ _ _ _ _ _ _ _ _ _ _ _ _ _ _ _ ai (hr.mono (by lia)) rfl ag ab.kp af .nil Gv (@Ga _ _ _ _ _ (@GD _ _ _ _ _ _ _ (U7 K) (pv 2) Gg (λ_ _=>rfl)) (@Ga _ _ _ _ _ (pv 5) (@Ga _ _ _ _ _ (pv 7) Gc rfl) rfl) rfl) (by decide) rfl rfl) (ZdB K (n:=2) rfl (G0 (Go (i:=10) scPrt.nd rfl (Or.inl rfl)) (G0 (Go (i:=11) scPrt.nd rfl (Or.inl rfl)) OS))) rfl rfl rfl)
 (@Gj _ _ _ (@Gx _ _ _ _ (@Je _ _ _ _ _ (@Ga _ _ _ _ _ (pv 7) (@Ga _ _ _ _ _ (@Je _ _ _ _ _ (@Ga _ _ _ _ _ (pv 8) (@Ga _ _ _ _ _ (pv 10) Gc rfl) rfl)) (@Ga _ _ _ _ _ (@Je _ _ _ _ _ (@Ga _ _ _ _ _ (pv 9) (@Ga _ _ _ _ _ (pv 11) Gc rfl) rfl)) Gc rfl) rfl) rfl))))))))))),?_⟩
  have ay:=Ybi.symm;have s0:Same H0 (hideC clos H):=Zad hf.s ao;have hb:H b=some (.tup [.int m,.int n]):=hb;have ap:b ∉ clos.map (·.2):=λz=>by
   obtain ⟨o,e⟩:=hf.cs.frz b z;rw [hb] at e;cases e
  have eb:hideC clos H b=some (.tup [.int m,.int n]):=by rw [GG ap];exact hb
  have T1:=am.same s0;have T2:=an.same s0;have sb:∀{H':Hp},Same (hideC clos H) H'->Same H (UE clos H H'):=λs'=>Zae s';generalize hideC clos H=Hh at s0 eb T1 T2 sb ⊢;refine ⟨_,rfl,b,_,rfl,SqT.of eb,rfl,_,_,rfl,_,_,rfl,rfl,?_⟩
  try dsimp only [GW]
  have B:∀{v:V}{H':Hp},Same Hh H'->(∀c∈clos.map (·.2),H' c=none)->PV (gkI P w) (UE clos H H') v (pfJ ks vs ru [m,n])->Q v (UE clos H H'):=λs' _ pv=>q _ _ (sb s') pv;refine Gw (λσ' H'=>∃L,σ'=[some (.ref b),some (.ref fR),some (.ref t2),some (.ref t1),some (.int m),some (.int n),some (.ref L),none,none,none,none,none]/\Same Hh H'/\Hh L=none/\H' L=some (.lst ((rdN ks m).map V.int))) ?a1 ?d1
  case d1=>
   intro hk;refine ⟨_,rfl,_,_,rfl,rfl,_,rfl,?_⟩;rcases hm.rd with ⟨e,aq⟩ | ⟨r,e,U⟩
   ·rw [Ybx (by lia)];refine Oj ⟨Yao _,λL D=>hk _ _ ⟨L,rfl,Same.new D,D,by rw [e];exact Gb⟩⟩
   ·obtain ⟨p,ep,er⟩:=Zdg T1.t U;have h2:=U.1;rw [Ybm (by lia)];refine OW ⟨_,rfl,t1,_,_,_,rfl,rfl,SqT.of T1.w,Gm (j:=1) rfl,_,rfl,_,_,rfl,rfl,l1,_,_,_,rfl,rfl,SqL.of T1.l,ep,p,_,_,_,rfl,rfl,SqT.of er,Gm (j:=0) rfl,Ycr (by show 1<sizeLine;lia),λL D=>hk _ _ ⟨L,rfl,Same.new D,D,by rw [e];exact Gb⟩⟩
  rintro σ' H1 ⟨L,rfl,s1,D,e1⟩;refine Gw (λσ' H'=>σ'=[some (.ref b),some (.ref fR),some (.ref t2),some (.ref t1),some (.int m),some (.int n),some (.ref L),none,none,none,none,none]/\Same Hh H'/\H' L=some (.lst ((rdN ks m++rdN vs n).map V.int))) ?a2 ?d2
  case d2=>
   intro hk;refine ⟨_,rfl,_,_,rfl,rfl,_,rfl,?_⟩;rcases hn.rd with ⟨e,aq⟩ | ⟨r,e,U⟩
   ·rw [Ybx (by lia)];refine Oj (hk _ _ ⟨rfl,s1,by rw [e,Ybv];exact e1⟩)
   ·obtain ⟨p,ep,er⟩:=Zdg (T2.t.same s1) U;have h2:=U.1;rw [Ybm (by lia)];have hl:((rdN ks m).map V.int).length<sizeLine:=by
     rw [Yab];rcases hm.rd with ⟨e',_⟩ | ⟨r',e',_⟩ <;> (rw [e'];show _<sizeLine;simp;lia)
    refine OW ⟨_,rfl,.inl ⟨rfl,_,SqL.of e1⟩,_,rfl,t2,_,_,_,rfl,rfl,SqT.of (s1 _ _ T2.w),Gm (j:=1) rfl,_,rfl,_,_,rfl,rfl,l2,_,_,_,rfl,rfl,SqL.of (s1 _ _ T2.l),ep,p,_,_,_,rfl,rfl,SqT.of er,Gm (j:=0) rfl,L,_,_,rfl,rfl,e1,hl,hk _ _ ⟨rfl,s1.put D,by rw [e,Yak];exact Gb⟩⟩
  rintro σ' H2 ⟨rfl,s2,e2⟩;have ar:(rdN ks m++rdN vs n).length<=2:=by
   rw [Yae];rcases hm.rd with ⟨e',_⟩ | ⟨r',e',_⟩ <;> rcases hn.rd with ⟨aj,_⟩ | ⟨az,aj,_⟩ <;> rw [e',aj] <;> simp
  refine ⟨_,rfl,_,.inl ⟨_,SqL.of e2,rfl⟩,?_⟩;by_cases z:rdN ks m++rdN vs n=[]
  ·have ep:pfJ ks vs ru [m,n]=.leaf (if ru (decide (m=1)) (decide (n=1))=true then 1 else 0):=if_pos z;rw [z];refine OW ?_;refine ⟨rfl,_,rfl,rfl,_,rfl,rfl,_,_,rfl,_,rfl,?_⟩;have e1:decide (V.int m=V.int 1)=decide (m=1):=by simp
   have e2:decide (V.int n=V.int 1)=decide (n=1):=by simp
   rw [e1,e2];cases hg:ru (decide (m=1)) (decide (n=1)) with
   | true=>
    rw [ep,hg] at B;exact OW λZ=>B s2 Z rfl
   | false=>
    rw [ep,hg] at B;exact Oj λZ=>B s2 Z rfl
  ·have ep:pfJ ks vs ru [m,n]=_:=if_neg z;rw [ep] at B;have e0:((rdN ks m++rdN vs n).map V.int).isEmpty=false:=by
    cases h:rdN ks m++rdN vs n with
    | nil=>exact absurd h z
    | cons x xs=>rfl
   rw [e0];refine Oj ?_;dsimp only [JZ];refine ⟨_,rfl,L,_,rfl,SqL.of e2,z,λmo as au=>?_⟩;have em:=Zgn ar as au;rw [<-em] at B;clear em;refine ⟨_,rfl,t1,_,_,_,rfl,rfl,SqT.of (s2 _ _ T1.w),Gm (j:=1) rfl,_,rfl,_,rfl,l1,m,mo,xs,ks,rfl,s2 _ _ T1.l,T1.t.same s2,hm,λp1 H3 s3 e3=>?_⟩;refine ⟨p1,_,rfl,SqT.of e3,rfl,_,_,rfl,_,_,rfl,rfl,?_⟩
   try dsimp only [GW]
   have Y:=s2.trans s3;refine ⟨_,rfl,t2,_,_,_,rfl,rfl,SqT.of (Y _ _ T2.w),Gm (j:=1) rfl,_,rfl,_,rfl,l2,n,mo,ys,vs,rfl,Y _ _ T2.l,T2.t.same Y,hn,λp2 H4 s4 e4=>?_⟩;refine ⟨p2,_,rfl,SqT.of e4,rfl,_,_,rfl,_,_,rfl,rfl,?_⟩
   try dsimp only [GW]
   refine ⟨_,rfl,_,rfl,_,rfl,JB,λq1 av=>?_⟩;obtain ⟨H5,q_,s5,e5⟩:=nwU (o:=.tup [.int (loP ks m mo),.int (loP vs n mo)]) av;rw [q_];refine ⟨_,rfl,_,rfl,JB,λq2 aw=>?_⟩;obtain ⟨H6,q_,s6,e6⟩:=nwU (o:=.tup [.int (hiP ks m mo),.int (hiP vs n mo)]) aw;rw [q_];refine ⟨by show 3<=sizeLine;lia,λq3 ax=>λZ=>?_⟩;have s7:Same H6 (upd H6 q3 (.tup [.int mo,.ref q1,.ref q2])):=Same.new ax;exact B (((Y.trans s4).trans s5).trans (s6.trans s7)) Z ⟨q3,q1,q2,rfl,VU Z Gb,VU Z (s7 _ _ (s6 _ _ e5)),VU Z (s7 _ _ e6)⟩
structure LtI where
 f:Addr
 fd:FuncData
 pf:List Int->Pt (List Int)
 Dom:List Int->Prop
 HF:Hp->Prop
structure CLt (P:Program)(w:World)(K:W.Frag)(mg:Str->Option Value)(base:Heap)(kp:Nat)(i:LtI):Prop where
 st:∀{H H':Hp},i.HF H->Same H H'->i.HF H'
 fin:∀{H:Hp},i.HF H->FnIn H i.f
 bi:Binds K i.fd ["pair"] []
 ok:FnOk P w K mg base CX0 kp i.f i.fd ["pair"] (λvs H Q E=>i.HF H/\Zgk (gkI P w) i.pf i.Dom vs H Q E)
 dom:∀s k,Rc i.pf s k->i.Dom s->i.Dom k
noncomputable def ZeX (P:Program)(w:World)(K:W.Frag)(mg:Str->Option Value)(base:Heap)(j:Nat)(B tb:Addr):Sp:=λvs H Q E=>∃i,CLt P w K mg base j i/\Zc9 (gkI P w) i.pf i.Dom i.HF i.f B tb vs H Q E
noncomputable def SameL2 (a b:Addr)(H H':Hp):Prop:=∀c o,c≠a->c≠b->H c=some o->H' c=some o
theorem ZeY {outer:List Env}{H:Hp}{s:Shared}{j:Value}{s':Shared}(h:CXr P w outer H s E0 j s'):False:=by
 obtain ⟨_,_,_,_,_,z⟩:=h;exact z
theorem Jn (ks:List Tri)(n:Int):rdN ks n=[]\/∃q,rdN ks n=[q.1]/\Nd ks n q:=by
 unfold rdN;by_cases h:1<n
 ·rw [if_pos h];cases e:ks[(n-2).toNat]? with
  | none=>exact .inl rfl
  | some q=>exact .inr ⟨q,rfl,by lia,e⟩
 ·rw [if_neg h];exact .inl rfl
theorem Ub {ks:List Tri}{c lo:Int}(h:At ks c lo):DomN ks c:=h.imp id (Or.imp id λ⟨r,e,_⟩=>⟨r,e⟩)
theorem Zb3 {ks:List Tri}(T:TabOk ks){n:Int}(h:DomN ks n)(r:Int):DomN ks (loP ks n r):=by
 by_cases z:rdN ks n=[r]
 ·rcases Jn ks n with e | ⟨q,e,j⟩
  ·rw [e] at z;cases z
  ·rw [e] at z;injection z with z _
   subst z;rw [WC j];exact Ub (T.nd j).2.1
 ·rw [Vh z];exact h
theorem Zb4 {ks:List Tri}(T:TabOk ks){n:Int}(r:Int):DomN ks (hiP ks n r):=by
 by_cases z:rdN ks n=[r]
 ·rcases Jn ks n with e | ⟨q,e,j⟩
  ·rw [e] at z;cases z
  ·rw [e] at z;injection z with z _
   subst z;rw [WD j];exact Ub (T.nd j).2.2
 ·rw [XQ z];exact .inl rfl
theorem JS {ks vs:List Tri}{ru:Bool->Bool->Bool}{k a b:List Int}{r:Int}(e:pfJ ks vs ru k=.node r a b):∃m n,k=[m,n]/\rdN ks m++rdN vs n≠[]/\r=mnJ (rdN ks m++rdN vs n)/\a=[loP ks m r,loP vs n r]/\b=[hiP ks m r,hiP vs n r]:=by
 unfold pfJ at e;split at e
 ·rename_i m n;by_cases z:rdN ks m++rdN vs n=[]
  ·rw [if_pos z] at e;cases e
  ·rw [if_neg z] at e;cases e;exact ⟨m,n,rfl,z,rfl,rfl,rfl⟩
 ·cases e
theorem VW {ks vs:List Tri}{ru:Bool->Bool->Bool}(T:TabOk ks)(j:TabOk vs):∀s k,Rc (pfJ ks vs ru) s k->Zdf ks vs s->Zdf ks vs k:=by
 intro s k h B
 induction h with
 | start=>exact B
 | lo _ e ih=>
  obtain ⟨m,n,rfl,_,_,rfl,_⟩:=JS e;obtain ⟨L,O,D,h1,h2⟩:=ih;cases D;exact ⟨_,_,rfl,Zb3 T h1 _,Zb3 j h2 _⟩
 | hi _ e ih=>
  obtain ⟨m,n,rfl,_,_,_,rfl⟩:=JS e;exact ⟨_,_,rfl,Zb4 T _,Zb4 j _⟩
structure Zaf (ks vs:List Tri)(ru:Bool->Bool->Bool)(a0 b0 M:Int)(Un:List (List Int)):Prop where
 t1:TabOk ks
 t2:TabOk vs
 d:Zdf ks vs [a0,b0]
 u:∃U:List (List Int),(∀k,Rc (pfJ ks vs ru) [a0,b0] k->k∈U)/\U.length<=10000
 un:∀k,Rc (pfJ ks vs ru) [a0,b0] k->Uo (pfJ ks vs ru k)=true->k∈Un
 m:0<=M/\M<=900
 um:(Un.length:Int)<=M
 pf:Zb2 (pfJ ks vs ru) [a0,b0]
 ab:Abv (pfJ ks vs ru) [a0,b0] (-1)
noncomputable def Zgs (tbJ:Addr)(H:Hp):Prop:=∃es,TabOn tbJ es H/\(es=[]\/∃c,es=[⟨76,4,Zdh,c⟩])
noncomputable def Zb5 (tbL tbJ B D:Addr)(ru:Bool->Bool->Bool)(M:Int)(H:Hp)(Q:VK):Prop:=∃(L O:Addr)(a0 b0:Int)(xs ys:List V)(ks vs:List Tri)(Un:List (List Int)),TabAt H B L a0 xs ks/\TabAt H D O b0 ys vs/\Zaf ks vs ru a0 b0 M Un/\LD tbL H/\tbL≠tbJ/\Zgs tbJ H /\
 ∀(p j:Addr)(c0 root:Int)(zs:List V)(us ts:List Tri)(fs:List Int)(H':Hp),SameL2 tbL tbJ H H'->LD tbL H'->Zgs tbJ H'->H p=none->H j=none->TabAt H' p j c0 zs us->LeT (pfJ ks vs ru) [a0,b0] c0 us ts root fs->ts.length<=Un.length->Q (.ref p) H'
noncomputable def ZeZ (P:Program)(w:World)(K:W.Frag)(mg:Str->Option Value)(base:Heap)(tbL tbJ:Addr):Sp:=λus H Q _=>∃(B D j:Addr)(fdR:FuncData)(ru:Bool->Bool->Bool)(M:Int),us=[.ref B,.ref D,.ref j,.int M] /\
 W.keepIn K (.ref j)=true/\Binds K fdR ["first", "second"] []/\FnOk P w K mg base CX0 1 j fdR ["first", "second"] (ZeV ru)/\Zb5 tbL tbJ B D ru M H Q
theorem scJoi:Gs ["one", "other", "rule", "most", "parts"] ["one", "other", "rule", "most"] (Gh Zey):=⟨rfl,rfl,rfl,by decide +kernel,rfl,by decide +kernel,by decide +kernel⟩
noncomputable abbrev clS (L:Addr):Um:=clJ (L+3) (L+2) (L+1)
theorem Ze0 {f cS ae ai TM tbL tbJ:Addr}{fd O aa:FuncData}(F:Fun K "joined_by" "joined_by" Zey f fd)(hc:fd.code=.ref cS)(hC:PySem.W.CodeHd base cS tbJ)(ar:base.BuiltinsAt mg tbJ)(as:Fun K "least_table" "least_table" Zew ae O)(au:Binds K O ["start", "parts", "most"] [])(av:mg "least_table" = some (.ref ae))(aw:FnOk P w K mg base (CXr P w) 5 ae O ["start", "parts", "most"] (ZeX P w K mg base 2 TM tbL))(ax:Fun K "parts_by" "parts_by" Zex ai aa)(ay:Binds K aa ["nodes", "number", "road"] [])(az:mg "parts_by" = some (.ref ai))(aj:mg "min" = none) :
  FnOk P w K mg base CX0 6 f fd ["one", "other", "rule", "most"] (ZeZ P w K mg base tbL tbJ):=by
 refine Fun.okC F hc scJoi (λvs H Q E h=>?_) (λA outer s H vs Q E hr h=>?_)
 ·obtain ⟨_,_,_,_,_,_,rfl,_⟩:=h
  rfl
 ·obtain ⟨t1,t2,fR,aD,ru,M,rfl,kR,bR,GR,l1,l2,a0,b0,xs,ys,ks,vs,Un,T,T',JO,ld,af,⟨es,on,a1⟩,q⟩:=h;have aE:=Ybi.symm;refine ⟨_,Ge (Zep (i:=4) (qual:=Zdh) (params:=Ja Zax) (body:=GM Zax) (scope:=Gh Zax) (clos:=clS s.heap.objs.size) scJoi.nd rfl (Or.inl rfl) rfl rfl hC ar rfl)
   (Gj (Gx (Zbm (cl:=clS s.heap.objs.size) (is:=[2,1,0]) (.cons ⟨rfl,rfl,rfl,rfl⟩ (.cons ⟨rfl,rfl,rfl,rfl⟩ (.cons ⟨rfl,rfl,rfl,rfl⟩ .nil))) aw hr rfl av as.kp au .nil ZeY (Ga (Je (Ga (GD (U7 K) (pv 0) Gg (λ_ _=>rfl)) (Ga (GD (U7 K) (pv 1) Gg (λ_ _=>rfl)) Gc))) (Ga (pv 4) (Ga (pv 3) Gc)))))),?_⟩
  have ak:=on.1;obtain ⟨aF,eL⟩:=ld.tbl;have nT:∀{a:Addr}{o:HO},H a=some o->(∀ps,o≠.tbl ps)->a≠tbJ:=λ{a o} e n z=>by rw [z,ak] at e;cases e;exact n _ rfl
  have ac:∀{H1:Hp}{t l:Addr}{a:Int}{zs:List V}{us:List Tri},SameL tbJ H H1->TabAt H t l a zs us->TabAt H1 t l a zs us:=λ{H1 t l a zs us} L T=>⟨L _ _ (nT T.w λ_ z=>by cases z) T.w,L _ _ (nT T.l λ_ z=>by cases z) T.l,T.t.keep λp ys e=>L _ _ (nT e λ_ z=>by cases z) e⟩;have a2:∀{H1:Hp},SameL tbJ H H1->LD tbL H1:=λ{H1} L=>by
   rcases ld with e | ⟨c,e,oc,e2,co⟩
   ·exact .inl (L _ _ af e)
   ·exact .inr ⟨c,L _ _ af e,oc,L _ _ (nT e2 λ_ z=>by cases z) e2,co⟩
  refine Gw (λσ' H'=>∃(fP c':Addr)(B D:Value),σ'=[some (.ref t1),some (.ref t2),some (.ref fR),some (.int M),some (.ref fP)]/\SameL tbJ H H'/\TabOn tbJ [⟨76,4,Zdh,c'⟩] H'/\H fP=none/\CloFn H' fP c' Zdh (Zdi (clS s.heap.objs.size) ((mg "__name__").getD .none) c' B D)) ?aft ?dfn
  case dfn=>
   intro hk;rcases a1 with rfl | ⟨c,rfl⟩
   ·exact ⟨[],on,.inl ⟨rfl,λfP c' B D H' sl a3 nf cf=>hk _ _ ⟨fP,c',B,D,rfl,sl,a3,nf,cf⟩⟩⟩
   ·exact ⟨_,on,.inr ⟨_,Yai.mpr rfl,by simp [Zau,codeAmong,rawInt],rfl,λfP B D H' sm nf cf=>hk _ _ ⟨fP,c,B,D,rfl,SameL.of sm,on.same sm,nf,cf⟩⟩⟩
  rintro σ' H1 ⟨fP,c',B,D,rfl,L,ag,nf,cf⟩;have T1:=ac L T;have am:=ac L T';have a4:=a2 L;refine ⟨_,rfl,t1,_,_,_,rfl,rfl,SqT.of T1.w,Gm (j:=0) rfl,_,rfl,t2,_,_,_,rfl,rfl,SqT.of am.w,Gm (j:=0) rfl,JB,λb hb=>?_⟩;obtain ⟨H2,q_,Y,e2⟩:=nwU (o:=.tup [.int a0,.int b0]) hb;rw [q_];refine ⟨_,rfl,_,rfl,[.ref fR,.ref t2,.ref t1],.cons rfl (.cons rfl (.cons rfl .nil)),λH3 an hN ao=>?_⟩;have s3:Same H2 H3:=λa u e=>by rw [an a (λz=>by rw [hN a z] at e;cases e)];exact e
  have S2:=L.trans (SameL.of Y);refine ⟨⟨fP,_,pfJ ks vs ru,Zdf ks vs,HFp H2 fP c' (clS s.heap.objs.size) (Zdi (clS s.heap.objs.size) ((mg "__name__").getD .none) c' B D) fR t2 t1⟩,
   ⟨λh q=>h.same q,λh=>h.fn.fin rfl,Binds.all (λus hl=>by obtain ⟨_,rfl⟩:=Zdy hl;rfl),ZeW (cr:=s.heap.objs.size+3) (co:=s.heap.objs.size+2) (cn:=s.heap.objs.size+1) (H0:=H2) ⟨λz=>by have z:(s.heap.objs.size+3:Nat)=s.heap.objs.size+2:=z;lia,λz=>by have z:(s.heap.objs.size+3:Nat)=s.heap.objs.size+1:=z;lia,λz=>by have z:(s.heap.objs.size+2:Nat)=s.heap.objs.size+1:=z;lia⟩ hN (T1.same Y) (am.same Y) kR bR GR ax ay az aj,VW JO.t1 JO.t2⟩,?_⟩
  have ap:LD tbL H3:=a4.same (Y.trans s3);obtain ⟨U,hU,a5⟩:=JO.u;refine ⟨b,[a0,b0],U,Un,M,rfl,⟨s3,cf.same (Y.trans s3),ao⟩,s3 _ _ e2,JO.d,hU,JO.un,a5,JO.m,JO.pf,JO.ab,ap,λp l' c0 root zs us ts fs H4 sl a6 hp a7 W LT aq _=>?_,λts H4 _ _ _ a8 aq=>absurd a8 (by have:=JO.um;lia)⟩;obtain ⟨aC,a9⟩:=ap.tbl;have nL:∀{a:Addr}{o:HO},H3 a=some o->(∀ps,o≠.tbl ps)->a≠tbL:=λ{a o} e n z=>by rw [z,a9] at e;cases e;exact n _ rfl
  have ah:∀a∈(clS s.heap.objs.size).map (·.2),∃o u,H4 a=some (.frz o (.own a))/\o.data=.cell (some u):=λa ha=>by
   obtain ⟨qq,hq,rfl⟩:=Yam.mp ha;obtain ⟨i,hi⟩:=List.getElem?_of_mem hq;obtain ⟨v,_,o,u,e,Z,_⟩:=OK ao hi;exact ⟨o,u,sl _ _ (nL e λ_ z=>by cases z) e,Z⟩
  have keep:∀{a:Addr}{o:HO},H4 a=some o->(∀ob,o=.frz ob (.own a)->∀u,ob.data≠.cell u)->hideC (clS s.heap.objs.size) H4 a=some o:=λ{a o} e n=>by
   rw [GG (λz=>?_)]
   ·exact e
   ·obtain ⟨o',u,e',Z⟩:=ah a z;rw [e] at e';cases e';exact n _ rfl _ Z
  have old:∀{a:Addr}{o:HO},a≠tbL->H2 a=some o->hideC (clS s.heap.objs.size) H4 a=some o:=λ{a o} n e=>by
   rw [GG (λz=>by rw [hN a z] at e;cases e)];exact sl a o n (s3 _ _ e)
  have ad:∀p ys,H4 p=some (.tup ys)->hideC (clS s.heap.objs.size) H4 p=some (.tup ys):=λp ys e=>keep e λob z=>by cases z
  have free:∀{a:Addr},H3 a=none->H a=none:=λ{a} e=>by
   cases y:H a with
   | none=>rfl
   | some u=>
    by_cases z:a=tbJ
    ·have:=s3 _ _ (Y _ _ ag.1);rw [z,this] at e;cases e
    ·rw [s3 _ _ (Y _ _ (L a u z y))] at e;cases e
  obtain ⟨aA,eP,aB⟩:=ag.2 _ (Yai.mpr rfl);refine q p l' c0 root zs us ts fs _ (λa o n1 n2 e=>old n1 (Y _ _ (L a o n2 e))) ?_ ⟨_,⟨old (Ne.symm af) (Y _ _ ag.1),λy hy=>?_⟩,.inr ⟨c',rfl⟩⟩ (free hp) (free a7) ⟨ad _ _ W.w,keep W.l (λob z=>by cases z),W.t.keep ad⟩ LT aq
  ·rcases a6 with e | ⟨c,e,oc,e2,co⟩
   ·exact .inl (keep e λob z=>by cases z)
   ·refine .inr ⟨c,keep e (λob z=>by cases z),oc,keep e2 (λob z u hu=>?_),co⟩;cases z;obtain ⟨vs,tq,Z,_⟩:=co;rw [Z] at hu;cases hu
  ·rw [Yai.mp hy];exact ⟨aA,old (nL (s3 _ _ (Y _ _ eP)) λ_ z=>by cases z) (Y _ _ eP),aB⟩
noncomputable def Zay (tbL tbJ:Addr)(ru:Bool->Bool->Bool):Sp:=λus H Q _=>∃(j B:Addr),us=[.ref j,.ref B]/\Zb5 tbL tbJ j B ru 800 H Q
theorem Zhm:Gs ["one", "other"] ["one", "other"] (Gh sBo):=⟨rfl,rfl,rfl,by decide +kernel,rfl,by decide +kernel,by decide +kernel⟩
theorem Zhn:Gs ["one", "other"] ["one", "other"] (Gh sEo):=⟨rfl,rfl,rfl,by decide +kernel,rfl,by decide +kernel,by decide +kernel⟩
theorem Zho:Gs ["one", "other"] ["one", "other"] (Gh sFw):=⟨rfl,rfl,rfl,by decide +kernel,rfl,by decide +kernel,by decide +kernel⟩
section
variable {f fJo fIB fIE fIF tbL tbJ:Addr}{fd fdJo fdIB fdIE fdIF:FuncData}{tM:Tok}(mMN:mg "MOST_NODES" = some (.int 800 tM))
  (FJo:Fun K "joined_by" "joined_by" Zey fJo fdJo) (bJo:Binds K fdJo ["one", "other", "rule", "most"] []) (mJo:mg "joined_by" = some (.ref fJo)) (GJo:FnOk P w K mg base CX0 6 fJo fdJo ["one", "other", "rule", "most"] (ZeZ P w K mg base tbL tbJ))
include mMN FJo bJo mJo GJo
theorem Zgt (F:Fun K "both_of" "both_of" sBo f fd)(j:Fun K "in_both" "in_both" sIB fIB fdIB)(B:Binds K fdIB ["first", "second"] [])(D:mg "in_both" = some (.ref fIB)):FnOk P w K mg base CX0 7 f fd ["one", "other"] (Zay tbL tbJ (· && ·)):=by
 refine F.ok Zhm (λvs H Q E h=>?_) (λL A outer s H vs Q E O h=>?_)
 ·obtain ⟨_,_,rfl,_⟩:=h
  rfl
 ·obtain ⟨U,Y,rfl,q⟩:=h;refine ⟨_,Gj (Gx (Gk GJo (O.mono (by decide)) rfl mJo FJo.kp bJo .nil Gv (Ga (pv 0) (Ga (pv 1) (Ga (JK (v:=.ref fIB) rfl D rfl) (Ga (JK (v:=.int 800) rfl mMN ⟨_,rfl⟩) Gc)))))),?_⟩;exact ⟨_,rfl,_,rfl,U,Y,fIB,fdIB,_,800,rfl,j.kp,B,Zgp j,q⟩
theorem Zgu (F:Fun K "either_of" "either_of" sEo f fd)(j:Fun K "in_either" "in_either" sIE fIE fdIE)(B:Binds K fdIE ["first", "second"] [])(D:mg "in_either" = some (.ref fIE)):FnOk P w K mg base CX0 7 f fd ["one", "other"] (Zay tbL tbJ (· || ·)):=by
 refine F.ok Zhn (λvs H Q E h=>?_) (λL A outer s H vs Q E O h=>?_)
 ·obtain ⟨_,_,rfl,_⟩:=h
  rfl
 ·obtain ⟨U,Y,rfl,q⟩:=h;refine ⟨_,Gj (Gx (Gk GJo (O.mono (by decide)) rfl mJo FJo.kp bJo .nil Gv (Ga (pv 0) (Ga (pv 1) (Ga (JK (v:=.ref fIE) rfl D rfl) (Ga (JK (v:=.int 800) rfl mMN ⟨_,rfl⟩) Gc)))))),?_⟩;exact ⟨_,rfl,_,rfl,U,Y,fIE,fdIE,_,800,rfl,j.kp,B,Zgq j,q⟩
theorem Zgv (F:Fun K "first_without" "first_without" sFw f fd)(j:Fun K "in_first_alone" "in_first_alone" sIF fIF fdIF)(B:Binds K fdIF ["first", "second"] [])(D:mg "in_first_alone" = some (.ref fIF)):FnOk P w K mg base CX0 7 f fd ["one", "other"] (Zay tbL tbJ λx y=>x && !y):=by
 refine F.ok Zho (λvs H Q E h=>?_) (λL A outer s H vs Q E O h=>?_)
 ·obtain ⟨_,_,rfl,_⟩:=h
  rfl
 ·obtain ⟨U,Y,rfl,q⟩:=h;refine ⟨_,Gj (Gx (Gk GJo (O.mono (by decide)) rfl mJo FJo.kp bJo .nil Gv (Ga (pv 0) (Ga (pv 1) (Ga (JK (v:=.ref fIF) rfl D rfl) (Ga (JK (v:=.int 800) rfl mMN ⟨_,rfl⟩) Gc)))))),?_⟩;exact ⟨_,rfl,_,rfl,U,Y,fIF,fdIF,_,800,rfl,j.kp,B,Zgr j,q⟩
end
end
noncomputable abbrev Fml:=List (List Int)
noncomputable def JJ (r:Int)(F:Fml):Fml:=F.filter λs=>decide (s.head?≠some r)
noncomputable def GB (r:Int)(F:Fml):Fml:=(F.filter λs=>decide (s.head?=some r)).map List.tail
noncomputable def wt (F:Fml):Nat:=(F.map List.length).sum
theorem JT (r:Int):∀F:Fml,wt (JJ r F)+wt (GB r F)+(GB r F).length=wt F
 | []=>rfl
 | s::F=>by
  have ih:=JT r F;unfold wt JJ GB at ih ⊢;cases s with
  | nil=>simpa using ih
  | cons x s=>
   by_cases h:x=r
   ·subst h;simp at ih ⊢
    lia
   ·simp [h] at ih ⊢
    lia
structure FamOk (F:Fml):Prop where
 nd:F.Nodup
 up:∀s∈F,s.Pairwise (· < ·)
 rg:∀s∈F,∀x∈s,0<=x/\x<30
theorem mem_high {r:Int}{F:Fml}{s:List Int}:s∈GB r F↔(r::s)∈F:=by
 unfold GB;rw [Yam];constructor
 ·rintro ⟨u,j,rfl⟩;obtain ⟨h1,h2⟩:=Yby.mp j;cases u with
  | nil=>simp at h2
  | cons x u=>simp at h2;subst h2;exact h1
 ·intro h;exact ⟨r::s,Yby.mpr ⟨h,by simp⟩,rfl⟩
theorem mem_low {r:Int}{F:Fml}{s:List Int}:s∈JJ r F↔(s∈F/\s.head?≠some r):=by
 unfold JJ;rw [Yby];simp
theorem FamOk.low {F:Fml}(h:FamOk F)(r:Int):FamOk (JJ r F):=⟨h.nd.filter _,λs j=>h.up s (mem_low.mp j).1,λs j=>h.rg s (mem_low.mp j).1⟩
theorem Vi (r:Int):∀F:Fml,F.Nodup->(GB r F).Nodup
 | [],_=>Ydm
 | s::F,h=>by
  obtain ⟨h1,h2⟩:=List.nodup_cons.mp h;have j:=Vi r F h2;cases s with
  | nil=>simpa [GB] using j
  | cons x s=>
   by_cases e:x=r
   ·subst e;have:GB x ((x::s)::F)=s::GB x F:=by simp [GB]
    rw [this];exact List.nodup_cons.mpr ⟨λz=>h1 (mem_high.mp z),j⟩
   ·have:GB r ((x::s)::F)=GB r F:=by simp [GB,e]
    rw [this];exact j
theorem FamOk.high {F:Fml}(h:FamOk F)(r:Int):FamOk (GB r F):=⟨Vi r F h.nd,λs j=>(Ycz.mp (h.up _ (mem_high.mp j))).2,λs j x B=>h.rg _ (mem_high.mp j) x (Ybf _ B)⟩
noncomputable def Inner (F:Fml):Prop:=F≠[]/\F≠[[]]
theorem Inner.ex {F:Fml}(h:Inner F)(nd:F.Nodup):∃x s,(x::s)∈F:=by
 cases F with
 | nil=>exact absurd rfl h.1
 | cons s F=>
  cases s with
  | cons x s=>exact ⟨x,s,Yaw ..⟩
  | nil=>
   cases F with
   | nil=>exact absurd rfl h.2
   | cons u F=>
    cases u with
    | nil=>simp at nd
    | cons x u=>exact ⟨x,u,by simp⟩
theorem Ze1 {F:Fml}(h:Inner F)(nd:F.Nodup):1<=wt F:=by
 obtain ⟨x,s,j⟩:=h.ex nd;have:=JT x F;have h1:0<(GB x F).length:=List.length_pos_iff.mpr (List.ne_nil_of_mem (mem_high.mpr j))
 lia
noncomputable def Zbz (r:Int)(F:Fml):Prop:=(∃s,(r::s)∈F)/\∀x s,(x::s)∈F->r<=x
noncomputable def Num (R:List Fml)(G:Fml)(c:Int):Prop:=(G=[]/\c=0)\/(G=[[]]/\c=1)\/∃i:Nat,R[i]?=some G/\c=(i:Int)+2
theorem Num.app {R:List Fml}{G:Fml}{c:Int}(h:Num R G c)(S:List Fml):Num (R++S) G c:=by
 rcases h with h | h | ⟨i,h,e⟩
 ·exact .inl h
 ·exact .inr (.inl h)
 ·exact .inr (.inr ⟨i,by rw [Ybl (Yaj.mp h).1];exact h,e⟩)
noncomputable def WE (R:List Fml)(F:Fml)(r:Tri):Prop:=Zbz r.1 F/\Num R (JJ r.1 F) r.2.1/\Num R (GB r.1 F) r.2.2
structure Rw (F0:Fml)(R:List Fml)(ts:List Tri)(W:Nat):Prop where
 ok:∀F∈R,FamOk F/\Inner F
 nd:∀(i:Nat)(r:Tri),ts[i]?=some r->∃F,R[i]?=some F/\WE R F r
 ln:ts.length<=R.length
 z:R[0]?=some F0
 we:ts.length+((R.drop ts.length).map wt).sum<=W
theorem Zb6 {R:List Fml}(h:∀F∈R,FamOk F/\Inner F):R.length<=(R.map wt).sum:=by
 induction R with
 | nil=>exact Yad _
 | cons F R ih=>
  have h1:=ih λG j=>h G (Ybf _ j);have h2:=Ze1 (h F (Yaw ..)).2 (h F (Yaw ..)).1.nd;simp
  lia
theorem Rw.start {F:Fml}(h:FamOk F)(i:Inner F):Rw F [F] [] (wt F):=⟨λG j=>by rw [Yai.mp j];exact ⟨h,i⟩,λi r e=>(by simp at e),Yao _,rfl,by simp⟩
theorem Rw.len {j:Fml}{R:List Fml}{ts:List Tri}{W:Nat}(h:Rw j R ts W):R.length<=W:=by
 have h1:=Zb6 (R:=R.drop ts.length) λF B=>h.ok F (List.mem_of_mem_drop B);rw [Ydr] at h1;have:=h.ln;have:=h.we
 lia
theorem Rw.step {L F:Fml}{R S:List Fml}{ts:List Tri}{W:Nat}{r:Tri}(h:Rw L R ts W)(O:R[ts.length]?=some F)(Z:∀G∈S,FamOk G/\Inner G)(hw:(S.map wt).sum<=wt (JJ r.1 F)+wt (GB r.1 F))(n:WE (R++S) F r):Rw L (R++S) (ts++[r]) W:=by
 obtain ⟨U,eF⟩:=Yaj.mp O;have Y:=JT r.1 F;have h1:0<(GB r.1 F).length:=by
  obtain ⟨s,Y⟩:=n.1.1;exact List.length_pos_iff.mpr (List.ne_nil_of_mem (mem_high.mpr Y))
 refine ⟨λG j=>?_,λi q e=>?_,?_,?_,?_⟩
 ·rcases Yag.mp j with j | j
  ·exact h.ok G j
  ·exact Z G j
 ·by_cases hi:i<ts.length
  ·rw [Ybl hi] at e;obtain ⟨G,g1,g2,g3,g4⟩:=h.nd i q e;exact ⟨G,by rw [Ybl (by lia)];exact g1,g2,g3.app S,g4.app S⟩
  ·have B:=(Yaj.mp e).1;rw [Yae,Yap] at B;have:i=ts.length:=by lia
   subst this;rw [Ybt (Yad _),Ych] at e;cases e;exact ⟨F,by rw [Ybl U];exact O,n⟩
 ·rw [Yae,Yae,Yap]
  lia
 ·rw [Ybl (by lia)];exact h.z
 ·have D:=h.we;rw [Yde U,eF,Yaq,List.sum_cons] at D;rw [Yae,Yap,List.drop_append_of_le_length (by lia),Yak,List.sum_append]
  lia
theorem Rw.meas {B F:Fml}{R S:List Fml}{ts:List Tri}{W:Nat}{r:Tri}(h:Rw B R ts W)(D:R[ts.length]?=some F)(U:(S.map wt).sum<=wt (JJ r.1 F)+wt (GB r.1 F))(n:Zbz r.1 F):(((R++S).drop (ts++[r]).length).map wt).sum<((R.drop ts.length).map wt).sum:=by
 obtain ⟨L,O⟩:=Yaj.mp D;have j:=JT r.1 F;have h1:0<(GB r.1 F).length:=by
  obtain ⟨s,j⟩:=n.1;exact List.length_pos_iff.mpr (List.ne_nil_of_mem (mem_high.mpr j))
 rw [Yde L,O,Yaq,List.sum_cons,Yae,Yap,List.drop_append_of_le_length (by lia),Yak,List.sum_append]
 lia
theorem Zag {R:List Fml}{ts:List Tri}(D:ts.length=R.length)(nd:∀(i:Nat)(r:Tri),ts[i]?=some r->∃F,R[i]?=some F/\WE R F r){G:Fml}{c lo:Int}(h:Num R G c)(j:∀x s,(x::s)∈G->lo<x):At ts c lo:=by
 rcases h with h | h | ⟨i,h,rfl⟩
 ·exact .inl h.2
 ·exact .inr (.inl h.2)
 ·have hi:i<ts.length:=by rw [D];exact (Yaj.mp h).1
  obtain ⟨F,B,L,_⟩:=nd i ts[i] (Yaz hi);rw [h] at B;cases B;obtain ⟨s,O⟩:=L.1;exact .inr (.inr ⟨ts[i],⟨by lia,by rw [show ((i:Int)+2-2).toNat=i by lia];exact Yaz hi⟩,j _ s O⟩)
theorem Zdj {R:List Fml}{ts:List Tri}(O:ts.length=R.length)(nd:∀(i:Nat)(r:Tri),ts[i]?=some r->∃F,R[i]?=some F/\WE R F r):∀(n:Nat){G:Fml}{c:Int},wt G<=n->Num R G c->∀s,Has ts c s↔s∈G:=by
 intro n
 induction n with
 | zero=>
  intro G c Z h s;rcases h with ⟨rfl,rfl⟩ | ⟨rfl,rfl⟩ | ⟨i,h,rfl⟩
  ·exact ⟨λz=>absurd z Has.zero,λz=>by cases z⟩
  ·rw [Has.at1];simp
  ·have hi:i<ts.length:=by rw [O];exact (Yaj.mp h).1
   obtain ⟨F,j,B,_⟩:=nd i ts[i] (Yaz hi);rw [h] at j;cases j;obtain ⟨s,hs⟩:=B.1;have h0:=JT ts[i].1 G;have h1:0<(GB ts[i].1 G).length:=List.length_pos_iff.mpr (List.ne_nil_of_mem (mem_high.mpr hs))
   lia
 | succ n ih=>
  intro G c Z h s;rcases h with ⟨rfl,rfl⟩ | ⟨rfl,rfl⟩ | ⟨i,h,rfl⟩
  ·exact ⟨λz=>absurd z Has.zero,λz=>by cases z⟩
  ·rw [Has.at1];simp
  ·have hi:i<ts.length:=by rw [O];exact (Yaj.mp h).1
   obtain ⟨F,j,B,U,Y⟩:=nd i ts[i] (Yaz hi);rw [h] at j;cases j;have D:Nd ts ((i:Int)+2) ts[i]:=⟨by lia,by rw [show ((i:Int)+2-2).toNat=i by lia];exact Yaz hi⟩;generalize ts[i]=r at B U Y D;obtain ⟨s0,L⟩:=B.1;have h0:=JT r.1 G;have h1:0<(GB r.1 G).length:=List.length_pos_iff.mpr (List.ne_nil_of_mem (mem_high.mpr L));have i1:=ih (by lia) U;have i2:=ih (by lia) Y;cases s with
   | nil=>
    rw [Has.nil D,i1,mem_low];exact ⟨λz=>z.1,λz=>⟨z,by simp⟩⟩
   | cons x xs=>
    rw [Has.cons D,i1,i2,mem_low,mem_high];constructor
    ·rintro (z | ⟨rfl,z⟩)
     ·exact z.1
     ·exact z
    ·intro z;by_cases e:x=r.1
     ·subst e;exact .inr ⟨rfl,z⟩
     ·exact .inl ⟨z,by simp [e]⟩
theorem Ze2 {F:Fml}{r:Int}(h:Zbz r F):∀x s,(x::s)∈JJ r F->r<x:=λx s j=>by
 obtain ⟨h1,h2⟩:=mem_low.mp j;have:=h.2 x s h1;have:x≠r:=λe=>h2 (by rw [e];rfl)
 lia
theorem Zdk {F:Fml}{r:Int}(ok:FamOk F):∀x s,(x::s)∈GB r F->r<x:=λx s j=>(Ycz.mp (ok.up _ (mem_high.mp j))).1 x (Yaw ..)
theorem Rw.fin {B:Fml}{R:List Fml}{ts:List Tri}{W:Nat}(h:Rw B R ts W)(D:ts.length=R.length):TabOk ts/\At ts 2 (-1)/\∀s,Has ts 2 s↔s∈B:=by
 have U:Num R B 2:=.inr (.inr ⟨0,h.z,by lia⟩);have L:=h.ok B (Yat h.z);refine ⟨λi r e=>?_,Zag D h.nd U (λx s O=>by have:=L.1.rg _ O x (Yaw ..);lia),Zdj D h.nd _ (Yad _) U⟩;obtain ⟨F,Z,Y,g3,g4⟩:=h.nd i r e;have j:=(h.ok F (Yat Z)).1;refine ⟨?_,Zag D h.nd g3 (Ze2 Y),Zag D h.nd g4 (Zdk j)⟩;obtain ⟨s,O⟩:=Y.1;exact j.rg _ O r.1 (Yaw ..)
section
variable {H0 H H1 H':Hp}{d p:Addr}{o:HO}{c c':Nat}
noncomputable def Pool (H:Hp)(d:Addr)(c:Nat):Prop:=∃n b k:Int,H d=some (.lst [.int n,.int b,.int k])/\0<=k/\k<=(c:Int)
theorem Pool.mono (h:Pool H d c)(j:c<=c'):Pool H d c':=let ⟨n,b,k,e,h0,h1⟩:=h;⟨n,b,k,e,h0,by lia⟩
theorem Pool.same (h:Pool H d c)(s:Same H H'):Pool H' d c:=let ⟨n,b,k,e,h0,h1⟩:=h;⟨n,b,k,s _ _ e,h0,h1⟩
structure Pk (H0 H:Hp)(d:Addr)(c:Nat):Prop where
 keep:∀b o,b≠d->H0 b=some o->H b=some o
 at_:Pool H d c
theorem Pk.start (h:Pool H d c):Pk H H d c:=⟨λ_ _ _ e=>e,h⟩
theorem Pk.grow (h:Pk H0 H d c)(s:Same H H'):Pk H0 H' d c:=⟨λb o n e=>s b o (h.keep b o n e),h.at_.same s⟩
theorem Pk.new (h:Pk H0 H d c)(j:H p=none):Pk H0 (upd H p o) d c:=h.grow (Same.new j)
theorem Pool.ne (h:Pool H d c)(j:H p=none):d≠p:=by
 obtain ⟨_,_,_,e,_⟩:=h;exact Gf e j
theorem Pk.free (h:Pk H0 H d c)(j:H p=none):H0 p=none:=by
 cases e:H0 p with
 | none=>rfl
 | some o=>rw [h.keep p o (Ne.symm (h.at_.ne j)) e] at j;cases j
theorem Pk.put (h:Pk H0 H d c)(j:H0 p=none)(hd:d≠p):Pk H0 (upd H p o) d c:=⟨λb u n e=>Gi (h.keep b u n e) (Gf e j),let ⟨n,b,k,e,r⟩:=h.at_;⟨n,b,k,Gi e hd,r⟩⟩
theorem Pk.trans (a:Pk H0 H d c)(b:Pk H H1 d c'):Pk H0 H1 d c':=⟨λx o n e=>b.keep x o n (a.keep x o n e),b.at_⟩
theorem Pk.mono (a:Pk H0 H d c)(j:c<=c'):Pk H0 H d c':=⟨a.keep,a.at_.mono j⟩
end
theorem Zdl {a b s:Int}(ha:0<=a)(j:a<=10000000600)(D:0<=s)(B:s<=1000001)(L:b=13 * s+41):0<=a * b+3307 * s * s/\a * b+3307 * s * s<2 ^ 63:=by
 have h1:0<=a * b:=Int.mul_nonneg ha (by lia);have h2:a * b<=10000000600 * 13000100:=Int.mul_le_mul j (by lia) (by lia) (by decide);have O:0<=3307 * s * s:=Int.mul_nonneg (by lia) D;have U:3307 * s * s<=(3307 * 1000001) * 1000001:=Int.mul_le_mul (by lia) B D (by decide)
 lia
section
variable {P:Program}{w:World}{K:W.Frag}{mg:Str->Option Value}{base:Heap}
noncomputable def Xa:Sp:=λvs H Q _=>∃(d:Addr)(c:Nat)(m:Int),vs=[.ref d,.int m]/\Pool H d c/\c<1000000/\0<m/\Lt2 9000 m/\∀(r:Int)(H':Hp),0<=r->r<m->Pk H H' d (c+1)->Q (.int r) H'
theorem scTak:Gs ["pool", "many", "found", "step", "mark"] ["pool", "many"] (Gh Zbo):=⟨rfl,rfl,rfl,by decide +kernel,rfl,by decide +kernel,by decide +kernel⟩
theorem Vj {f:Addr}{fd:FuncData}(F:Fun K "_law_take" "_law_take" Zbo f fd):FnOk P w K mg base CX0 1 f fd ["pool", "many"] Xa:=by
 refine F.ok scTak (λvs H Q E h=>?_) (λY A outer s H vs Q E hr h=>?_)
 ·obtain ⟨d,c,m,rfl,_⟩:=h
  rfl
 ·obtain ⟨d,c,m,rfl,⟨n,b,k,hd,L,Z⟩,hc,B,D,q⟩:=h;refine ⟨_,Ge (Jl (Gr Ox (GD (On K) (pv 0) Gg (λ_ _=>rfl)) Gg (GA _)) (Ge (Gp (i:=2) scTak.nd rfl (Or.inl rfl) (GE V3 (GD (On K) (pv 0) Gg (λ_ _=>rfl)) (pv 1)))
    (Ge (UU (GE Xq (GD (On K) (pv 0) Gg (λ_ _=>rfl)) (pv 1)) (ZbJ (pv 0) Gg Xj))
    (Gj (Gx (pv 2))))) GC)
    (Ge (UU (GE Jv (GD (On K) (pv 0) Gg (λ_ _=>rfl)) Gg) (ZbJ (pv 0) Gg Xj))
    (Ge (Gp (i:=3) scTak.nd rfl (Or.inl rfl) (GD (On K) (pv 0) Gg (λ_ _=>rfl)))
    (Ge (Gp (i:=4) scTak.nd rfl (Or.inl rfl) (GE O5 (GE Jv (GE V3 (GD (On K) (pv 0) Gg (λ_ _=>rfl)) Gg) Gg) (GE Jv (GE O5 Gg (pv 3)) Gg)))
    (Ge (Gp (i:=4) scTak.nd rfl (Or.inl rfl) (GE Jv (pv 4) (GE O5 (GE O5 Gg (pv 3)) (pv 3))))
    (Ge (Gp (i:=4) scTak.nd rfl (Or.inl rfl) (GE V3 (GE O5 (pv 4) (pv 4)) Gg))
    (Gj (Gx (GE V3 (GE Xq (GE V3 (GE O5 (pv 4) (GE Jv (pv 4) Gg)) Gg) Gg) (pv 1))))))))),?_⟩
  refine ⟨_,rfl,d,_,_,_,rfl,rfl,SqL.of hd,Gm (j:=1) rfl,rfl,_,rfl,O7 (λc1=>?_) (λc1=>?_)⟩
  ·refine ⟨_,rfl,d,_,_,_,rfl,rfl,SqL.of hd,Gm (j:=0) rfl,_,rfl,_,_,rfl,rfl,B,?_⟩;refine ⟨_,rfl,d,_,_,_,rfl,rfl,SqL.of hd,Gm (j:=0) rfl,_,rfl,_,_,rfl,rfl,⟨B,D⟩,?_⟩;refine ⟨_,rfl,d,_,0,0,rfl,rfl,hd,rfl,_,rfl,?_⟩;exact q (n % m) _ (Int.emod_nonneg n (Int.ne_of_gt B)) (Int.emod_lt_of_pos n B) ⟨λb o D e=>Gi e D,n / m,b,k,Gb,L,by lia⟩
  ·dsimp only [JZ];refine ⟨_,rfl,d,_,_,_,rfl,rfl,SqL.of hd,Gm (j:=2) rfl,_,_,rfl,rfl,?_⟩;refine ⟨_,rfl,d,_,2,2,rfl,rfl,hd,rfl,?_⟩;have O:upd H d (.lst [.int n,.int b,.int (k+1)]) d=some (.lst [.int n,.int b,.int (k+1)]):=Gb;have U:Pk H (upd H d (.lst [.int n,.int b,.int (k+1)])) d (c+1):=⟨λb o D e=>Gi e D,n,b,k+1,Gb,by lia,by lia⟩;show Zfs _ _ _ _ (upd H d (.lst [.int n,.int b,.int (k+1)]));generalize upd H d (.lst [.int n,.int b,.int (k+1)])=H2 at O U ⊢;have m0:=Int.emod_nonneg n (show (9999999673:Int)≠0 by decide);have m1:=Int.emod_lt_of_pos n (show (0:Int)<9999999673 by decide);obtain ⟨l0,l1⟩:=Zdl (a:=n % 9999999673+887) (s:=k+1) (by lia) (by lia) (by lia) (by lia) rfl;refine ⟨_,rfl,d,_,_,_,rfl,rfl,SqL.of O,Gm (j:=2) rfl,?_⟩;refine ⟨_,rfl,d,_,_,_,rfl,rfl,SqL.of O,Gm (j:=0) rfl,_,_,rfl,rfl,(show (0:Int)<9999999673 by decide),_,_,rfl,rfl,_,rfl,_,_,rfl,rfl,.inl ⟨by decide,by decide⟩,_,_,rfl,rfl,_,_,rfl,rfl,.inr ⟨by lia,by lia⟩,?_⟩;refine ⟨_,rfl,_,rfl,_,_,rfl,rfl,.inl ⟨by decide,by decide⟩,_,rfl,_,_,rfl,rfl,.inr ⟨by lia,by lia⟩,_,_,rfl,rfl,?_⟩;refine ⟨_,rfl,_,rfl,_,_,rfl,rfl,.inl ⟨by lia,by lia⟩,_,_,rfl,rfl,(show (0:Int)<99999999701 by decide),?_⟩;have n0:=Int.emod_nonneg (((n % 9999999673+887) * (13 * (k+1)+41)+3307 * (k+1) * (k+1)) * ((n % 9999999673+887) * (13 * (k+1)+41)+3307 * (k+1) * (k+1))) (show (99999999701:Int)≠0 by decide);have n1:=Int.emod_lt_of_pos (((n % 9999999673+887) * (13 * (k+1)+41)+3307 * (k+1) * (k+1)) * ((n % 9999999673+887) * (13 * (k+1)+41)+3307 * (k+1) * (k+1))) (show (0:Int)<99999999701 by decide);refine ⟨_,rfl,_,rfl,_,_,rfl,rfl,_,_,rfl,rfl,.inl ⟨by lia,by lia⟩,_,_,rfl,rfl,(show (0:Int)<99999999943 by decide),_,_,rfl,rfl,⟨by decide,GX⟩,_,rfl,_,_,rfl,rfl,B,?_⟩;exact q _ _ (Int.emod_nonneg _ (Int.ne_of_gt B)) (Int.emod_lt_of_pos _ B) U
noncomputable def Ze3:Sp:=λvs H Q _=>∃(a:Addr)(ns:List Int)(k:Nat),vs=[.ref a,.int (k:Int)]/\SqL K H a (ns.map V.int)/\k<=100/\∀(d:Addr)(H':Hp),Same H H'->H d=none->Pool H' d 2000->Q (.ref d) H'
theorem scPoo:Gs ["script", "k", "cell"] ["script", "k"] (Gh ZfA):=⟨rfl,rfl,rfl,by decide +kernel,rfl,by decide +kernel,by decide +kernel⟩
theorem Ze4 {f:Addr}{fd:FuncData}(F:Fun K "_law_pool" "_law_pool" ZfA f fd)(B:mg "len" = none):FnOk P w K mg base CX0 1 f fd ["script", "k"] (Ze3 (K:=K)):=by
 refine F.ok scPoo (λvs H Q E h=>?_) (λaa A outer s H vs Q E hr h=>?_)
 ·obtain ⟨_,_,_,rfl,_⟩:=h
  rfl
 ·obtain ⟨a,ns,k,rfl,ha,hk,q⟩:=h;refine ⟨_,Ge (Gp (i:=2) scPoo.nd rfl (Or.inl rfl) Gg)
    (Ge (Jl (Gr ZdR (pv 1) (Gu (YI K) rfl B Ycu (Ga (pv 0) Gc)) (GA _)) (Gj (Gp (i:=2) scPoo.nd rfl (Or.inl rfl) (GD (On K) (pv 0) (pv 1) (λ_ _=>rfl)))) GC)
    (Ge (Jl (Gr ZdS (pv 2) (GE ZbK Gg Gg) (GA _)) (Gj (Gx (Gy (Ga (GE Ur (pv 2) (GE ZbK Gg Gg)) (Ga Gg (Ga Gg Gc)))))) GC)
    (Gj (Gx (Gy (Ga (pv 2) (Ga Gg (Ga (GE O5 Gg (pv 1)) Gc)))))))),?_⟩
  refine Gw (λD H'=>∃cl:Int,D=[some (.ref a),some (.int (k:Int)),some (.int cl)]/\H'=H) ?s0 ?f0
  case f0=>exact λhk=>hk _ _ ⟨0,rfl,rfl⟩
  rintro D H' ⟨cl,rfl,rfl⟩;refine Gw (λD L=>∃cl:Int,D=[some (.ref a),some (.int (k:Int)),some (.int cl)]/\L=H') ?s1 ?f1
  case f1=>
   intro O;refine ⟨_,rfl,_,rfl,a,_,rfl,.inl ha,_,_,rfl,rfl,_,rfl,O7 (λY=>?_) (λY=>?_)⟩
   ·have Z:=Ycv Y;rw [Yab] at Z;refine ⟨_,rfl,_,rfl,a,_,_,.int (ns.getD k 0),rfl,rfl,ha,Gm (j:=k) ?_,?_⟩
    ·rw [Ybb,Yaz (by lia),List.getD_eq_getElem?_getD,Yaz (by lia)]
     rfl
    ·exact O _ _ ⟨_,rfl,rfl⟩
   ·exact O _ _ ⟨cl,rfl,rfl⟩
  clear cl;rintro D L ⟨cl,rfl,rfl⟩;refine ⟨_,rfl,_,_,rfl,rfl,⟨by decide,by decide,by decide⟩,_,_,rfl,rfl,_,rfl,O7 (λY=>?_) (λY=>?_)⟩
  ·refine ⟨_,rfl,_,_,rfl,rfl,⟨by decide,by decide,by decide⟩,_,_,rfl,rfl,(by show 3<=sizeLine;decide),λp U=>?_⟩;exact q p _ (Same.new U) U ⟨_,_,_,Gb,by lia,by lia⟩
  ·dsimp only [JZ];refine ⟨_,rfl,_,rfl,_,_,rfl,rfl,.inl ⟨by decide,by decide⟩,(by show 3<=sizeLine;decide),λp U=>?_⟩;exact q p _ (Same.new U) U ⟨_,_,_,Gb,by lia,by lia⟩
noncomputable def Rds (rs:List Int):Prop:=rs.Pairwise (· < ·)/\(∀r∈rs,0<=r/\r<28)/\rs≠[]/\rs.length<=12
noncomputable def Sok (rs s:List Int):Prop:=s.Pairwise (· < ·)/\∀x∈s,x∈rs
theorem Sok.sub {rs s:List Int}(h:Rds rs)(j:s.Sublist rs):Sok rs s:=⟨h.1.sublist j,λx B=>j.subset B⟩
theorem Sok.len {rs s:List Int}(h:Sok rs s):s.length<=rs.length:=Ydp (h.1.imp λz e=>by lia) λx j=>h.2 x j
theorem Ze5 {a b:Int}{n:Nat}(ha:0<=a)(D:a<4)(Y:1<=b)(L:b<3)(Z:1<=n)(O:n<=12):Rds ((List.range n).map λi:Nat=>a+b * (i:Int)):=by
 have B:b=1\/b=2:=by lia
 refine ⟨?_,λr U=>?_,λz=>?_,?_⟩
 ·rw [Yct];refine List.pairwise_lt_range.imp λ{i j} h=>?_;rcases B with rfl | rfl <;> lia
 ·obtain ⟨i,hi,rfl⟩:=Yam.mp U;have:=List.mem_range.mp hi;rcases B with rfl | rfl <;> lia
 ·have:=Ybh List.length z;simp at this
  lia
 ·simp
  lia
theorem XR {xs:List Int}{r:Int}(h0:0<=r)(h1:r<xs.length):∃x,x∈xs/\atI (xs.map V.int) r=some (.int x):=by
 obtain ⟨k,rfl⟩:=Int.eq_ofNat_of_zero_le h0;have j:k<xs.length:=by lia
 exact ⟨xs[k],List.getElem_mem j,Gm (by rw [Ybb,Yaz j];rfl)⟩
noncomputable def Ze6:Sp:=λvs H Q _=>∃(d:Addr)(c:Nat),vs=[.ref d]/\Pool H d c/\c<900000/\∀(l:Addr)(rs:List Int)(H':Hp),Pk H H' d (c+6)->H l=none->H' l=some (.lst (rs.map V.int))->Rds rs->Q (.ref l) H'
theorem scRoa:Gs ["pool", "many", "first", "step"] ["pool"] (Gh ZfB):=⟨rfl,rfl,rfl,by decide +kernel,rfl,by decide +kernel,by decide +kernel⟩
theorem Ze7 {f fT:Addr}{fd L:FuncData}(F:Fun K "_law_roads" "_law_roads" ZfB f fd)(O:Fun K "_law_take" "_law_take" Zbo fT L)(U:Binds K L ["pool", "many"] [])(Y:mg "_law_take" = some (.ref fT))(B:mg "range" = none):FnOk P w K mg base CX0 2 f fd ["pool"] Ze6:=by
 have Z:FnOk P w K mg base CX0 1 fT L ["pool", "many"] Xa:=Vj O;refine F.ok scRoa (λvs H Q E h=>?_) (λaa A outer s H vs Q E hr h=>?_)
 ·obtain ⟨_,_,rfl,_⟩:=h
  rfl
 ·obtain ⟨d,c,rfl,hP,hc,q⟩:=h;refine ⟨_,Ge (Gp (i:=1) scRoa.nd rfl (Or.inl rfl) (GE Jv Gg (GD (On K) (Gy (Ga (Gk Z (hr.mono (by decide)) rfl Y O.kp U .nil Gv (Ga (pv 0) (Ga Gg Gc))) (Ga (Gk Z (hr.mono (by decide)) rfl Y O.kp U .nil Gv (Ga (pv 0) (Ga Gg Gc))) (Ga (Gk Z (hr.mono (by decide)) rfl Y O.kp U .nil Gv (Ga (pv 0) (Ga Gg Gc))) Gc)))) (Gk Z (hr.mono (by decide)) rfl Y O.kp U .nil Gv (Ga (pv 0) (Ga Gg Gc))) (λ_ _=>rfl))))
    (Ge (Gp (i:=2) scRoa.nd rfl (Or.inr rfl) (Gk Z (hr.mono (by decide)) rfl Y O.kp U .nil Gv (Ga (pv 0) (Ga Gg Gc))))
    (Ge (Gp (i:=3) scRoa.nd rfl (Or.inr rfl) (GE Jv Gg (Gk Z (hr.mono (by decide)) rfl Y O.kp U .nil Gv (Ga (pv 0) (Ga Gg Gc)))))
    (Gj (Gx (Jo (own:=["k"]) rfl (Gq (fr:=[("first", 2),("step", 3)]) [(".0", .local),("k", .local),("first", .cell),("step", .cell)] rfl rfl (by decide +kernel) rfl (by decide +kernel) ⟨rfl,rfl,trivial⟩ ⟨λh=>G7 h,λh=>G7 h,λ_=>⟨_,rfl⟩,λ_=>⟨_,rfl⟩,trivial⟩ ⟨⟨rfl,.inl rfl,.inl rfl⟩,⟨rfl,.inl rfl,.inl rfl⟩,trivial⟩) (J0 rfl B (Ga (pv 1) Gc)) (λ_ _ _ _=>Go (i:=0) (show List.Nodup (["k", "first", "step"]:List Str) by decide +kernel) rfl (Or.inl rfl)) (λ_ _ _ _=>Oz) (λ_ _ _ _=>GE Jv (pv 1) (GE O5 (pv 2) (pv 0)))))))),?_⟩
  refine ⟨_,rfl,d,c,4,rfl,hP,by lia,by decide,GX,λr1 H1 a1 b1 k1=>?_⟩;refine ⟨_,rfl,d,c+1,9,rfl,k1.at_,by lia,by decide,GX,λr2 H2 a2 b2 k2=>?_⟩;refine ⟨_,rfl,d,c+2,12,rfl,k2.at_,by lia,by decide,GX,λr3 H3 a3 b3 k3=>?_⟩;refine ⟨(by show 3<=sizeLine;decide),λp hp=>?_⟩;refine ⟨_,rfl,d,c+3,3,rfl,k3.at_.same (Same.new hp),by lia,by decide,GX,λr4 H4 a4 b4 k4=>?_⟩;obtain ⟨x,hx,ex⟩:=XR (xs:=[r1,r2,r3]) a4 b4;have x0:0<=x/\x<12:=by
   simp at hx
   lia
  have np:=Ne.symm (k3.at_.ne hp);refine ⟨p,_,_,_,rfl,rfl,SqL.of (k4.keep _ _ np Gb),ex,_,_,rfl,rfl,?_⟩;refine ⟨_,rfl,d,c+4,4,rfl,k4.at_,by lia,by decide,GX,λr5 H5 a5 b5 k5=>?_⟩;refine ⟨_,rfl,d,c+5,2,rfl,k5.at_,by lia,by decide,GX,λr6 H6 a6 b6 k6=>?_⟩;refine ⟨_,_,rfl,rfl,?_⟩;have K6:Pk H H6 d (c+6):=(((((k1.trans k2).trans k3).new hp).trans k4).trans k5).trans k6;have ab:=Ybi.symm;refine ⟨_,rfl,_,rfl,by lia,by lia,λD hD=>?_⟩;refine Yk (lo:=0) (n:=(1+x).toNat) (λi ys H7=>Same H6 H7/\H7 D=some (.lst ys)/\ys=((List.range i).map λj:Nat=>r5+(1+r6) * (j:Int)).map V.int) ⟨Same.new hD,Gb,rfl⟩ ?_ ?_
  ·rintro i ys H7 hi ⟨s7,e7,rfl⟩;rw [Int.zero_add];refine ⟨⟨rfl,rfl,trivial⟩,?_⟩;unfold ZdA;refine OW ?_;refine ⟨_,rfl,_,rfl,_,rfl,_,_,rfl,rfl,.inl ⟨by lia,by lia⟩,_,_,rfl,rfl,e7,(by simp;lia),s7.put hD,Gb,by rw [List.range_succ,Yak,Yak];rfl⟩
  ·rintro ys H7 ⟨s7,e7,rfl⟩;exact q D _ _ (K6.grow s7) (K6.free hD) e7 (Ze5 a5 b5 (by lia) (by lia) (by lia) (by lia))
noncomputable def Zdm:Sp:=λvs H Q _=>∃(d j:Addr)(c:Nat)(rs:List Int),vs=[.ref d,.ref j]/\Pool H d c/\c<900000/\j≠d/\H j=some (.lst (rs.map V.int))/\rs.length<=12 /\
 ∀(l:Addr)(ss:List Int)(H':Hp),Pk H H' d (c+13)->H l=none->H' l=some (.lst (ss.map V.int))->ss.Sublist rs->Q (.ref l) H'
theorem scSet:Gs ["pool", "roads", "few"] ["pool", "roads"] (Gh Zez):=⟨rfl,rfl,rfl,by decide +kernel,rfl,by decide +kernel,by decide +kernel⟩
theorem Zb7 {f fT:Addr}{fd j:FuncData}(F:Fun K "_law_set" "_law_set" Zez f fd)(FT:Fun K "_law_take" "_law_take" Zbo fT j)(bT:Binds K j ["pool", "many"] [])(mT:mg "_law_take" = some (.ref fT)):FnOk P w K mg base CX0 2 f fd ["pool", "roads"] Zdm:=by
 have GT:FnOk P w K mg base CX0 1 fT j ["pool", "many"] Xa:=Vj FT;refine F.ok scSet (λvs H Q E h=>?_) (λaa A outer s H vs Q E hr h=>?_)
 ·obtain ⟨_,_,_,_,rfl,_⟩:=h
  rfl
 ·obtain ⟨d,rl,c,rs,rfl,hP,hc,O,er,ab,q⟩:=h;refine ⟨_,Ge (Gp (i:=2) scSet.nd rfl (Or.inr rfl) (GD (On K) (Gy (Ga Gg (Ga Gg (Ga Gg Gc)))) (Gk GT (hr.mono (by decide)) rfl mT FT.kp bT .nil Gv (Ga (pv 0) (Ga Gg Gc))) (λ_ _=>rfl)))
    (Gj (Gx (Jo (own:=["road"]) rfl (Gq (fr:=[("pool", 0),("few", 2)]) [(".0", .local),("road", .local),("_law_take", .globalImplicit),("few", .cell),("pool", .cell)] rfl rfl (by decide +kernel) rfl (by decide +kernel) ⟨rfl,rfl,trivial⟩ ⟨λh=>G7 h,λh=>G7 h,λh=>G7 h,λ_=>⟨_,rfl⟩,λ_=>⟨_,rfl⟩,trivial⟩ ⟨⟨rfl,.inl rfl,.inl rfl⟩,⟨rfl,.inl rfl,.inl rfl⟩,trivial⟩) (Jz K (pv 1)) (λ_ _ _ _=>Go (i:=0) (show List.Nodup (["road", "pool", "few"]:List Str) by decide +kernel) rfl (Or.inl rfl)) (λ_ _ _ _=>Jb (Gr Ox (Gk GT (hr.mono (by decide)) rfl mT FT.kp bT .nil Gv (Ga (pv 1) (Ga (pv 2) Gc))) Gg (GA _))) (λ_ _ _ _=>pv 0)))),?_⟩
  refine ⟨(by show 3<=sizeLine;decide),λp hp=>?_⟩;have np:=Ne.symm (hP.ne hp);refine ⟨_,rfl,d,c,3,rfl,hP.same (Same.new hp),by lia,by decide,GX,λr1 H1 a1 b1 k1=>?_⟩;obtain ⟨x,hx,ex⟩:=XR (xs:=[2,3,6]) a1 b1;have x0:0<x/\x<7:=by
   simp at hx
   lia
  have xl:Lt2 9000 x:=Lt2.mono (p:=3) (show x.natAbs<2 ^ 3 by lia) (by decide);refine ⟨p,_,_,_,rfl,rfl,SqL.of (k1.keep _ _ np Gb),ex,?_⟩;have U:Pk H H1 d (c+1):=((Pk.start hP).new hp).trans k1;have ac:=Ybi.symm;have Y:=U.keep _ _ O er;refine ⟨_,rfl,rl,rfl,⟨_,SqL.of Y⟩,λD Z=>?_⟩;have nD:=U.at_.ne Z;refine GL (K:=K) (a:=rl) (xs:=rs.map V.int) (λi ys H2=>∃ss:List Int,ys=ss.map V.int/\ss.Sublist (rs.take i)/\Pk H1 H2 d (c+1+i)/\H2 D=some (.lst ys))
   ⟨[],rfl,List.nil_sublist _,(Pk.start U.at_).new Z,Gb⟩ (by rintro i ys H2 _ ⟨_,_,_,B,_⟩;exact SqL.of (B.keep _ _ O Y)) ?_ ?_
  ·rintro i y ys H2 hi ⟨ss,rfl,L,B,e2⟩;obtain ⟨z,rfl,hz⟩:=JR hi;have hi':i<rs.length:=(Yaj.mp hz).1;have tk:rs.take (i+1)=rs.take i++[z]:=by rw [Ybu,hz];rfl
   have sl:=L.length_le;rw [Yba] at sl;refine ⟨⟨rfl,rfl,trivial⟩,?_⟩;refine ⟨_,rfl,_,rfl,d,c+1+i,x,rfl,B.at_,by lia,x0.1,xl,λr H3 a b k3=>⟨rfl,_,rfl,O7 (λc1=>?_) (λc1=>?_)⟩⟩
   ·refine ⟨_,rfl,k3.keep _ _ (Ne.symm nD) e2,(by rw [Yab];lia),ss++[z],by rw [Yak];rfl,?_,((B.trans k3).put Z nD),Gb⟩;rw [tk];exact L.append (List.Sublist.refl _)
   ·exact ⟨ss,rfl,by rw [tk];exact L.trans (List.sublist_append_left _ _),B.trans k3,k3.keep _ _ (Ne.symm nD) e2⟩
  ·rintro ys H2 ⟨ss,rfl,L,B,e2⟩;refine q D ss _ ((U.trans B).mono (by rw [Yab];lia)) (U.free Z) e2 ?_;rw [Yab,Ybn] at L;exact L
noncomputable def Zdn:Sp:=λvs H Q _=>∃(d j B:Addr)(c:Nat)(os rs:List Int),vs=[.ref d,.ref j,.ref B]/\Pool H d c/\c<900000/\j≠d/\B≠d/\H j=some (.lst (os.map V.int))/\H B=some (.lst (rs.map V.int))/\Rds rs/\Sok rs os /\
 ∀(l:Addr)(ss:List Int)(H':Hp),Pk H H' d (c+1)->H l=none->H' l=some (.lst (ss.map V.int))->Sok rs ss->Q (.ref l) H'
theorem scTur:Gs ["pool", "one", "roads", "road"] ["pool", "one", "roads"] (Gh ZeA):=⟨rfl,rfl,rfl,by decide +kernel,rfl,by decide +kernel,by decide +kernel⟩
theorem XS (p:Int):∀ms:List Int,inV (.int p) (ms.map V.int)=decide (p∈ms):=by
 intro ms;unfold inV
 induction ms with
 | nil=>rfl
 | cons m ms ih=>
  rw [Yaq,List.any_cons,ih];by_cases h1:p=m <;> by_cases h2:p∈ms <;> simp [eqV,h1,h2] <;> (try lia) <;> (try (intro z;exact h1 z.symm))
theorem WF (ms:List Int):(ms.map V.int).all Vr=true:=by
 rw [List.all_map];exact List.all_eq_true.mpr λ_ _=>rfl
theorem XT {l:List Int}(h:l.Pairwise (· <= ·))(n:l.Nodup):l.Pairwise (· < ·):=(h.and n).imp λ⟨a,b⟩=>by lia
theorem Zb8 {f fT:Addr}{fd B:FuncData}(F:Fun K "_law_turned" "_law_turned" ZeA f fd)(FT:Fun K "_law_take" "_law_take" Zbo fT B)(bT:Binds K B ["pool", "many"] [])(mT:mg "_law_take" = some (.ref fT))(Z:mg "len" = none)(aa:mg "int" = none)(ab:mg "sorted" = none):FnOk P w K mg base CX0 2 f fd ["pool", "one", "roads"] Zdn:=by
 have GT:FnOk P w K mg base CX0 1 fT B ["pool", "many"] Xa:=Vj FT;refine F.ok scTur (λvs H Q E h=>?_) (λan A outer s H vs Q E hr h=>?_)
 ·obtain ⟨_,_,_,_,_,_,rfl,_⟩:=h
  rfl
 ·obtain ⟨d,ol,rl,c,j,rs,rfl,hP,hc,af,ag,eo,er,ac,L,q⟩:=h;refine ⟨_,Ge (Gp (i:=3) scTur.nd rfl (Or.inr rfl) (GD (On K) (pv 2) (Gk GT (hr.mono (by decide)) rfl mT FT.kp bT .nil Gv (Ga (pv 0) (Ga (Gu (YI K) rfl Z Ycu (Ga (pv 2) Gc)) Gc))) (λ_ _=>rfl)))
    (Gj (Gx (Gu (ZbZ K) rfl ab PyProof.Rows.boot_sorted (Ga (GE Uv (Jo (own:=["other"]) rfl (Gq (fr:=[("road", 3)]) [(".0", .local),("other", .local),("road", .cell)] rfl rfl (by decide +kernel) rfl (by decide +kernel) ⟨rfl,trivial⟩ ⟨λh=>G7 h,λh=>G7 h,λ_=>⟨_,rfl⟩,trivial⟩ ⟨⟨rfl,.inl rfl,.inl rfl⟩,trivial⟩) (Jz K (pv 1)) (λ_ _ _ _=>Go (i:=0) (show List.Nodup (["other", "road"]:List Str) by decide +kernel) rfl (Or.inl rfl)) (λ_ _ _ _=>Jb (Gr ZdQ (pv 0) (pv 1) (GA _))) (λ_ _ _ _=>pv 0)) (GE Za (Gy (Ga (pv 3) Gc)) (Jf V5 rfl aa Uf (Ga (OT (ZbO K) (pv 3) (pv 1) (by with_unfolding_all rfl)) Gc)))) Gc)))),?_⟩
  have ao:=Ybi.symm;have ak:=ac.2.2.2;have am:=L.len;have ap:0<rs.length:=List.length_pos_iff.mpr ac.2.2.1;refine ⟨_,rfl,_,rfl,_,rfl,rl,_,rfl,.inl (SqL.of er),d,c,_,rfl,hP,by lia,by rw [Yab];lia,Lt2.mono (p:=4) (by rw [Yab];show (rs.length:Int).natAbs<2 ^ 4;lia) (by decide),λr1 H1 a1 b1 k1=>?_⟩;rw [Yab] at b1;obtain ⟨x,hx,ex⟩:=XR (xs:=rs) a1 b1;have ah:=k1.keep _ _ ag er;have O:=k1.keep _ _ af eo;refine ⟨rl,_,_,_,rfl,rfl,SqL.of ah,ex,?_⟩;refine ⟨_,rfl,ol,rfl,⟨_,SqL.of O⟩,λD hD=>?_⟩;refine GL (K:=K) (a:=ol) (xs:=j.map V.int) (λi ys H2=>Same H1 H2/\H2 D=some (.lst ys)/\ys=((j.take i).filter λz=>decide (z≠x)).map V.int) ⟨Same.new hD,Gb,rfl⟩ (by rintro i ys H2 _ ⟨U,_⟩;exact SqL.of (U _ _ O)) ?_ ?_
  ·rintro i y ys H2 hi ⟨U,Y,rfl⟩;obtain ⟨z,rfl,hz⟩:=JR hi;have tk:j.take (i+1)=j.take i++[z]:=by rw [Ybu,hz];rfl
   have lf:=Ycl (λz=>decide (z≠x)) (j.take i);rw [Yba] at lf;refine ⟨⟨rfl,trivial⟩,?_⟩;refine ⟨_,rfl,_,rfl,rfl,_,rfl,O7 (λc1=>?_) (λc1=>?_)⟩
   ·have c2:z≠x:=λe=>by rw [e] at c1;simp at c1
    refine ⟨_,rfl,Y,(by rw [Yab];lia),U.put hD,Gb,?_⟩;rw [tk,Ydh,Yak];simp [c2]
   ·have c2:z=x:=Decidable.byContradiction λe=>c1 (by simp [e]);refine ⟨U,Y,?_⟩;rw [tk,Ydh];simp [c2]
  ·rintro ys H2 ⟨U,Y,rfl⟩;rw [Yab,Ybn] at Y;refine ⟨_,rfl,(by show 1<=sizeLine;decide),λp hp=>?_⟩;have s3:Same H1 (upd H2 p (.lst [.int x])):=U.put (U.free hp);have ad:D≠p:=Gf Y hp;refine ⟨_,rfl,_,rfl,ol,_,rfl,.inl (SqL.of (s3 _ _ O)),rfl,WF _,.inr ⟨_,rfl,?_⟩⟩;rw [XS];refine ⟨p,_,_,rfl,rfl,Gb,(by by_cases h:x∈j <;> simp [h]),(by by_cases h:x∈j <;> simp [h]),(by by_cases h:x∈j <;> simp [h] <;> lia),λp2 ae=>?_⟩;have h2:upd (upd H2 p (.lst [.int x])) p2 (.lst (List.replicate (if (if true=true then !decide (x∈j) else decide (x∈j))=true then (1:Int) else 0).toNat [V.int x]).flatten) D=some (.lst ((j.filter λz=>decide (z≠x)).map V.int)):=Gi (Gi Y ad) (Gf (Gi Y ad) ae);have e3:(List.replicate (if (if true=true then !decide (x∈j) else decide (x∈j))=true then (1:Int) else 0).toNat [V.int x]).flatten=(if x∈j then [] else [x]).map V.int:=by
    by_cases ai:x∈j <;> simp [ai]
   rw [e3] at h2 ⊢;have lf:=Ycl (λz=>decide (z≠x)) j;have l1:(if x∈j then [] else [x]).length<=1:=by split <;> simp
   refine ⟨D,p2,_,_,rfl,rfl,h2,Gb,(by rw [Yab,Yab];lia),λp3 aj=>?_⟩;rw [<-Yak];have s4:=(s3.put (o:=.lst ((if x∈j then [] else [x]).map V.int)) (s3.free ae));refine ⟨p3,_,rfl,SqL.of Gb,λl ns hl pm so=>?_⟩;have s5:=s4.put (o:=.lst ((j.filter (λz=>decide (z≠x))++if x∈j then [] else [x]).map V.int)) (s4.free aj);have s6:=s5.put (o:=.lst (ns.map V.int)) (s5.free hl);have K6:=k1.grow s6;refine q l ns _ K6 (k1.free (s5.free hl)) Gb ⟨XT so ?_,λy hy=>?_⟩
   ·rw [pm.nodup_iff];refine Ycd.mpr ⟨(L.1.imp λz e=>by lia:j.Nodup).filter _,by split <;> simp,?_⟩;rintro a ha b hb rfl;split at hb
    ·simp at hb
    ·simp at hb ha;exact ha.2 hb
   ·have:=pm.mem_iff.mp hy;rcases Yag.mp this with h | h
    ·exact L.2 y (Yby.mp h).1
    ·split at h
     ·simp at h
     ·rw [Yai.mp h];exact hx
noncomputable def Lz (H:Hp)(zs:List (Addr×List Int)):Prop:=∀z∈zs,H z.1=some (.lst (z.2.map V.int))
theorem Lz.same {H H':Hp}{zs:List (Addr×List Int)}(h:Lz H zs)(s:Same H H'):Lz H' zs:=λz j=>s _ _ (h z j)
noncomputable def Ud (j:List (List Int)):List PyData:=j.map λl=>PyData.list (l.map PyData.int)
theorem Zb9:∀j:List (List Int),PyData.canLayAll0 (Ud j)=true
 | []=>by simp [Ud,PyData.canLayAll0]
 | l::j=>by
  have ih:=Zb9 j;unfold Ud at ih ⊢;rw [Yaq];simp [PyData.canLayAll0,PyData.canLay0,Ug l,ih]
theorem XU:∀j:List (List Int),PyData.depthAll (Ud j)<=2
 | []=>by simp [Ud,PyData.depthAll]
 | l::j=>by
  have ih:=XU j;have:=JG l;unfold Ud at ih ⊢;rw [Yaq];simp only [PyData.depthAll,PyData.depth]
  lia
theorem WG (j:List (List Int)):SeqAt.shaped (.list (Ud j))=true:=by
 unfold SeqAt.shaped;rw [Ycc];refine ⟨by simp only [PyData.canLay0];exact Zb9 j,Ybm ?_⟩;have:=XU j;simp only [PyData.depth]
 lia
theorem UJ {K:W.Frag}{H:Hp}:∀{zs:List (Addr×List Int)},Lz H zs->DatVs K H (zs.map λz=>V.ref z.1) (Ud (zs.map (·.2)))
 | [],_=>.nil
 | z::zs,h=>.cons (.lst (SqL.of (h z (by simp))) (G3 z.2)) (UJ (zs:=zs) λy hy=>h y (by simp [hy]))
theorem Zah:∀a b:List (List Int),PyData.eqvAll (Ud a) (Ud b)=decide (a=b)
 | [],[]=>by simp [Ud,PyData.eqvAll]
 | [],_::_=>by simp [Ud,PyData.eqvAll]
 | _::_,[]=>by simp [Ud,PyData.eqvAll]
 | x::a,y::b=>by
  have ih:=Zah a b;have h:=OA x y;unfold Ud at ih ⊢;rw [Yaq,Yaq];simp only [PyData.eqvAll,h,ih];by_cases j:x=y <;> by_cases B:a=b <;> simp [j,B]
theorem Zgw (a b:List (List Int)):PyData.eqv (.list (Ud a)) (.list (Ud b))=decide (a=b):=by
 simp only [PyData.eqv,Zah]
theorem Zdo (xs:List V)(v:V):atI (xs++[v]) (-1)=some v:=by
 have h:ixN (xs++[v]).length (-1)=some xs.length:=by
  rw [Yae,Yap];unfold ixN;simp
  lia
 unfold atI;rw [h];simp
noncomputable def ZbA:Sp:=λvs H Q _=>∃(l:Addr)(zs:List (Addr×List Int)),vs=[.ref l]/\H l=some (.lst (zs.map λz=>V.ref z.1))/\Lz H zs/\zs.length<=1000 /\
 ∀(a:Addr)(ws:List (Addr×List Int))(H':Hp),Same H H'->H a=none->H' a=some (.lst (ws.map λz=>V.ref z.1))->(∀z∈ws,z∈zs)->(ws.map (·.2)).Pairwise (λa b=>JC a b=true)->(∀z∈zs,z.2∈ws.map (·.2))->ws.length<=zs.length->Q (.ref a) H'
theorem scOnc:Gs ["sets", "found", "one"] ["sets"] (Gh ZdE):=⟨rfl,rfl,rfl,by decide +kernel,rfl,by decide +kernel,by decide +kernel⟩
theorem Zai {f:Addr}{fd:FuncData}(F:Fun K "_law_once" "_law_once" ZdE f fd)(ae:mg "sorted" = none):FnOk P w K mg base CX0 1 f fd ["sets"] ZbA:=by
 refine F.ok scOnc (λvs H Q E h=>?_) (λas A outer s H vs Q E hr h=>?_)
 ·obtain ⟨_,_,rfl,_⟩:=h
  rfl
 ·obtain ⟨l,zs,rfl,el,lz,au,q⟩:=h;have D:=hr.units;have av:=Ybi.symm;refine ⟨_,Ge (Gp (i:=1) scOnc.nd rfl (Or.inl rfl) (Gy Gc))
    (Ge (JE Yck rfl (Jz K (Gu (ZcS K D) rfl ae PyProof.Rows.boot_sorted (Ga (pv 0) Gc))) (Go (i:=2) scOnc.nd rfl (Or.inl rfl))
    (Gj (Jl (PW.pt (UO (Gr (Zd8 K D) (pv 1) (Gy Gc) (GA _)) (Ov (Gr (ZcB K D) (GD (On K) (pv 1) (ZfS ZcC Gg) (λ_ _=>rfl)) (pv 2) (GA _))))) (Gj (Jc (Oq Yce Ycp Ycq GQ (pv 1) (Ga (pv 2) Gc)))) GC)))
    (Gj (Gx (pv 1)))),?_⟩
  refine ⟨Yao _,λfo aa=>?_⟩;obtain ⟨H1,q_,s1,ef⟩:=nwU (o:=.lst []) aa;have ef:H1 fo=some (.lst (([]:List (Addr×List Int)).map λz=>V.ref z.1)):=ef;rw [q_];dsimp only [GW];refine ⟨_,rfl,l,zs,rfl,SqL.of (s1 _ _ el),λz O=>SqL.of (s1 _ _ (lz z O)),λsl B af pm so=>⟨sl,rfl,⟨_,SqL.of Gb⟩,?_⟩⟩;have s2:Same H1 (upd H1 sl (.lst (B.map λz=>V.ref z.1))):=Same.new af;have es:upd H1 sl (.lst (B.map λz=>V.ref z.1)) sl=some (.lst (B.map λz=>V.ref z.1)):=Gb;have am:fo≠sl:=Gf ef af;have ag:=s2 _ _ ef;have ac:Lz (upd H1 sl (.lst (B.map λz=>V.ref z.1))) B:=λz O=>s2 _ _ (s1 _ _ (lz z (pm.mem_iff.mp O)));have ah:∀z∈B,z.1≠fo:=λz O=>Gf (lz z (pm.mem_iff.mp O)) aa;generalize upd H1 sl (.lst (B.map λz=>V.ref z.1))=H2 at s2 es ag ac ⊢;have S2:=s1.trans s2;rw [Yct] at so;refine JL (K:=K) (a:=sl) (xs:=B.map λz=>V.ref z.1) (λi σ H'=>∃(L:List (Addr×List Int))(v2:Option V),σ=[some (.ref l),some (.ref fo),v2]/\(∀b o,b≠fo->H2 b=some o->H' b=some o)/\H' fo=some (.lst (L.map λz=>V.ref z.1))/\(∀z∈L,z∈B.take i)/\(L.map (·.2)).Pairwise (λa b=>JC a b=true)/\(∀z∈B.take i,z.2∈L.map (·.2))/\L.length<=i)
   ⟨[],none,rfl,λ_ _ _ e=>e,ag,λz O=>(by cases O),List.Pairwise.nil,λz O=>(by rw [List.take_zero] at O;cases O),Yad _⟩ (by rintro i σ H' _ ⟨_,_,_,k,_⟩;exact SqL.of (k _ _ (Ne.symm am) es)) ?_ ?_
  ·rintro i x σ H3 ai ⟨L,v2,rfl,k3,e3,h1,h2,h3,h4⟩;rw [Ybb] at ai;obtain ⟨z,O,rfl⟩:=Ybk.mp ai;obtain ⟨hi,an⟩:=Yaj.mp O;have tk:B.take (i+1)=B.take i++[z]:=by rw [Ybu,O];rfl
   have aj:z∈B:=Yat O;have ez:=k3 _ _ (ah z aj) (ac z aj);have aw:i<1000:=by have:=pm.length_eq;lia
   have lw:Lz H3 L:=λu D=>let hm:=Yej (h1 u D);k3 _ _ (ah u hm) (ac u hm);have grow:∀H4:Hp,Same H3 H4->(∀u∈L,JC u.2 z.2=true)->∃(Z:List (Addr×List Int))(v2:Option V),[some (V.ref l),some (.ref fo),some (.ref z.1)]=[some (V.ref l),some (.ref fo),v2]/\(∀b o,b≠fo->H2 b=some o->upd H4 fo (.lst ((L.map λz=>V.ref z.1)++[.ref z.1])) b=some o)/\upd H4 fo (.lst ((L.map λz=>V.ref z.1)++[.ref z.1])) fo=some (.lst (Z.map λz=>V.ref z.1))/\(∀u∈Z,u∈B.take (i+1))/\(Z.map (·.2)).Pairwise (λa b=>JC a b=true)/\(∀u∈B.take (i+1),u.2∈Z.map (·.2))/\Z.length<=i+1:=λH4 s4 ao=>by
    refine ⟨L++[z],_,rfl,λb o hb e=>Gi (s4 _ _ (k3 b o hb e)) hb,by rw [Gb,Yak];rfl,λu D=>?_,?_,λu D=>?_,by rw [Yae,Yap];lia⟩
    ·rw [tk];rcases Yag.mp D with h | h
     ·exact Yci _ (h1 u h)
     ·exact Ybs _ h
    ·rw [Yak,Ybr];refine ⟨h2,by simp,λa ha b hb=>?_⟩;obtain ⟨u,D,rfl⟩:=Yam.mp ha;rw [Yai.mp hb];exact ao u D
    ·rw [Yak];rw [tk] at D;rcases Yag.mp D with h | h
     ·exact Yci _ (h3 u h)
     ·exact Ybs _ (by rw [Yai.mp h];simp)
   dsimp only [GW];refine ⟨_,rfl,Yao _,λe he=>?_⟩;have Y:Same H3 (upd H3 e (.lst [])):=Same.new he;have ax:fo≠e:=Gf e3 he;refine ⟨.list (Ud (L.map (·.2))),.list (Ud []),.lst (SqL.of (Y _ _ e3)) (UJ (lw.same Y)),.lst (SqL.of Gb) .nil,WG _,WG _,_,rfl,?_⟩;rw [Zgw];have ak:(L.map λz=>V.ref z.1).length<sizeLine:=by rw [Yab];lia
   refine O7 (λc1=>?_) (λc1=>?_)
   ·have hw:L=[]:=by
     by_cases hw:L=[]
     ·exact hw
     ·simp [hw] at c1
    refine OW ?_;refine ⟨_,rfl,.inl ⟨rfl,_,SqL.of (Y _ _ e3)⟩,_,rfl,fo,_,_,rfl,rfl,Y _ _ e3,ak,?_⟩;exact grow _ Y (λu D=>by rw [hw] at D;cases D)
   ·have hw:L≠[]:=λhw=>c1 (by simp [hw]);obtain ⟨us,U,ew⟩:∃us U,L=us++[U]:=⟨_,_,(List.dropLast_concat_getLast hw).symm⟩;have ad:U∈L:=by rw [ew];simp
    have ap:∀u∈L,JC z.2 u.2=false:=λu D=>by
     have hm:=h1 u D;obtain ⟨j,hj,ej⟩:=List.mem_take_iff_getElem.mp hm;have:=Ydf.mp so j i (by lia) hi (by lia);rw [ej,an] at this;exact this
    refine ⟨_,rfl,_,rfl,fo,_,_,.ref U.1,rfl,rfl,SqL.of (Y _ _ e3),?_,_,rfl,.list (U.2.map PyData.int),.list (z.2.map PyData.int),.lst (SqL.of (Y _ _ (lw U ad))) (G3 _),.lst (SqL.of (Y _ _ ez)) (G3 _),G6 _,G6 _,_,rfl,?_⟩
    ·rw [ew,Yak];exact Zdo _ _
    rw [OA];refine O7 (λc2=>?_) (λc2=>?_)
    ·have aq:U.2≠z.2:=λe=>by rw [e] at c2;simp at c2
     have ab:JC U.2 z.2=true:=by
      cases hb:JC U.2 z.2 with
      | true=>rfl
      | false=>exact absurd (VJ hb (ap U ad)) aq
     refine ⟨_,rfl,.inl ⟨rfl,_,SqL.of (Y _ _ e3)⟩,_,rfl,fo,_,_,rfl,rfl,Y _ _ e3,ak,?_⟩;refine grow _ Y (λu D=>?_);rw [ew] at D;rcases Yag.mp D with h | h
     ·rw [ew,Yak,Ybr] at h2;exact VI (h2.2.2 u.2 (Yam.mpr ⟨u,h,rfl⟩) U.2 (by simp)) ab
     ·rw [Yai.mp h];exact ab
    ·have ar:U.2=z.2:=by
      by_cases e:U.2=z.2
      ·exact e
      ·exact absurd (by simp [e]) c2
     refine ⟨L,_,rfl,λb o hb e=>Y _ _ (k3 b o hb e),Y _ _ e3,λu D=>?_,h2,λu D=>?_,by lia⟩
     ·rw [tk];exact Yci _ (h1 u D)
     ·rw [tk] at D;rcases Yag.mp D with h | h
      ·exact h3 u h
      ·rw [Yai.mp h,<-ar];exact Yam.mpr ⟨U,ad,rfl⟩
  ·rintro σ H3 ⟨L,v2,rfl,k3,e3,h1,h2,h3,h4⟩;rw [Yab,Ybn] at h1 h3;rw [Yab,pm.length_eq] at h4;exact ⟨_,rfl,q fo L H3 (λb o e=>k3 b o (Gf e aa) (S2 b o e)) aa e3 (λz O=>pm.mem_iff.mp (h1 z O)) h2 (λz O=>h3 z (pm.mem_iff.mpr O)) h4⟩
end
structure Fm (H0 H:Hp)(d:Addr)(c:Nat)(rs:List Int)(fo:Addr)(zs:List (Addr×List Int)):Prop where
 p:∃c,Pool H0 d c
 k:Pk H0 H d c
 f:H0 fo=none
 e:H fo=some (.lst (zs.map λz=>V.ref z.1))
 l:Lz H zs
 n:∀z∈zs,H0 z.1=none/\z.1≠fo
 s:∀z∈zs,Sok rs z.2
section
variable {H0 H H':Hp}{d fo l:Addr}{c c':Nat}{rs ss:List Int}{zs:List (Addr×List Int)}
theorem Fm.nd (F:Fm H0 H d c rs fo zs):fo≠d:=by
 obtain ⟨c,p⟩:=F.p;exact Ne.symm (p.ne F.f)
theorem Fm.nz (F:Fm H0 H d c rs fo zs):∀z∈zs,z.1≠d:=λz j=>by
 obtain ⟨c,p⟩:=F.p;exact Ne.symm (p.ne (F.n z j).1)
theorem Fm.go (F:Fm H0 H d c rs fo zs)(k:Pk H H' d c'):Fm H0 H' d c' rs fo zs:=
 ⟨F.p,F.k.trans k,F.f,k.keep _ _ F.nd F.e,λz j=>k.keep _ _ (F.nz z j) (F.l z j),F.n,F.s⟩
theorem Fm.add (F:Fm H0 H d c rs fo zs)(k:Pk H H' d c')(D:H l=none)(L:H' l=some (.lst (ss.map V.int)))(O:Sok rs ss):Fm H0 (upd H' fo (.lst ((zs.map λz=>V.ref z.1)++[.ref l]))) d c' rs fo (zs++[(l,ss)]):=by
 have G:=F.go k;have j:l≠fo:=λz=>by rw [z,F.e] at D;cases D
 refine ⟨F.p,G.k.put F.f (Ne.symm F.nd),F.f,by rw [Gb,Yak];rfl,λz B=>?_,λz B=>?_,λz B=>?_⟩
 ·rcases Yag.mp B with h | h
  ·exact Gi (G.l z h) (F.n z h).2
  ·rw [Yai.mp h];exact Gi L j
 ·rcases Yag.mp B with h | h
  ·exact F.n z h
  ·rw [Yai.mp h];exact ⟨F.k.free D,j⟩
 ·rcases Yag.mp B with h | h
  ·exact F.s z h
  ·rw [Yai.mp h];exact O
end
theorem ZbB {rs:List Int}(h:Rds rs){i:Nat}{x:Int}(D:rs[i]?=some x){s:List Int}(j:Sok (rs.take i) s):Sok (rs.take (i+1)) (s++[x]):=by
 have tk:rs.take (i+1)=rs.take i++[x]:=by rw [Ybu,D];rfl
 have B:=h.1.sublist (List.take_sublist (i+1) rs);rw [tk,Ybr] at B;refine ⟨Ybr.mpr ⟨j.1,by simp,λa ha b L=>B.2.2 a (j.2 a ha) b L⟩,λy O=>?_⟩;rw [tk];rcases Yag.mp O with h | h
 ·exact Yci _ (j.2 y h)
 ·exact Ybs _ h
theorem Sok.mono {rs j s:List Int}(h:Sok rs s)(B:∀x∈rs,x∈j):Sok j s:=⟨h.1,λx D=>B x (h.2 x D)⟩
section
variable {P:Program}{w:World}{K:W.Frag}{mg:Str->Option Value}{base:Heap}
noncomputable def Ze8:Sp:=λvs H Q _=>∃(d j:Addr)(c:Nat)(rs:List Int),vs=[.ref d,.ref j]/\Pool H d c/\c<800000/\j≠d/\H j=some (.lst (rs.map V.int))/\Rds rs /\
 ∀(l:Addr)(ws:List (Addr×List Int))(H':Hp),Pk H H' d (c+300)->H l=none->H' l=some (.lst (ws.map λz=>V.ref z.1))->Lz H' ws->(∀z∈ws,H z.1=none)->(∀z∈ws,Sok rs z.2)->(ws.map (·.2)).Pairwise (λa b=>JC a b=true)->ws.length<=40->Q (.ref l) H'
theorem scFam:Gs ["pool", "roads", "kind", "found", "road", "turn"] ["pool", "roads"] (Gh ZfC):=⟨rfl,rfl,rfl,by decide +kernel,rfl,by decide +kernel,by decide +kernel⟩
theorem Ze9 {f fT fS fU fO:Addr}{fd am an ao ap:FuncData}(F:Fun K "_law_family" "_law_family" ZfC f fd)(FT:Fun K "_law_take" "_law_take" Zbo fT am)(bT:Binds K am ["pool", "many"] [])(mT:mg "_law_take" = some (.ref fT))(FS:Fun K "_law_set" "_law_set" Zez fS an)(bS:Binds K an ["pool", "roads"] [])(mS:mg "_law_set" = some (.ref fS))(FU:Fun K "_law_turned" "_law_turned" ZeA fU ao)(bU:Binds K ao ["pool", "one", "roads"] [])(mU:mg "_law_turned" = some (.ref fU))(FO:Fun K "_law_once" "_law_once" ZdE fO ap)(bO:Binds K ap ["sets"] [])(mO:mg "_law_once" = some (.ref fO))(ac:mg "range" = none)(af:mg "len" = none)(aw:mg "int" = none)(ag:mg "sorted" = none):FnOk P w K mg base CX0 3 f fd ["pool", "roads"] Ze8:=by
 have GT:FnOk P w K mg base CX0 1 fT am ["pool", "many"] Xa:=Vj FT;have GS:FnOk P w K mg base CX0 2 fS an ["pool", "roads"] Zdm:=Zb7 FS FT bT mT;have GU:FnOk P w K mg base CX0 2 fU ao ["pool", "one", "roads"] Zdn:=Zb8 FU FT bT mT af aw ag;have GO:FnOk P w K mg base CX0 1 fO ap ["sets"] ZbA:=Zai FO ag;refine F.ok scFam (λvs H Q E h=>?_) (λaP A outer s H vs Q E hr h=>?_)
 ·obtain ⟨_,_,_,_,rfl,_⟩:=h
  rfl
 ·obtain ⟨d,rl,c,rs,rfl,hP,hc,aa,er,ad,q⟩:=h;have aQ:=Ybi.symm;have ax:=ad.2.2.2;refine ⟨_,Ge (Gp (i:=2) scFam.nd rfl (Or.inl rfl) (Gk GT (hr.mono (by decide)) rfl mT FT.kp bT .nil Gv (Ga (pv 0) (Ga Gg Gc))))
    (Ge (Jl (Gr Ox (pv 2) Gg (GA _)) (Gj (Gx (GE Za (Gy (Ga (Gy Gc) Gc)) (Gk GT (hr.mono (by decide)) rfl mT FT.kp bT .nil Gv (Ga (pv 0) (Ga Gg Gc)))))) GC)
    (Ge (Gp (i:=3) scFam.nd rfl (Or.inl rfl) (Gy Gc))
    (Ge (Jl (Gr Ox (pv 2) Gg (GA _)) (Ge (Gp (i:=3) scFam.nd rfl (Or.inl rfl) (Gy (Ga (Gy Gc) Gc)))
    (Gj (JE Yck rfl (Jz K (J8 (kSl K) (pv 1) OU (OV (GE Jv Gg (Gk GT (hr.mono (by decide)) rfl mT FT.kp bT .nil Gv (Ga (pv 0) (Ga Gg Gc))))))) (Go (i:=4) scFam.nd rfl (Or.inr rfl))
    (Gj (Gp (i:=3) scFam.nd rfl (Or.inl rfl) (GE Uv (pv 3) (Jo (own:=["one"]) rfl (Gq (fr:=[("road", 4)]) [(".0", .local),("one", .local),("road", .cell)] rfl rfl (by decide +kernel) rfl (by decide +kernel) ⟨rfl,trivial⟩ ⟨λh=>G7 h,λh=>G7 h,λ_=>⟨_,rfl⟩,trivial⟩ ⟨⟨rfl,.inl rfl,.inl rfl⟩,trivial⟩) (Jz K (pv 3)) (λ_ _ _ _=>Go (i:=0) (show List.Nodup (["one", "road"]:List Str) by decide +kernel) rfl (Or.inl rfl)) (λ_ _ _ _=>Oz) (λ_ _ _ _=>GE Uv (pv 0) (Gy (Ga (pv 1) Gc)))))))))) GC)
    (Ge (JE Yck rfl (J0 rfl ac (Ga (GE Jv Gg (GD (On K) (Gy (Ga (Gk GT (hr.mono (by decide)) rfl mT FT.kp bT .nil Gv (Ga (pv 0) (Ga Gg Gc))) (Ga (Gk GT (hr.mono (by decide)) rfl mT FT.kp bT .nil Gv (Ga (pv 0) (Ga Gg Gc))) Gc))) (Gk GT (hr.mono (by decide)) rfl mT FT.kp bT .nil Gv (Ga (pv 0) (Ga Gg Gc))) (λ_ _=>rfl))) Gc)) (Go (i:=5) scFam.nd rfl (Or.inl rfl))
    (Ge (Jc (Oq Yce Ycp Ycq GQ (pv 3) (Ga (Gk GS (hr.mono (by decide)) rfl mS FS.kp bS .nil Gv (Ga (pv 0) (Ga (pv 1) Gc))) Gc)))
    (Gj (Jl (Gr Ox (Gk GT (hr.mono (by decide)) rfl mT FT.kp bT .nil Gv (Ga (pv 0) (Ga Gg Gc))) Gg (GA _)) (Gj (Jc (Oq Yce Ycp Ycq GQ (pv 3) (Ga (Gk GU (hr.mono (by decide)) rfl mU FU.kp bU .nil Gv (Ga (pv 0) (Ga (GD (On K) (pv 3) (Gk GT (hr.mono (by decide)) rfl mT FT.kp bT .nil Gv (Ga (pv 0) (Ga (Gu (YI K) rfl af Ycu (Ga (pv 3) Gc)) Gc))) (λ_ _=>rfl)) (Ga (pv 1) Gc)))) Gc)))) GC))))
    (Gj (Gx (Gk GO (hr.mono (by decide)) rfl mO FO.kp bO .nil Gv (Ga (pv 3) Gc)))))))),?_⟩
  refine ⟨_,rfl,d,c,10,rfl,hP,by lia,by decide,GX,λkd H1 a1 b1 k1=>?_⟩;refine ⟨_,rfl,rfl,_,rfl,O7 (λc1=>?_) (λc1=>?_)⟩
  ·refine ⟨Yao _,λe he=>⟨(by show 1<=sizeLine;decide),λp hp=>?_⟩⟩;have s2:Same H1 (upd (upd H1 e (.lst [])) p (.lst [.ref e])):=(Same.new he).put ((Same.new he).free hp);have aE:e≠p:=Gf Gb hp;have aq:=Ne.symm ((k1.grow (Same.new (o:=.lst []) he)).at_.ne hp);have aF:=Ne.symm (k1.at_.ne he);refine ⟨_,rfl,d,c+1,2,rfl,k1.at_.same s2,by lia,by decide,GX,λr H2 a2 b2 k2=>?_⟩;have ep:=k2.keep _ _ aq Gb;have ee:=k2.keep _ _ aF (Gi (o:=.lst [.ref e]) (Gb (H:=H1) (a:=e) (o:=.lst [])) aE);refine ⟨p,r,_,rfl,rfl,ep,by lia,by lia,(by simp;lia),λl hl=>?_⟩;have K2:=(k1.grow s2).trans k2;have s3:Same H2 (upd H2 l (.lst (List.replicate r.toNat [V.ref e]).flatten)):=Same.new hl;have ah:r=0\/r=1:=by lia
   refine q l (List.replicate r.toNat (e,[])) _ ((K2.grow s3).mono (by lia)) (K2.free hl) ?_ (λz B=>?_) (λz B=>?_) (λz B=>?_) ?_ ?_
   ·rw [Gb];rcases ah with rfl | rfl <;> rfl
   ·rw [(List.mem_replicate.mp B).2];exact s3 _ _ ee
   ·rw [(List.mem_replicate.mp B).2];exact k1.free he
   ·rw [(List.mem_replicate.mp B).2];exact ⟨List.Pairwise.nil,λx hx=>by cases hx⟩
   ·rcases ah with rfl | rfl <;> simp
   ·rw [List.length_replicate]
    lia
  ·dsimp only [JZ];refine ⟨Yao _,λfo ar=>?_⟩;have F1:Fm H (upd H1 fo (.lst [])) d (c+1) rs fo []:=⟨⟨c,hP⟩,k1.new ar,k1.free ar,Gb,λz B=>(by cases B),λz B=>(by cases B),λz B=>(by cases B)⟩;generalize upd H1 fo (.lst [])=H2 at F1 ⊢;dsimp only [GW];refine Gw (λσ' H'=>∃(fo:Addr)(zs:List (Addr×List Int))(v4:Option V),σ'=[some (.ref d),some (.ref rl),some (.int kd),some (.ref fo),v4,none]/\Fm H H' d (c+2) rs fo zs/\zs.length<=16) ?s0 ?f0
   case f0=>
    intro hk;refine ⟨_,rfl,rfl,_,rfl,O7 (λc2=>?_) (λc2=>?_)⟩
    ·refine ⟨Yao _,λe he=>⟨(by show 1<=sizeLine;decide),λf1 as=>?_⟩⟩;have s2:Same H2 (upd (upd H2 e (.lst [])) f1 (.lst [.ref e])):=(Same.new he).put ((Same.new he).free as);have ay:e≠f1:=Gf Gb as;have G1:Fm H (upd (upd H2 e (.lst [])) f1 (.lst [.ref e])) d (c+1) (rs.take 0) f1 [(e,[])]:=by
      refine ⟨⟨c,hP⟩,F1.k.grow s2,F1.k.free ((Same.new he).free as),Gb,λz B=>?_,λz B=>?_,λz B=>?_⟩
      ·rw [Yai.mp B];exact Gi Gb ay
      ·rw [Yai.mp B];exact ⟨F1.k.free he,ay⟩
      ·rw [Yai.mp B];exact ⟨List.Pairwise.nil,λx hx=>by cases hx⟩
     generalize upd (upd H2 e (.lst [])) f1 (.lst [.ref e])=H3 at G1 ⊢;dsimp only [GW];refine ⟨_,rfl,_,rfl,d,c+1,4,rfl,G1.k.at_,by lia,by decide,GX,λr H4 a4 b4 k4=>?_⟩;have G4:=G1.go k4;have aG:=G4.k.keep _ _ aa er;refine ⟨_,_,rfl,rfl,_,rfl,rl,_,rfl,SqL.of aG,λsl az=>⟨sl,rfl,⟨_,SqL.of Gb⟩,?_⟩⟩;have a3:Xi (rs.map V.int) none (some (1+r))=(rs.take (1+r).toNat).map V.int:=by
      rw [show (1+r)=(((1+r).toNat:Nat):Int) by lia,ZbP,List.map_take]
      rfl
     rw [a3];have s5:Same H4 (upd H4 sl (.lst ((rs.take (1+r).toNat).map V.int))):=Same.new az;have au:upd H4 sl (.lst ((rs.take (1+r).toNat).map V.int)) sl=some (.lst ((rs.take (1+r).toNat).map V.int)):=Gb;have aR:=Ne.symm (k4.at_.ne az);have G5:=G4.go ((Pk.start G4.k.at_).grow s5);generalize upd H4 sl (.lst ((rs.take (1+r).toNat).map V.int))=H5 at s5 au G5 ⊢;have aH:(1+r).toNat<=4:=by lia
     generalize (1+r).toNat=n at au aH ⊢;refine JL (K:=K) (a:=sl) (xs:=(rs.take n).map V.int) (λi σ H'=>∃(fo:Addr)(zs:List (Addr×List Int))(v4:Option V),σ=[some (.ref d),some (.ref rl),some (.int kd),some (.ref fo),v4,none]/\Fm H H' d (c+2) (rs.take i) fo zs/\zs.length=2 ^ i/\H' sl=some (.lst ((rs.take n).map V.int)))
      ⟨f1,[(e,[])],none,rfl,G5,rfl,au⟩ (by rintro i σ H' _ ⟨_,_,_,_,_,_,e⟩;exact SqL.of e) ?_ ?_
     ·rintro i x σ H6 aI ⟨fo,zs,v4,rfl,L,U,ai⟩;obtain ⟨x,rfl,hx⟩:=JR aI;have aJ:i<n:=by
       have:=(Yaj.mp hx).1;rw [Yba] at this
       lia
      rw [List.getElem?_take_of_lt aJ] at hx;have aK:2 ^ i<=8:=Nat.pow_le_pow_right (n:=2) (j:=3) (by decide) (show i<=3 by lia);dsimp only [GW];refine ⟨_,rfl,_,rfl,fo,rfl,⟨_,SqL.of L.e⟩,λD hD=>?_⟩;refine GL (K:=K) (a:=fo) (xs:=zs.map λz=>V.ref z.1) (λj ys H'=>∃us:List (Addr×List Int),ys=(us.map λz=>V.ref z.1)/\Same H6 H'/\H' D=some (.lst ys)/\Lz H' us/\(∀u∈us,H6 u.1=none/\u.1≠D)/\(∀u∈us,Sok (rs.take (i+1)) u.2)/\us.length=j)
       ⟨[],rfl,Same.new hD,Gb,λz B=>(by cases B),λz B=>(by cases B),λz B=>(by cases B),rfl⟩ (by rintro j ys H' _ ⟨_,_,s,_⟩;exact SqL.of (s _ _ L.e)) ?_ ?_
      ·rintro j y ys H7 a7 ⟨us,rfl,s7,eD,lu,nu,su,ae⟩;rw [Ybb] at a7;obtain ⟨z,B,rfl⟩:=Ybk.mp a7;have Y:z∈zs:=Yat B;have hj:j<zs.length:=(Yaj.mp B).1;refine ⟨⟨rfl,trivial⟩,?_⟩;unfold ZdA;refine OW ?_;refine ⟨_,rfl,_,rfl,(by show 1<=sizeLine;decide),λp hp=>?_⟩;have s8:Same H7 (upd H7 p (.lst [.int x])):=Same.new hp;have a8:=(L.s z Y).len;rw [Yba] at a8;refine ⟨z.1,p,_,_,rfl,rfl,s8 _ _ (s7 _ _ (L.l z Y)),Gb,(by rw [Yab,Yap];lia),λp2 aA=>?_⟩;have s9:=s8.put (o:=.lst (z.2.map V.int++[V.int x])) (s8.free aA);have aB:upd (upd H7 p (.lst [.int x])) p2 (.lst (z.2.map V.int++[V.int x])) p2=some (.lst ((z.2++[x]).map V.int)):=by rw [Gb,Yak];rfl
       generalize upd (upd H7 p (.lst [.int x])) p2 (.lst (z.2.map V.int++[V.int x]))=H8 at s9 aB ⊢;have aj:H7 p2=none:=s8.free aA;have ak:D≠p2:=Gf eD aj;refine ⟨s9 _ _ eD,(by rw [Yab];lia),us++[(p2,z.2++[x])],by rw [Yak];rfl,(s7.trans s9).put hD,Gb,λu hu=>?_,λu hu=>?_,λu hu=>?_,by rw [Yae,Yap,ae]⟩
       ·rcases Yag.mp hu with h | h
        ·exact Gi (s9 _ _ (lu u h)) (nu u h).2
        ·rw [Yai.mp h];exact Gi aB (Ne.symm ak)
       ·rcases Yag.mp hu with h | h
        ·exact nu u h
        ·rw [Yai.mp h];exact ⟨s7.free aj,Ne.symm ak⟩
       ·rcases Yag.mp hu with h | h
        ·exact su u h
        ·rw [Yai.mp h];exact ZbB ad hx (L.s z Y)
      ·rintro ys H7 ⟨us,rfl,s7,eD,lu,nu,su,ae⟩;rw [Yab] at ae;refine ⟨fo,D,_,_,rfl,rfl,s7 _ _ L.e,eD,(by rw [Yab,Yab];lia),λf2 ab=>?_⟩;have s8:=s7.put (o:=.lst ((zs.map λz=>V.ref z.1)++us.map λz=>V.ref z.1)) (s7.free ab);refine ⟨f2,zs++us,_,rfl,⟨⟨c,hP⟩,L.k.grow s8,L.k.free (s7.free ab),by rw [Gb,Yak],λz B=>?_,λz B=>?_,λz B=>?_⟩,by rw [Yae,ae,U,Nat.pow_succ];lia,s8 _ _ ai⟩
       ·rcases Yag.mp B with h | h
        ·exact s8 _ _ (L.l z h)
        ·exact Gi (lu z h) (Gf (lu z h) ab)
       ·rcases Yag.mp B with h | h
        ·exact ⟨(L.n z h).1,Gf (s7 _ _ (L.l z h)) ab⟩
        ·exact ⟨L.k.free (nu z h).1,Gf (lu z h) ab⟩
       ·rcases Yag.mp B with h | h
        ·exact (L.s z h).mono λx hx=>List.take_subset_take_left _ (Ydd i) hx
        ·exact su z h
     ·rintro σ H6 ⟨fo,zs,v4,rfl,L,U,ai⟩;have aK:2 ^ ((rs.take n).map V.int).length<=16:=Nat.pow_le_pow_right (n:=2) (j:=4) (by decide) (by rw [Yab,Yba];lia);exact hk _ _ ⟨fo,zs,v4,rfl,⟨L.p,L.k,L.f,L.e,L.l,L.n,λz B=>(L.s z B).mono λx hx=>Yej hx⟩,by lia⟩
    ·exact hk _ _ ⟨fo,[],none,rfl,F1.go ((Pk.start F1.k.at_).mono (by lia)),Yao _⟩
   clear F1 ar;rintro σ' H3 ⟨fo,zs,v4,rfl,F3,U⟩;refine ⟨_,rfl,d,c+2,6,rfl,F3.k.at_,by lia,by decide,GX,λr1 H4 a4 b4 k4=>?_⟩;refine ⟨_,rfl,d,c+3,12,rfl,k4.at_,by lia,by decide,GX,λr2 H5 a5 b5 k5=>?_⟩;refine ⟨(by show 2<=sizeLine;decide),λp hp=>?_⟩;have aq:=Ne.symm (k5.at_.ne hp);refine ⟨_,rfl,d,c+4,2,rfl,k5.at_.same (Same.new hp),by lia,by decide,GX,λr3 H6 a6 b6 k6=>?_⟩;obtain ⟨x,hx,ex⟩:=XR (xs:=[r1,r2]) a6 b6;have x0:0<=x/\x<12:=by
    simp at hx
    lia
   refine ⟨p,_,_,_,rfl,rfl,SqL.of (k6.keep _ _ aq Gb),ex,_,_,rfl,rfl,_,rfl,by lia,by lia,?_⟩;have L:Fm H H6 d (c+5) rs fo zs:=F3.go (((k4.trans k5).new hp).trans k6);refine Ow (lo:=0) (λi σ H'=>∃(zs:List (Addr×List Int))(v5:Option V),σ=[some (.ref d),some (.ref rl),some (.int kd),some (.ref fo),v4,v5]/\Fm H H' d (c+5+16 * i) rs fo zs/\zs.length<=16+2 * i) ⟨zs,none,rfl,L,by lia⟩ ?_ ?_
   ·clear L F3 U zs;rintro i σ H7 hi ⟨zs,v5,rfl,Z,U⟩;have hi':i<12:=by lia
    have aC:=Z.k.keep _ _ aa er;dsimp only [GW];refine Gw (λσ' H'=>∃(zs:List (Addr×List Int)),σ'=[some (.ref d),some (.ref rl),some (.int kd),some (.ref fo),v4,some (.int (0+(i:Int)))]/\Fm H H' d (c+5+16 * i+13) rs fo zs/\zs.length<=16+2 * i+1/\zs≠[]) ?s1 ?f1
    case f1=>
     intro hk;refine ⟨_,rfl,.inl ⟨rfl,_,SqL.of Z.e⟩,_,rfl,_,rfl,d,rl,c+5+16 * i,rs,rfl,Z.k.at_,by lia,aa,aC,ax,λl ss H8 k8 hl el sb=>?_⟩;refine ⟨fo,_,_,rfl,rfl,k8.keep _ _ Z.nd Z.e,(by rw [Yab];lia),?_⟩;exact hk _ _ ⟨_,rfl,Z.add k8 hl el (Sok.sub ad sb),by rw [Yae,Yap];lia,by simp⟩
    clear Z aC U zs;rintro σ' H8 ⟨zs,rfl,F8,U,aL⟩;have aS:0<zs.length:=List.length_pos_iff.mpr aL;refine ⟨_,rfl,d,c+5+16 * i+13,3,rfl,F8.k.at_,by lia,by decide,GX,λr H9 a9 b9 k9=>⟨rfl,_,rfl,O7 (λc2=>?_) (λc2=>?_)⟩⟩
    ·have F9:=F8.go k9;refine ⟨_,rfl,.inl ⟨rfl,_,SqL.of F9.e⟩,_,rfl,_,rfl,_,rfl,_,rfl,fo,_,rfl,.inl (SqL.of F9.e),d,c+5+16 * i+14,_,rfl,F9.k.at_,by lia,by rw [Yab];lia,Lt2.mono (p:=6) (by rw [Yab];show (zs.length:Int).natAbs<2 ^ 6;lia) (by decide),λr' aT aM aN aO=>?_⟩;have O:=F9.go aO;rw [Yab] at aN;obtain ⟨kk,rfl⟩:=Int.eq_ofNat_of_zero_le aM;have aD:kk<zs.length:=by lia
     have Y:zs[kk]∈zs:=List.getElem_mem aD;refine ⟨fo,_,_,.ref zs[kk].1,rfl,rfl,SqL.of O.e,Gm (j:=kk) (by rw [Ybb,Yaz aD];rfl),_,rfl,d,zs[kk].1,rl,c+5+16 * i+15,zs[kk].2,rs,rfl,O.k.at_,by lia,O.nz _ Y,aa,O.l _ Y,O.k.keep _ _ aa er,ad,O.s _ Y,λl ss aU av hl el so=>?_⟩;refine ⟨fo,_,_,rfl,rfl,av.keep _ _ O.nd O.e,(by rw [Yab];lia),?_⟩;exact ⟨_,_,rfl,(O.add av hl el so).go ((Pk.start (O.add av hl el so).k.at_).mono (by lia)),by rw [Yae,Yap];lia⟩
    ·exact ⟨zs,_,rfl,F8.go (k9.mono (by lia)),by lia⟩
   ·rintro σ H7 ⟨zs,v5,rfl,Z,U⟩;refine ⟨_,rfl,fo,zs,rfl,Z.e,Z.l,by lia,λa ws H8 s8 ha ea sub so al ln=>?_⟩;exact q a ws H8 ((Z.k.grow s8).mono (by lia)) (Z.k.free ha) ea (λz B=>s8 _ _ (Z.l z (sub z B))) (λz B=>(Z.n z (sub z B)).1) (λz B=>Z.s z (sub z B)) so (by lia)
end
section
variable {ks vs:List Tri}{ru:Bool->Bool->Bool}
theorem ZbC {n lo:Int}(a:At ks n lo):(rdN ks n=[]/\(n=0\/n=1))\/∃q,rdN ks n=[q.1]/\Nd ks n q/\lo<q.1:=by
 rcases a with h | h | ⟨q,h,g⟩
 ·exact .inl ⟨ON (.inl h),.inl h⟩
 ·exact .inl ⟨ON (.inr h),.inr h⟩
 ·exact .inr ⟨q,XO h,h,g⟩
theorem XV {n:Int}(T:TabOk ks)(h:DomN ks n):At ks n (-1):=h.imp id (Or.imp id λ⟨r,e⟩=>⟨r,e,by have:=(T.nd e).1.1;lia⟩)
theorem OO (T:TabOk ks){n lo r:Int}(a:At ks n lo)(h:∀x∈rdN ks n,r<=x):At ks (loP ks n r) r/\At ks (hiP ks n r) r:=by
 by_cases z:rdN ks n=[r]
 ·rcases ZbC a with ⟨e,_⟩ | ⟨q,e,j,_⟩
  ·rw [e] at z;cases z
  ·rw [e] at z;injection z with z _
   subst z;rw [WC j,WD j];exact (T.nd j).2
 ·rw [Vh z,XQ z];refine ⟨?_,.inl rfl⟩;rcases ZbC a with ⟨_,e⟩ | ⟨q,e,j,_⟩
  ·exact e.imp id .inl
  ·refine .inr (.inr ⟨q,j,?_⟩);have h1:=h q.1 (by rw [e];simp);have h2:q.1≠r:=λy=>z (by rw [e,y])
   lia
theorem XW (T:TabOk ks){n:Int}{s:List Int}(h:Has ks n s):∀{lo:Int},At ks n lo->∀y t,s=y::t->lo<y:=by
 induction h with
 | one=>intro lo _ y t e;cases e
 | low nd _ ih=>
  intro lo a y t e;obtain ⟨r',j,g⟩:=a.nd (by have:=nd.1;lia);rw [j.one nd] at g;exact Int.lt_trans g (ih (T.nd nd).2.1 y t e)
 | high nd _ _=>
  intro lo a y t e;obtain ⟨r',j,g⟩:=a.nd (by have:=nd.1;lia);rw [j.one nd] at g;cases e;exact g
theorem XX {n r:Int}{s:List Int}(h:Has ks (loP ks n r) s):Has ks n s:=by
 by_cases z:rdN ks n=[r]
 ·rcases Jn ks n with e | ⟨q,e,j⟩
  ·rw [e] at z;cases z
  ·rw [e] at z;injection z with z _
   subst z;rw [WC j] at h;exact .low j h
 ·rw [Vh z] at h;exact h
theorem XY {n r:Int}{s:List Int}(h:Has ks (hiP ks n r) s):Has ks n (r::s):=by
 by_cases z:rdN ks n=[r]
 ·rcases Jn ks n with e | ⟨q,e,j⟩
  ·rw [e] at z;cases z
  ·rw [e] at z;injection z with z _
   subst z;rw [WD j] at h;exact .high j h
 ·rw [XQ z] at h;exact absurd h Has.zero
theorem Zca {n r:Int}{s:List Int}(h:Has ks n s)(B:∀t,s≠r::t):Has ks (loP ks n r) s:=by
 by_cases z:rdN ks n=[r]
 ·rcases Jn ks n with e | ⟨q,e,j⟩
  ·rw [e] at z;cases z
  ·rw [e] at z;injection z with z _
   subst z;rw [WC j];cases h with
   | one=>have:=j.1;lia
   | low nd h=>rw [nd.one j] at h;exact h
   | high nd h=>rw [nd.one j] at B;exact absurd rfl (B _)
 ·rw [Vh z];exact h
theorem Zcb (T:TabOk ks){n lo r:Int}{t:List Int}(a:At ks n lo)(B:∀x∈rdN ks n,r<=x)(h:Has ks n (r::t)):Has ks (hiP ks n r) t:=by
 have g:=OO T a B;by_cases z:rdN ks n=[r]
 ·rcases Jn ks n with e | ⟨q,e,j⟩
  ·rw [e] at z;cases z
  ·rw [e] at z;injection z with z _
   subst z;rw [WD j];generalize hs:q.1::t=s at h;cases h with
   | one=>cases hs
   | low nd h=>
    rw [nd.one j] at h;have:=XW T h (T.nd j).2.1 _ _ hs.symm
    lia
   | high nd h=>
    rw [nd.one j] at h hs;injection hs with _ hs
    rw [hs];exact h
 ·rw [Vh z] at g;have:=XW T h g.1 _ _ rfl
  lia
theorem Zcc {rs:List Int}(h:rs≠[])(B:rs.length<=2):mnJ rs∈rs/\∀x∈rs,mnJ rs<=x:=by
 match rs,h,B with
 | [x],_,_=>exact ⟨Yai.mpr rfl,λy D=>by rw [Yai.mp D];exact Int.le_refl _⟩
 | [x,y],_,_=>
  show (if x<=y then x else y)∈_/\∀z∈_,(if x<=y then x else y)<=z;by_cases q:x<=y
  ·rw [if_pos q];exact ⟨by simp,λz j=>by simp at j;lia⟩
  ·rw [if_neg q];exact ⟨by simp,λz j=>by simp at j;lia⟩
theorem Zcd (m n:Int):(rdN ks m++rdN vs n).length<=2:=by
 rw [Yae];rcases Jn ks m with e | ⟨_,e,_⟩ <;> rcases Jn vs n with j | ⟨_,j,_⟩ <;> rw [e,j] <;> simp
theorem VX (T:TabOk ks)(D:TabOk vs){m n lo:Int}(a:At ks m lo)(b:At vs n lo)(z:rdN ks m++rdN vs n≠[]):(0<=mnJ (rdN ks m++rdN vs n)/\mnJ (rdN ks m++rdN vs n)<30)/\lo<mnJ (rdN ks m++rdN vs n)/\(∀x∈rdN ks m,mnJ (rdN ks m++rdN vs n)<=x)/\(∀x∈rdN vs n,mnJ (rdN ks m++rdN vs n)<=x):=by
 obtain ⟨h1,h2⟩:=Zcc z (Zcd m n);have:(0<=mnJ (rdN ks m++rdN vs n)/\mnJ (rdN ks m++rdN vs n)<30)/\lo<mnJ (rdN ks m++rdN vs n):=by
  rcases Yag.mp h1 with h | h
  ·rcases ZbC a with ⟨e,_⟩ | ⟨q,e,j,g⟩
   ·rw [e] at h;cases h
   ·have:mnJ (rdN ks m++rdN vs n)=q.1:=by rw [e] at h;rw [e];exact Yai.mp h
    rw [this];exact ⟨(T.nd j).1,g⟩
  ·rcases ZbC b with ⟨e,_⟩ | ⟨q,e,j,g⟩
   ·rw [e] at h;cases h
   ·have:mnJ (rdN ks m++rdN vs n)=q.1:=by rw [e] at h;rw [e];exact Yai.mp h
    rw [this];exact ⟨(D.nd j).1,g⟩
 exact ⟨this.1,this.2,λx B=>h2 x (Yci _ B),λx B=>h2 x (Ybs _ B)⟩
theorem ZbD {m n:Int}(z:rdN ks m++rdN vs n=[]):pfJ ks vs ru [m,n]=.leaf (if ru (decide (m=1)) (decide (n=1))=true then 1 else 0):=if_pos z
theorem Zce {m n:Int}(z:rdN ks m++rdN vs n≠[]):pfJ ks vs ru [m,n]=.node (mnJ (rdN ks m++rdN vs n)) [loP ks m (mnJ (rdN ks m++rdN vs n)),loP vs n (mnJ (rdN ks m++rdN vs n))] [hiP ks m (mnJ (rdN ks m++rdN vs n)),hiP vs n (mnJ (rdN ks m++rdN vs n))]:=if_neg z
theorem Zaj {m n:Int}(D:DomN ks m)(L:DomN vs n)(z:rdN ks m++rdN vs n=[]):(m=0\/m=1)/\(n=0\/n=1):=by
 obtain ⟨j,B⟩:=List.append_eq_nil_iff.mp z;refine ⟨?_,?_⟩
 ·rcases D.rd with ⟨_,h⟩ | ⟨q,e,_⟩
  ·exact h
  ·rw [e] at j;cases j
 ·rcases L.rd with ⟨_,h⟩ | ⟨q,e,_⟩
  ·exact h
  ·rw [e] at B;cases B
open Classical in
theorem Zfa (B:ru false false=false){m n:Int}(D:DomN ks m)(L:DomN vs n)(z:rdN ks m++rdN vs n=[])(s:List Int):YF (pfJ ks vs ru) [m,n] s↔ru (decide (Has ks m s)) (decide (Has vs n s))=true:=by
 have ep:=ZbD (ru:=ru) z;obtain ⟨h1,h2⟩:=Zaj D L z;by_cases j:s=[]
 ·subst j;have O:Has ks m []↔m=1:=by rw [Has.small (by lia) (by lia)];simp
  have U:Has vs n []↔n=1:=by rw [Has.small (by lia) (by lia)];simp
  have Y:decide (Has ks m [])=decide (m=1):=decide_eq_decide.mpr O;have Z:decide (Has vs n [])=decide (n=1):=decide_eq_decide.mpr U;rw [Y,Z];constructor
  ·intro h;cases h with
   | one e=>
    rw [ep] at e;injection e with e
    by_cases y:ru (decide (m=1)) (decide (n=1))=true
    ·exact y
    ·rw [if_neg y] at e;cases e
   | lo e _=>rw [ep] at e;cases e
  ·intro h;exact .one (by rw [ep,if_pos h])
 ·have n1:¬ Has ks m s:=λh=>j ((Has.small (by lia) (by lia)).mp h).2;have n2:¬ Has vs n s:=λh=>j ((Has.small (by lia) (by lia)).mp h).2;rw [Ybx n1,Ybx n2,B];constructor
  ·intro h;cases h with
   | one _=>exact absurd rfl j
   | lo e _=>rw [ep] at e;cases e
   | hi e _=>rw [ep] at e;cases e
  ·intro h;cases h
open Classical in
theorem ZbE (T:TabOk ks)(D:TabOk vs)(j:ru false false=false):∀(d:Nat){m n lo:Int},At ks m lo->At vs n lo->(30-lo).toNat<=d->∀s,YF (pfJ ks vs ru) [m,n] s↔ru (decide (Has ks m s)) (decide (Has vs n s))=true:=by
 intro d
 induction d with
 | zero=>
  intro m n lo a b hd s;have z:rdN ks m++rdN vs n=[]:=Classical.byContradiction λz=>by
   have:=VX T D a b z
   lia
  exact Zfa j (Ub a) (Ub b) z s
 | succ d L=>
  intro m n lo a b hd s;by_cases z:rdN ks m++rdN vs n=[]
  ·exact Zfa j (Ub a) (Ub b) z s
  ·obtain ⟨g1,g2,O,U⟩:=VX T D a b z;have ep:=Zce (ru:=ru) z;generalize mnJ (rdN ks m++rdN vs n)=r at g1 g2 O U ep;obtain ⟨a1,a2⟩:=OO T a O;obtain ⟨b1,b2⟩:=OO D b U;have il:=L a1 b1 (by lia);have L:=L a2 b2 (by lia);have split:YF (pfJ ks vs ru) [m,n] s↔(YF (pfJ ks vs ru) [loP ks m r,loP vs n r] s\/∃t,s=r::t/\YF (pfJ ks vs ru) [hiP ks m r,hiP vs n r] t):=by
    constructor
    ·intro h;cases h with
     | one e=>rw [ep] at e;cases e
     | lo e h=>rw [ep] at e;cases e;exact .inl h
     | hi e h=>rw [ep] at e;cases e;exact .inr ⟨_,rfl,h⟩
    ·rintro (h | ⟨t,rfl,h⟩)
     ·exact .lo ep h
     ·exact .hi ep h
   rw [split];by_cases B:∃t,s=r::t
   ·obtain ⟨t,rfl⟩:=B;have n1:¬ Has ks (loP ks m r) (r::t):=λh=>by have:=XW T h a1 _ _ rfl;lia
    have n2:¬ Has vs (loP vs n r) (r::t):=λh=>by have:=XW D h b1 _ _ rfl;lia
    have Y:Has ks m (r::t)↔Has ks (hiP ks m r) t:=⟨Zcb T a O,XY⟩;have Z:Has vs n (r::t)↔Has vs (hiP vs n r) t:=⟨Zcb D b U,XY⟩;have e3:(YF (pfJ ks vs ru) [loP ks m r,loP vs n r] (r::t))↔False:=by
     rw [il,Ybx n1,Ybx n2,j];simp
    rw [e3,decide_eq_decide.mpr Y,decide_eq_decide.mpr Z,<-L t];constructor
    ·rintro (h | ⟨t',e,h⟩)
     ·exact h.elim
     ·cases e;exact h
    ·exact λh=>.inr ⟨t,rfl,h⟩
   ·have B:∀t,s≠r::t:=λt e=>B ⟨t,e⟩;have Y:Has ks m s↔Has ks (loP ks m r) s:=⟨λh=>Zca h B,XX⟩;have Z:Has vs n s↔Has vs (loP vs n r) s:=⟨λh=>Zca h B,XX⟩;rw [decide_eq_decide.mpr Y,decide_eq_decide.mpr Z,<-il s];exact ⟨λh=>h.elim id λ⟨t,e,_⟩=>absurd e (B t),.inl⟩
theorem Up (T:TabOk ks)(j:TabOk vs){m n lo:Int}(a:At ks m lo)(b:At vs n lo):Abv (pfJ ks vs ru) [m,n] lo:=λr x y e=>by
 obtain ⟨D,L,B,z,rfl,_⟩:=JS e;cases B;exact (VX T j a b z).2.1
theorem Zak (T:TabOk ks)(j:TabOk vs){s:List Int}(L:Zdf ks vs s):Zb2 (pfJ ks vs ru) s:=by
 refine ⟨λk n B e=>?_,λk r a b B e=>?_⟩
 ·unfold pfJ at e;split at e
  ·rename_i m D;by_cases z:rdN ks m++rdN vs D=[]
   ·rw [if_pos z] at e;cases e;split
    ·exact .inr rfl
    ·exact .inl rfl
   ·rw [if_neg z] at e;cases e
  ·cases e;exact .inl rfl
 ·obtain ⟨m,n,rfl,z,rfl,rfl,rfl⟩:=JS e;obtain ⟨m',D,O,h1,h2⟩:=VW T j _ _ B L;cases O;obtain ⟨U,g2,Y,Z⟩:=VX T j (XV T h1) (XV j h2) z;obtain ⟨a1,a2⟩:=OO T (XV T h1) Y;obtain ⟨b1,b2⟩:=OO j (XV j h2) Z;exact ⟨U,Up T j a1 b1,Up T j a2 b2⟩
end
inductive PthP (pf:List Int->Pt (List Int)):List Int->List Int->List Int->Prop
 | nil {c:List Int}:PthP pf c [] c
 | lo {c n a b l:List Int} {r:Int}:pf c=.node r a b->PthP pf a l n->PthP pf c l n
 | hi {c n a b l:List Int} {r:Int}:pf c=.node r a b->PthP pf b l n->PthP pf c (r::l) n
section
variable {pf:List Int->Pt (List Int)}
theorem PthP.lo' {c n p:List Int}(h:PthP pf c p n):∀{r:Int}{a b:List Int},pf n=.node r a b->PthP pf c p a:=by
 induction h with
 | nil=>intro r a b e;exact .lo e .nil
 | lo e _ ih=>intro r a b j;exact .lo e (ih j)
 | hi e _ ih=>intro r a b j;exact .hi e (ih j)
theorem PthP.hi' {c n p:List Int}(h:PthP pf c p n):∀{r:Int}{a b:List Int},pf n=.node r a b->PthP pf c (p++[r]) b:=by
 induction h with
 | nil=>intro r a b e;exact .hi e .nil
 | lo e _ ih=>intro r a b j;exact .lo e (ih j)
 | hi e _ ih=>intro r a b j;exact .hi e (ih j)
theorem Zfb {s k:List Int}(h:Rc pf s k):∃p,PthP pf s p k:=by
 induction h with
 | start=>exact ⟨[],.nil⟩
 | lo _ e ih=>obtain ⟨p,h⟩:=ih;exact ⟨p,h.lo' e⟩
 | hi _ e ih=>obtain ⟨p,h⟩:=ih;exact ⟨_,h.hi' e⟩
theorem PthP.gt {D:List Int}(O:Zb2 pf D){c n p:List Int}(h:PthP pf c p n):Rc pf D c->∀{lo:Int},Abv pf c lo->(∀r a b,p=[]->pf n=.node r a b->lo<r)/\∀y l,p=y::l->lo<y:=by
 induction h with
 | nil=>intro _ lo j;exact ⟨λr a b _ e=>j r a b e,λy l e=>by cases e⟩
 | lo e _ ih=>
  intro B lo j;have g:=j _ _ _ e;have:=ih (.lo B e) (O.nd _ _ _ _ B e).2.1;exact ⟨λr a b z L=>Int.lt_trans g (this.1 r a b z L),λy l z=>Int.lt_trans g (this.2 y l z)⟩
 | hi e _ ih=>
  intro B lo j;exact ⟨λr a b z _=>by (cases z),λy l z=>by cases z;exact j _ _ _ e⟩
theorem PthP.one {Y:List Int}(O:Zb2 pf Y){c n p:List Int}(h:PthP pf c p n):Rc pf Y c->∀{B a b L U:List Int}{r:Int},PthP pf c p B->pf n=.node r a b->pf B=.node r L U->n=B:=by
 induction h with
 | nil=>
  intro j B a b L U r h' e D;cases h' with
  | nil=>rfl
  | lo e2 h2=>
   have g:=(h2.gt O (.lo j e2) (O.nd _ _ _ _ j e2).2.1).1 _ _ _ rfl D;rw [e] at e2;cases e2
   lia
 | lo e1 h1 ih=>
  intro j B a b L U r h' e D;cases h' with
  | nil=>
   have g:=(h1.gt O (.lo j e1) (O.nd _ _ _ _ j e1).2.1).1 _ _ _ rfl e;rw [D] at e1;cases e1
   lia
  | lo e2 h2=>
   rw [e1] at e2;cases e2;exact ih (.lo j e1) h2 e D
  | hi e2 h2=>
   have g:=(h1.gt O (.lo j e1) (O.nd _ _ _ _ j e1).2.1).2 _ _ rfl;rw [e1] at e2;cases e2
   lia
 | @hi c n a1 b1 l r1 e1 h1 ih=>
  intro j B a b L U r h' e D;generalize hp:r1::l=Z at h';cases h' with
  | nil=>cases hp
  | lo e2 h2=>
   have g:=(h2.gt O (.lo j e2) (O.nd _ _ _ _ j e2).2.1).2 _ _ hp.symm;rw [e1] at e2;cases e2
   lia
  | hi e2 h2=>
   injection hp with _ hp
   subst hp;rw [e1] at e2;cases e2;exact ih (.hi j e1) h2 e D
noncomputable def AtP (pf:List Int->Pt (List Int))(s q k:List Int):Prop:=∃p r a b,q=p++[r]/\PthP pf s p k/\pf k=.node r a b
open Classical in
noncomputable def Zfc (pf:List Int->Pt (List Int))(s q:List Int):List Int:=if h:∃k,AtP pf s q k then Classical.choose h else []
theorem Zdp {s q k:List Int}(O:Zb2 pf s)(h:AtP pf s q k):Zfc pf s q=k:=by
 have j:∃k,AtP pf s q k:=⟨k,h⟩;unfold Zfc;rw [dif_pos j];obtain ⟨p,r,a,b,D,L,U⟩:=Classical.choose_spec j;obtain ⟨p',r',a',b',B,Y,Z⟩:=h;rw [D] at B;obtain ⟨e3,e4⟩:=List.append_inj' B rfl;subst e3;cases e4;exact L.one O .start Y U Z
end
section
variable {ks vs:List Tri}{ru:Bool->Bool->Bool}
theorem Zdq {c p k:List Int}(h:PthP (pfJ ks vs ru) c p k):∀{a b m n:Int},c=[a,b]->k=[m,n]->(∀s,Has ks m s->Has ks a (p++s))/\∀s,Has vs n s->Has vs b (p++s):=by
 induction h with
 | nil=>rintro a b m n rfl e;cases e;exact ⟨λs h=>h,λs h=>h⟩
 | lo e _ ih=>
  rintro a b m n rfl j;obtain ⟨D,L,B,_,_,rfl,_⟩:=JS e;cases B;obtain ⟨h1,h2⟩:=ih rfl j;exact ⟨λs h=>XX (h1 s h),λs h=>XX (h2 s h)⟩
 | hi e _ ih=>
  rintro a b m n rfl j;obtain ⟨D,L,B,_,_,_,rfl⟩:=JS e;cases B;obtain ⟨h1,h2⟩:=ih rfl j;exact ⟨λs h=>XY (h1 s h),λs h=>XY (h2 s h)⟩
noncomputable def Bd (F G:List (List Int)):Prop:=∃V:List (List Int),(∀s,s∈F\/s∈G->∀p r t,s=p++r::t->p++[r]∈V)/\V.length<=800
theorem Bd.symm {F G:List (List Int)}(h:Bd F G):Bd G F:=h.imp λV ⟨h1,h2⟩=>⟨λs j=>h1 s j.symm,h2⟩
theorem Bd.self {F G:List (List Int)}(h:Bd F G):Bd F F:=h.imp λV ⟨h1,h2⟩=>⟨λs j=>h1 s (.inl (j.elim id id)),h2⟩
theorem Zal (S:ShOk ks)(j:ShOk vs){a0 b0:Int}(a:At ks a0 (-1))(b:At vs b0 (-1)){F G:List (List Int)}(hF:∀s,Has ks a0 s->s∈F)(hG:∀s,Has vs b0 s->s∈G)(B:Bd F G)(ru:Bool->Bool->Bool):∃Un,Zaf ks vs ru a0 b0 800 Un/\Un.length<=800:=by
 obtain ⟨V,hV,hl⟩:=B;have hd:Zdf ks vs [a0,b0]:=⟨a0,b0,rfl,Ub a,Ub b⟩;have O:Zb2 (pfJ ks vs ru) [a0,b0]:=Zak S.ok j.ok hd;have ul:(V.map (Zfc (pfJ ks vs ru) [a0,b0])).length<=800:=by rw [Yab];exact hl
 have un:∀k,Rc (pfJ ks vs ru) [a0,b0] k->Uo (pfJ ks vs ru k)=true->k∈V.map (Zfc (pfJ ks vs ru) [a0,b0]):=λk L Y=>by
  obtain ⟨p,hp⟩:=Zfb L;obtain ⟨m,n,rfl,Z,aa⟩:=VW S.ok j.ok _ _ L hd;cases e:pfJ ks vs ru [m,n] with
  | leaf x=>rw [e] at Y;cases Y
  | node r x y=>
   obtain ⟨m',n',e',z,rfl,_⟩:=JS e;cases e';obtain ⟨h1,h2⟩:=Zdq hp rfl rfl;have U:∃s,(s∈F\/s∈G)/\∃t,s=p++mnJ (rdN ks m++rdN vs n)::t:=by
    rcases Yag.mp (Zcc z (Zcd m n)).1 with h | h
    ·rcases Z.rd with ⟨e,_⟩ | ⟨q,e,D⟩
     ·rw [e] at h;cases h
     ·obtain ⟨t,ht⟩:=Og S _ q.2.2 q.1 (S.ok.nd D).2.2 (Yad _) (S.hi _ (Yat D.2));have:mnJ (rdN ks m++rdN vs n)=q.1:=by rw [e] at h;rw [e];exact Yai.mp h
      exact ⟨_,.inl (hF _ (h1 _ (.high D ht))),t,by rw [this]⟩
    ·rcases aa.rd with ⟨e,_⟩ | ⟨q,e,D⟩
     ·rw [e] at h;cases h
     ·obtain ⟨t,ht⟩:=Og j _ q.2.2 q.1 (j.ok.nd D).2.2 (Yad _) (j.hi _ (Yat D.2));have:mnJ (rdN ks m++rdN vs n)=q.1:=by rw [e] at h;rw [e];exact Yai.mp h
      exact ⟨_,.inr (hG _ (h2 _ (.high D ht))),t,by rw [this]⟩
   obtain ⟨s,hs,t,et⟩:=U;exact Yam.mpr ⟨_,hV s hs p _ t et,Zdp O ⟨p,_,_,_,rfl,hp,e⟩⟩
 refine ⟨_,⟨S.ok,j.ok,hd,⟨[[0,0],[0,1],[1,0],[1,1]]++V.map (Zfc (pfJ ks vs ru) [a0,b0]),λk L=>?_,by rw [Yae];show 4+_<=_;lia⟩,un,⟨by decide,by decide⟩,by lia,O,Up S.ok j.ok a b⟩,ul⟩;obtain ⟨m,n,rfl,Z,Y⟩:=VW S.ok j.ok _ _ L hd;by_cases z:rdN ks m++rdN vs n=[]
 ·refine Yci _ ?_;obtain ⟨h1,h2⟩:=Zaj Z Y z;rcases h1 with rfl | rfl <;> rcases h2 with rfl | rfl <;> simp
 ·exact Ybs _ (un _ L (by rw [Zce z];rfl))
end
noncomputable def WH:List Int->List (List Int)
 | []=>[[]]
 | x::xs=>WH xs++(WH xs).map (x::·)
theorem WI:∀xs:List Int,(WH xs).length=2 ^ xs.length
 | []=>rfl
 | x::xs=>by
  rw [WH,Yae,Yab,WI xs,Ybq,Nat.pow_succ]
  lia
theorem VY:∀{R p:List Int},R.Pairwise (· < ·)->p.Pairwise (· < ·)->(∀x∈p,x∈R)->p∈WH R
 | [],p,_,_,h=>by
  cases p with
  | nil=>simp [WH]
  | cons x p=>exact absurd (h x (Yaw ..)) (by simp)
 | x::R,p,hR,hp,h=>by
  obtain ⟨r1,r2⟩:=Ycz.mp hR;rw [WH];by_cases B:x∈p
  ·refine Ybs _ ?_;cases p with
   | nil=>cases B
   | cons y p=>
    obtain ⟨D,p2⟩:=Ycz.mp hp;have e:y=x:=by
     rcases Yau.mp B with z | z
     ·exact z.symm
     ·have h1:=D x z;rcases Yau.mp (h y (Yaw ..)) with w | w
      ·exact w
      ·have:=r1 y w
       lia
    subst e;refine Yam.mpr ⟨p,VY r2 p2 λz j=>?_,rfl⟩;rcases Yau.mp (h z (Ybf _ j)) with w | w
    ·have:=D z j
     lia
    ·exact w
  ·refine Yci _ (VY r2 hp λz j=>?_);rcases Yau.mp (h z j) with w | w
   ·rw [w] at j;exact absurd j B
   ·exact w
noncomputable def Zam (R:List Int)(i:Nat):List (List Int):=match R[i]? with
 | some r=>(WH (R.take i)).map (·++[r])
 | none=>[]
theorem JU (R:List Int)(i:Nat):(Zam R i).length<=2 ^ i:=by
 unfold Zam;split
 ·rw [Yab,WI,Yba];exact Nat.pow_le_pow_right (by decide) (by lia)
 ·exact Yao _
noncomputable def Zfd (F:List (List Int))(rs:List Int):List (List Int):=rs.flatMap λr=>F.map λs=>s.filter λx=>decide (x<=r)
theorem XZ (F:List (List Int)):∀rs:List Int,(Zfd F rs).length=rs.length * F.length
 | []=>by simp [Zfd]
 | r::rs=>by
  have ih:=XZ F rs;unfold Zfd at ih ⊢;rw [List.flatMap_cons,Yae,Yab,ih,Ybq,Nat.succ_mul]
  lia
theorem Zgx {R:List Int}{F:List (List Int)}(O:Rds R)(hF:∀s∈F,Sok R s):∃V:List (List Int),(∀s∈F,∀p r t,s=p++r::t->p++[r]∈V)/\V.length<=127+5 * F.length:=by
 refine ⟨Zam R 0++(Zam R 1++(Zam R 2++(Zam R 3++(Zam R 4++(Zam R 5++(Zam R 6++Zfd F (R.drop 7))))))),λs Z p r t e=>?_,?_⟩
 ·obtain ⟨s1,s2⟩:=hF s Z;subst e;obtain ⟨h1,h2,h3⟩:=Ybr.mp s1;obtain ⟨h4,h5⟩:=Ycz.mp h2;obtain ⟨i,hi⟩:=List.getElem?_of_mem (s2 r (by simp));have low:∀x∈p,x∈R.take i:=λx B=>by
   obtain ⟨j,L⟩:=List.getElem?_of_mem (s2 x (Yci _ B));have hl:=h3 x B r (Yaw ..);have U:j<i:=by
    by_cases z:j<i
    ·exact z
    ·exfalso;obtain ⟨q1,q2⟩:=Yaj.mp hi;obtain ⟨q3,q4⟩:=Yaj.mp L;by_cases y:i=j
     ·subst y;rw [hi] at L;cases L
      lia
     ·have:=Ydf.mp O.1 i j q1 q3 (by lia)
      lia
   exact Yat (by rw [List.getElem?_take_of_lt U];exact L)
  have D:p++[r]∈Zam R i:=by
   unfold Zam;rw [hi];exact Yam.mpr ⟨p,VY (O.1.sublist (List.take_sublist _ _)) h1 low,rfl⟩
  by_cases h7:i<7
  ·simp only [Yag];rcases (by lia:i=0\/i=1\/i=2\/i=3\/i=4\/i=5\/i=6) with y | y | y | y | y | y | y <;> rw [y] at D <;> simp [D]
  ·have Y:p++[r]∈Zfd F (R.drop 7):=by
    refine List.mem_flatMap.mpr ⟨r,Yat (i:=i-7) (by rw [Ydt,show 7+(i-7)=i by lia];exact hi),Yam.mpr ⟨_,Z,?_⟩⟩;rw [Ydh,List.filter_cons,if_pos (by simp),List.filter_eq_self.mpr (λx B=>by have:=h3 x B r (Yaw ..);simp;lia),List.filter_eq_nil_iff.mpr (λx B=>by have:=h4 x B;simp;lia)]
   simp only [Yag];simp [Y]
 ·have l0:=JU R 0;have l1:=JU R 1;have l2:=JU R 2;have l3:=JU R 3;have l4:=JU R 4;have l5:=JU R 5;have l6:=JU R 6;have l7:=XZ F (R.drop 7);have l8:(R.drop 7).length * F.length<=5 * F.length:=Nat.mul_le_mul_right _ (by rw [Ydr];have:=O.2.2.2;lia);simp only [Yae]
  lia
theorem Zdr {R:List Int}{F G:List (List Int)}(B:Rds R)(D:∀s∈F,Sok R s)(L:∀s∈G,Sok R s)(O:F.length<=40)(U:G.length<=90):Bd F G:=by
 obtain ⟨V,h1,h2⟩:=Zgx (F:=F++G) B (λs j=>(Yag.mp j).elim (D s) (L s));refine ⟨V,λs j=>h1 s (Yag.mpr j),?_⟩;rw [Yae] at h2
 lia
theorem Zds {R R':List Int}{F G:List (List Int)}(L:Rds R)(B:Rds R')(O:∀s∈F,Sok R s)(U:∀s∈G,Sok R' s)(lF:F.length<=40)(lG:G.length<=40):Bd F G:=by
 obtain ⟨V,h1,h2⟩:=Zgx L O;obtain ⟨Y,D,Z⟩:=Zgx B U;refine ⟨V++Y,λs j p r t e=>?_,?_⟩
 ·rcases j with j | j
  ·exact Yci _ (h1 s j p r t e)
  ·exact Ybs _ (D s j p r t e)
 ·rw [Yae]
  lia
noncomputable def TpsAt (H:Hp)(F:Fml)(cs:List Addr):Prop:=Paired (λ(s:List Int) (c:Addr)=>H c=some (.tup (s.map V.int))) F cs
noncomputable def FamAt (H:Hp)(a:Addr)(F:Fml):Prop:=∃cs,H a=some (.lst (cs.map V.ref))/\TpsAt H F cs
section
variable {H H':Hp}{F:Fml}{cs:List Addr}{a:Addr}
theorem TpsAt.keep (x:TpsAt H F cs)(t:∀p ys,H p=some (.tup ys)->H' p=some (.tup ys)):TpsAt H' F cs:=Paired.mapP x λ_ _ z=>t _ _ z
theorem TpsAt.dats {K:W.Frag}(x:TpsAt H F cs):DatVs K H (cs.map V.ref) (F.map JX):=by
 induction x with
 | nil=>exact .nil
 | cons e _ ih=>exact .cons (.tup (SqT.of e) (G3 _)) ih
theorem FamAt.keep (x:FamAt H a F)(t:∀p ys,H p=some (.tup ys)->H' p=some (.tup ys))(l:∀ys,H a=some (.lst ys)->H' a=some (.lst ys)):FamAt H' a F:=by
 obtain ⟨cs,h1,h2⟩:=x;exact ⟨cs,l _ h1,h2.keep t⟩
theorem FamAt.same (x:FamAt H a F)(s:Same H H'):FamAt H' a F:=x.keep (λp ys e=>s _ _ e) λys e=>s _ _ e
end
theorem GY (F:Fml):SeqAt.shaped (.list (F.map JX))=true:=by
 unfold SeqAt.shaped;rw [Ycc];refine ⟨by simp only [PyData.canLay0];exact Uk F,Ybm ?_⟩;have:=O4 F;simp only [PyData.depth]
 lia
theorem OP (F G:Fml):PyData.eqv (.list (F.map JX)) (.list (G.map JX))=decide (F=G):=by
 simp only [PyData.eqv,Ou]
theorem Jk (s:List Int):SeqAt.shaped (JX s)=true:=by
 unfold SeqAt.shaped;rw [Ycc];refine ⟨XE s,Ybm ?_⟩;have:=JG s;simp only [JX,PyData.depth]
 lia
theorem Paired.get {α β:Type}{F:α->β->Prop}{l:List α}{m:List β}(h:Paired F l m):∀{i:Nat}{a:α},l[i]?=some a->∃b,m[i]?=some b/\F a b:=by
 induction h with
 | nil=>intro i a e;simp at e
 | @cons x y l m r _ ih=>
  intro i a e;cases i with
  | zero=>simp at e;subst e;exact ⟨y,by simp,r⟩
  | succ i=>simp at e;obtain ⟨b,h1,h2⟩:=ih e;exact ⟨b,by simpa using h1,h2⟩
theorem Paired.get' {α β:Type}{F:α->β->Prop}{l:List α}{m:List β}(h:Paired F l m):∀{i:Nat}{b:β},m[i]?=some b->∃a,l[i]?=some a/\F a b:=by
 induction h with
 | nil=>intro i a e;simp at e
 | @cons x y l m r _ ih=>
  intro i a e;cases i with
  | zero=>simp at e;subst e;exact ⟨x,by simp,r⟩
  | succ i=>simp at e;obtain ⟨b,h1,h2⟩:=ih e;exact ⟨b,by simpa using h1,h2⟩
theorem UK {H H':Hp}{R:List Fml}{al:List Addr}(h:Paired (λF a=>FamAt H a F) R al)(t:∀p ys,H p=some (.tup ys)->H' p=some (.tup ys))(l:∀a∈al,∀ys,H a=some (.lst ys)->H' a=some (.lst ys)):Paired (λF a=>FamAt H' a F) R al:=by
 induction h with
 | nil=>exact .nil
 | @cons x y m n r _ ih=>exact .cons (r.keep t (l y (Yaw ..))) (ih λz j=>l z (Ybf _ j))
noncomputable def KvR (kvs:TTs)(R:List Fml):Prop:=kvs.length=R.length/\∀(i:Nat) p,kvs[i]?=some p->R[i]?=some p.1/\p.2.2=.int ((i:Int)+2)
theorem KvR.some {kvs:TTs}{R:List Fml}(h:KvR kvs R){k:Fml}{v:V}(e:UM kvs k=some v):∃i:Nat,R[i]?=some k/\v=.int ((i:Int)+2):=by
 unfold UM at e;obtain ⟨p,j,rfl⟩:=Ybk.mp e;have h1:=List.find?_some j;obtain ⟨i,hi⟩:=Ydu.mp (List.mem_of_find?_eq_some j);obtain ⟨h2,B⟩:=h.2 i p hi;exact ⟨i,by rw [h2,Ycv h1],B⟩
theorem KvR.snoc {kvs:TTs}{R:List Fml}(h:KvR kvs R)(k:Fml)(b:Addr):KvR (kvs++[(k,b,.int ((R.length:Int)+2))]) (R++[k]):=by
 refine ⟨by rw [Yae,Yae,h.1];rfl,λi p e=>?_⟩;by_cases hi:i<kvs.length
 ·rw [Ybl hi] at e;obtain ⟨h1,h2⟩:=h.2 i p e;exact ⟨by rw [Ybl (by rw [<-h.1];exact hi)];exact h1,h2⟩
 ·have j:=(Yaj.mp e).1;rw [Yae,Yap] at j;have:i=kvs.length:=by lia
  subst this;rw [Ybt (Yad _),Ych] at e;cases e;refine ⟨?_,by rw [h.1]⟩;rw [h.1,Ybt (Yad _),Ych]
  rfl
theorem Zan {kvs:TTs}{k:Fml}{b:Addr}{v:V}(h:UM kvs k=none):UM (kvs++[(k,b,v)]) k=some v:=by
 unfold UM at h ⊢;rw [List.find?_append,Ydg.mp h];simp
structure Li (P:Program)(w:World)(H0 H:Hp)(rw fd nl:Addr)(R:List Fml)(al:List Addr)(kvs:TTs)(xs:List V)(ts:List Tri):Prop where
 s:Same H0 H
 er:H rw=some (.lst (al.map V.ref))
 fr:Paired (λF a=>FamAt H a F) R al
 na:∀a∈al,a≠rw/\a≠nl
 ed:H fd=some (dtt P w fd kvs)
 ks:KeysTT H kvs
 kr:KvR kvs R
 en:H nl=some (.lst xs)
 tr:Trs H xs ts
 f1:H0 rw=none
 f2:H0 fd=none
 f3:H0 nl=none
 ne:rw≠nl
section
variable {P:Program}{w:World}{H0 H H':Hp}{rw fd nl a b t q:Addr}{R:List Fml}{al:List Addr}{kvs:TTs}{xs ys zs:List V}{ts:List Tri}{G:Fml}
theorem Li.grow (L:Li P w H0 H rw fd nl R al kvs xs ts)(s:Same H H'):Li P w H0 H' rw fd nl R al kvs xs ts:=
 ⟨L.s.trans s,s _ _ L.er,Paired.mapP L.fr λ_ _ z=>z.same s,L.na,s _ _ L.ed,L.ks.keep λp ys e=>s _ _ e,L.kr,s _ _ L.en,L.tr.same s,L.f1,L.f2,L.f3,L.ne⟩
theorem Li.len (L:Li P w H0 H rw fd nl R al kvs xs ts):al.length=R.length:=L.fr.length.symm
theorem Li.row (L:Li P w H0 H rw fd nl R al kvs xs ts)(Y:KeyTT H b G)(ha:FamAt H a G)(U:a≠rw)(Z:a≠nl) :
  Li P w H0 (upd (upd H fd (dtt P w fd (kvs++[(G,b,.int ((R.length:Int)+2))]))) rw (.lst (al.map V.ref++[.ref a]))) rw fd nl (R++[G]) (al++[a]) (kvs++[(G,b,.int ((R.length:Int)+2))]) xs ts:=by
 have D:rw≠fd:=GV L.er L.ed (λz=>by cases z);have aa:nl≠fd:=GV L.en L.ed (λz=>by cases z);have j:∀p ys,H p=some (.tup ys)->upd (upd H fd (dtt P w fd (kvs++[(G,b,.int ((R.length:Int)+2))]))) rw (.lst (al.map V.ref++[.ref a])) p=some (.tup ys):=λp ys e=>Gi (Gi e (GV e L.ed (λz=>by cases z))) (GV e L.er (λz=>by cases z));have O:∀c,c≠rw->∀ys,H c=some (.lst ys)->upd (upd H fd (dtt P w fd (kvs++[(G,b,.int ((R.length:Int)+2))]))) rw (.lst (al.map V.ref++[.ref a])) c=some (.lst ys):=λc B ys e=>Gi (Gi e (GV e L.ed (λz=>by cases z))) B;refine ⟨(L.s.put L.f2).put L.f1,by rw [Gb,Yak];rfl,?_,λc B=>?_,Gi Gb (Ne.symm D),λp hp=>?_,L.kr.snoc G b,O nl (Ne.symm L.ne) _ L.en,L.tr.keep j,L.f1,L.f2,L.f3,L.ne⟩
 ·exact Paired.snoc (UK L.fr j λc B=>O c (L.na c B).1) (ha.keep j (O a U))
 ·rcases Yag.mp B with h | h
  ·exact L.na c h
  ·rw [Yai.mp h];exact ⟨U,Z⟩
 ·rcases Yag.mp hp with h | h
  ·exact (L.ks p h).keep j
  ·rw [Yai.mp h];exact Y.keep j
theorem Li.other (L:Li P w H0 H rw fd nl R al kvs xs ts)(B:H q=some (.lst ys))(f:H0 q=none)(D:q≠rw)(O:q≠nl)(U:∀a∈al,a≠q):Li P w H0 (upd H q (.lst zs)) rw fd nl R al kvs xs ts:=by
 have j:∀p us,H p=some (.tup us)->upd H q (.lst zs) p=some (.tup us):=Jq B;refine ⟨L.s.put f,Gi L.er (Ne.symm D),?_,L.na,Gi L.ed (GV L.ed B (λz=>by cases z)),L.ks.keep j,L.kr,Gi L.en (Ne.symm O),L.tr.keep j,L.f1,L.f2,L.f3,L.ne⟩;exact UK L.fr j λc Y us e=>Gi e (U c Y)
theorem Li.node {r:Tri}(L:Li P w H0 H rw fd nl R al kvs xs ts)(B:H t=some (.tup [.int r.1,.int r.2.1,.int r.2.2])):Li P w H0 (upd H nl (.lst (xs++[.ref t]))) rw fd nl R al kvs (xs++[.ref t]) (ts++[r]):=by
 have j:∀p us,H p=some (.tup us)->upd H nl (.lst (xs++[.ref t])) p=some (.tup us):=Jq L.en;refine ⟨L.s.put L.f3,Gi L.er L.ne,?_,L.na,Gi L.ed (GV L.ed L.en (λz=>by cases z)),L.ks.keep j,L.kr,Gb,(L.tr.keep j).snoc (j _ _ B),L.f1,L.f2,L.f3,L.ne⟩;exact UK L.fr j λc D us e=>Gi e (L.na c D).2
end
theorem KvR.none {kvs:TTs}{R:List Fml}(h:KvR kvs R){G:Fml}(j:∀F∈R,Inner F)(B:¬ Inner G):UM kvs G=none:=by
 cases e:UM kvs G with
 | none=>rfl
 | some v=>
  obtain ⟨i,hi,_⟩:=h.some e;exact absurd (j G (Yat hi)) B
structure Tn (P:Program)(w:World)(H0 H:Hp)(rw fd nl nb pl lo hi:Addr)(R0:List Fml)(G1 G2:Fml)(xs:List V)(ts:List Tri)(wb:Nat)(Gd S:List Fml)(al:List Addr)(kvs:TTs)(cs:List Int):Prop where
 L:Li P w H0 H rw fd nl (R0++S) al kvs xs ts
 eb:H nb=some (.lst (cs.map V.int))
 ep:H pl=some (.lst [.ref lo,.ref hi])
 fl:FamAt H lo G1
 fh:FamAt H hi G2
 ok:∀G∈S,FamOk G/\Inner G
 wS:(S.map wt).sum<=wb
 nm:∀(j:Nat) G,Gd[j]?=some G->∃c,cs[j]?=some c/\Num (R0++S) G c
 cl:cs.length=Gd.length
 nab:∀a∈al,a≠nb/\a≠pl
section
variable {P:Program}{w:World}{H0 H H':Hp}{rw fd nl nb pl lo hi a b:Addr}{R0 Gd S:List Fml}{G1 G2 G:Fml}{al:List Addr}{kvs:TTs}{xs:List V}{ts:List Tri}{cs:List Int}{wb:Nat}{c:Int}
theorem Tn.grow (T:Tn P w H0 H rw fd nl nb pl lo hi R0 G1 G2 xs ts wb Gd S al kvs cs)(s:Same H H'):Tn P w H0 H' rw fd nl nb pl lo hi R0 G1 G2 xs ts wb Gd S al kvs cs:=
 ⟨T.L.grow s,s _ _ T.eb,s _ _ T.ep,T.fl.same s,T.fh.same s,T.ok,T.wS,T.nm,T.cl,T.nab⟩
theorem Tn.row (T:Tn P w H0 H rw fd nl nb pl lo hi R0 G1 G2 xs ts wb Gd S al kvs cs)(O:KeyTT H b G)(ha:FamAt H a G)(U:a≠rw)(Y:a≠nl)(Z:a≠nb)(n4:a≠pl)(m1:nb≠rw)(m2:pl≠rw)(m3:lo≠rw)(m4:hi≠rw)(hG:FamOk G/\Inner G) :
  Tn P w H0 (upd (upd H fd (dtt P w fd (kvs++[(G,b,.int (((R0++S).length:Int)+2))]))) rw (.lst (al.map V.ref++[.ref a]))) rw fd nl nb pl lo hi R0 G1 G2 xs ts (wb+wt G) Gd (S++[G]) (al++[a]) (kvs++[(G,b,.int (((R0++S).length:Int)+2))]) cs:=by
 have D:∀p ys,H p=some (.tup ys)->upd (upd H fd (dtt P w fd (kvs++[(G,b,.int (((R0++S).length:Int)+2))]))) rw (.lst (al.map V.ref++[.ref a])) p=some (.tup ys):=λp ys e=>Gi (Gi e (GV e T.L.ed (λz=>by cases z))) (GV e T.L.er (λz=>by cases z));have B:∀c,c≠rw->∀ys,H c=some (.lst ys)->upd (upd H fd (dtt P w fd (kvs++[(G,b,.int (((R0++S).length:Int)+2))]))) rw (.lst (al.map V.ref++[.ref a])) c=some (.lst ys):=λc hc ys e=>Gi (Gi e (GV e T.L.ed (λz=>by cases z))) hc;refine ⟨by rw [<-Ybg];exact T.L.row O ha U Y,B _ m1 _ T.eb,B _ m2 _ T.ep,T.fl.keep D (B _ m3),T.fh.keep D (B _ m4),λF hF=>?_,?_,λj F hj=>?_,T.cl,λx hx=>?_⟩
 ·rcases Yag.mp hF with h | h
  ·exact T.ok F h
  ·rw [Yai.mp h];exact hG
 ·rw [Yak,List.sum_append];have:=T.wS;simp
  lia
 ·obtain ⟨c,h1,h2⟩:=T.nm j F hj;exact ⟨c,h1,by rw [<-Ybg];exact h2.app _⟩
 ·rcases Yag.mp hx with h | h
  ·exact T.nab x h
  ·rw [Yai.mp h];exact ⟨Z,n4⟩
theorem Tn.num (T:Tn P w H0 H rw fd nl nb pl lo hi R0 G1 G2 xs ts wb Gd S al kvs cs)(U:Num (R0++S) G c)(f:H0 nb=none)(m1:nb≠rw)(m2:nb≠nl)(Y:nb≠pl)(Z:nb≠lo)(m5:nb≠hi) :
  Tn P w H0 (upd H nb (.lst (cs.map V.int++[.int c]))) rw fd nl nb pl lo hi R0 G1 G2 xs ts wb (Gd++[G]) S al kvs (cs++[c]):=by
 have O:=Jq (o:=.lst (cs.map V.int++[.int c])) T.eb;refine ⟨T.L.other T.eb f m1 m2 λx hx=>(T.nab x hx).1,by rw [Gb,Yak];rfl,Gi T.ep (Ne.symm Y),T.fl.keep O λys e=>Gi e (Ne.symm Z),T.fh.keep O λys e=>Gi e (Ne.symm m5),T.ok,T.wS,λj F B=>?_,by rw [Yae,Yae,T.cl];rfl,T.nab⟩;by_cases hi:j<Gd.length
 ·rw [Ybl hi] at B;obtain ⟨c,h1,h2⟩:=T.nm j F B;exact ⟨c,by rw [Ybl (by rw [T.cl];exact hi)];exact h1,h2⟩
 ·have D:=(Yaj.mp B).1;rw [Yae,Yap] at D;have:j=Gd.length:=by lia
  subst this;rw [Ybt (Yad _),Ych] at B;cases B;exact ⟨c,by rw [<-T.cl,Ybt (Yad _),Ych];rfl,U⟩
end
noncomputable def NxC (m:Nat)(cs:List Int)(j:Nat):Prop:=(cs=[]/\j=m)\/(∃a,cs=[a]/\Nxt m j a)\/∃a b m1,cs=[a,b]/\Nxt m m1 a/\Nxt m1 j b
theorem NxC.step {m B j:Nat}{cs:List Int}{c:Int}(h:NxC m cs B)(D:cs.length<2)(n:Nxt B j c):NxC m (cs++[c]) j:=by
 rcases h with ⟨rfl,rfl⟩ | ⟨a,rfl,h⟩ | ⟨a,b,m1,rfl,_⟩
 ·exact .inr (.inl ⟨c,rfl,n⟩)
 ·exact .inr (.inr ⟨a,c,B,rfl,h,n⟩)
 ·simp at D
noncomputable def LxF (F:Fml):Prop:=F.Pairwise λa b=>JC a b=true
theorem LxF.low {F:Fml}(h:LxF F)(r:Int):LxF (JJ r F):=h.filter _
theorem Zao (r:Int)(a b:List Int):JC (r::a) (r::b)=JC a b:=by
 simp [JC]
theorem LxF.high {F:Fml}(h:LxF F)(r:Int):LxF (GB r F):=by
 unfold GB LxF;rw [Yct];refine (List.Pairwise.filter _ h).imp_of_mem λ{a b} ha j z=>?_;have ha:=(Yby.mp ha).2;have j:=(Yby.mp j).2;cases a with
 | nil=>simp at ha
 | cons x a=>
  cases b with
  | nil=>simp at j
  | cons y b=>
   simp at ha j;subst ha;subst j
   rwa [Zao] at z
structure BfS (R S:List Fml):Prop where
 nd:(R++S).Nodup
 lx:∀G∈S,LxF G
structure BFS (R:List Fml)(ts:List Tri):Prop where
 bf:BF ts R.length
 nd:R.Nodup
 lx:∀F∈R,LxF F
theorem BFS.start {F:Fml}(h:LxF F):BFS [F] []:=⟨BF.start,by simp,λG j=>by rw [Yai.mp j];exact h⟩
theorem BfS.nil {R:List Fml}{ts:List Tri}(h:BFS R ts):BfS R []:=⟨by rw [Ybv];exact h.nd,λG j=>by cases j⟩
theorem BfS.snoc {R S:List Fml}{G:Fml}(h:BfS R S)(B:G ∉ R++S)(D:LxF G):BfS R (S++[G]):=by
 refine ⟨?_,λF j=>?_⟩
 ·rw [<-Ybg];exact Ycd.mpr ⟨h.nd,by simp,λa ha b L=>by rw [Yai.mp L];exact λz=>B (z▸ha)⟩
 ·rcases Yag.mp j with j | j
  ·exact h.lx F j
  ·rw [Yai.mp j];exact D
theorem BFS.step {R S:List Fml}{ts:List Tri}{r j B:Int}(h:BFS R ts)(D:ts.length<R.length)(nx:NxC R.length [j,B] (R++S).length)(b:BfS R S):BFS (R++S) (ts++[(r,j,B)]):=by
 refine ⟨?_,b.nd,λF L=>(Yag.mp L).elim (h.lx F) (b.lx F)⟩;rcases nx with ⟨e,_⟩ | ⟨a,e,_⟩ | ⟨a,Y,m1,e,O,U⟩
 ·cases e
 ·cases e
 ·cases e;exact h.bf.step D O U
theorem ZbF {kvs:TTs}{R:List Fml}(h:KvR kvs R){G:Fml}(e:UM kvs G=Option.none):G ∉ R:=λB=>by
 obtain ⟨i,hi⟩:=List.getElem?_of_mem B;have j:i<kvs.length:=by rw [h.1];exact (Yaj.mp hi).1
 obtain ⟨h1,_⟩:=h.2 i _ (Yaz j);rw [hi] at h1;have D:kvs[i].1=G:=(Ybo h1).symm;unfold UM at e;have:=List.find?_eq_none.mp (Ydg.mp e) kvs[i] (List.getElem_mem j);simp [D] at this
theorem Zfe {R:List Fml}{k:Nat}{G:Fml}(h:R[k]?=some G):Nxt R.length R.length ((k:Int)+2):=.inl ⟨by rw [UI];have:=(Yaj.mp h).1;lia,rfl⟩
theorem Zcf {m:Nat}{c:Int}(h:c=0\/c=1):Nxt m m c:=.inl ⟨by rw [UI];lia,rfl⟩
theorem Zcg:∀{F G:Fml},LxF F->LxF G->(∀s,s∈F↔s∈G)->F=G
 | [],[],_,_,_=>rfl
 | [],g::G,_,_,h=>absurd ((h g).mpr (Yaw ..)) (by simp)
 | f::F,[],_,_,h=>absurd ((h f).mp (Yaw ..)) (by simp)
 | f::F,g::G,hF,hG,h=>by
  obtain ⟨f1,f2⟩:=Ycz.mp hF;obtain ⟨D,L⟩:=Ycz.mp hG;have B:∀{a b:List Int},JC a b=true->JC b a=true->False:=λ{a b} h1 h2=>by
   have:=VI h1 h2;rw [Oe] at this;cases this
  have e:f=g:=by
   rcases Yau.mp ((h f).mp (Yaw ..)) with z | z
   ·exact z
   ·rcases Yau.mp ((h g).mpr (Yaw ..)) with y | y
    ·exact y.symm
    ·exact (B (D f z) (f1 g y)).elim
  subst e;have O:f ∉ F:=λz=>by have:=f1 f z;rw [Oe] at this;cases this
  have U:f ∉ G:=λz=>by have:=D f z;rw [Oe] at this;cases this
  rw [Zcg f2 L λs=>⟨λj=>?_,λj=>?_⟩]
  ·rcases Yau.mp ((h s).mp (Ybf _ j)) with z | z
   ·rw [z] at j;exact absurd j O
   ·exact z
  ·rcases Yau.mp ((h s).mpr (Ybf _ j)) with z | z
   ·rw [z] at j;exact absurd j U
   ·exact z
theorem Num.inj {R:List Fml}{G B:Fml}{c:Int}(h:Num R G c)(h':Num R B c):G=B:=by
 rcases h with ⟨rfl,rfl⟩ | ⟨rfl,rfl⟩ | ⟨i,hi,rfl⟩
 ·rcases h' with ⟨rfl,_⟩ | ⟨_,e⟩ | ⟨j,_,e⟩
  ·rfl
  ·lia
  ·lia
 ·rcases h' with ⟨_,e⟩ | ⟨rfl,_⟩ | ⟨j,_,e⟩
  ·lia
  ·rfl
  ·lia
 ·rcases h' with ⟨_,e⟩ | ⟨_,e⟩ | ⟨j,D,e⟩
  ·lia
  ·lia
  ·have:i=j:=by lia
   subst this;rw [hi] at D;exact Ybo D
theorem Zdt {U:Fml}{R:List Fml}{ts:List Tri}{W:Nat}(h:Rw U R ts W)(B:BFS R ts)(Y:ts.length=R.length):ShOk ts:=by
 refine ⟨(h.fin Y).1,?_,λr Z=>?_⟩
 ·rw [List.nodup_iff_pairwise_ne,Ydf];intro i j hi hj aa e;obtain ⟨F,D,m1,L,h1⟩:=h.nd i _ (Yaz hi);obtain ⟨G,O,m2,l2,h2⟩:=h.nd j _ (Yaz hj);rw [e] at L h1;have el:=L.inj l2;have eh:=h1.inj h2;have em:∀s,s∈F↔s∈G:=λs=>by
   by_cases z:s.head?=some (ts[j]).1
   ·cases s with
    | nil=>simp at z
    | cons x s=>
     simp at z;rw [z,<-mem_high,<-mem_high,eh]
   ·have a:s∈F↔s∈JJ (ts[j]).1 F:=⟨λq=>mem_low.mpr ⟨q,z⟩,λq=>(mem_low.mp q).1⟩;have b:s∈G↔s∈JJ (ts[j]).1 G:=⟨λq=>mem_low.mpr ⟨q,z⟩,λq=>(mem_low.mp q).1⟩;rw [a,b,el]
  have:=Zcg (B.lx F (Yat D)) (B.lx G (Yat O)) em;subst this;have ab:i<R.length:=by lia
  have ac:j<R.length:=by lia
  have e1:=(Yaj.mp D).2;have e2:=(Yaj.mp O).2;have:=(List.getElem_inj B.nd).mp (e1.trans e2.symm)
  lia
 ·obtain ⟨i,hi⟩:=List.getElem?_of_mem Z;obtain ⟨F,_,⟨⟨s,hs⟩,_⟩,_,h2⟩:=h.nd i r hi;intro z;rw [z] at h2;rcases h2 with ⟨e,_⟩ | ⟨_,e⟩ | ⟨j,_,e⟩
  ·have:=mem_high.mpr hs;rw [e] at this;cases this
  ·lia
  ·lia
noncomputable def ZfI (ts:List Tri)(root:Int):Prop:=∃j,Rch ts root j/\Fin ts root j/\Said ts j ts j.length/\ts.length=j.length/\J4 j root=some root
theorem X0 {root:Int}(h:At [] root (-1)):ZfI [] root:=by
 have h0:root=0\/root=1:=by
  rcases h with h | h | ⟨r,n,_⟩
  ·exact .inl h
  ·exact .inr h
  ·have:=n.2;simp at this
 refine ⟨[],.nil,λy B=>?_,λj x D=>(by simp at D),rfl,?_⟩
 ·have:y=root:=by simpa [JD] using B
  rw [this];rintro ⟨a,b,_⟩;rcases h0 with h0 | h0
  ·exact a h0
  ·exact b h0
 ·rcases h0 with rfl | rfl
  ·exact Wr _
  ·exact Xz _
theorem Zdu {R:List Fml}{ts:List Tri}(B:BFS R ts)(L:ts.length=R.length)(T:TabOk ts)(a:At ts 2 (-1)):ZfI ts 2:=by
 have D:=B.bf;rw [<-L] at D;obtain ⟨h1,h2⟩:=D.fin;refine ⟨_,h1,h2,Zac T,by rw [XB],?_⟩;obtain ⟨r,n,_⟩:=a.nd (by decide);have j:0<ts.length:=(Yaj.mp n.2).1;have e:=L2.numI_of (Vd ts.length) (show (1:Int)<2 by decide) (i:=0) (by rw [VG j];rfl);rw [e]
 rfl
noncomputable def Xb (F:Fml):List Int:=F.filterMap List.head?
theorem YG (F:Fml)(s:List Int):Xb (F++[s])=Xb F++(match s with | []=>[] | x::_=>[x]):=by
 unfold Xb;rw [List.filterMap_append];cases s <;> rfl
theorem mem_heads {F:Fml}{x:Int}:x∈Xb F↔∃s,(x::s)∈F:=by
 unfold Xb;rw [Ydk];constructor
 ·rintro ⟨s,h1,h2⟩;cases s with
  | nil=>simp at h2
  | cons y s=>simp at h2;subst h2;exact ⟨s,h1⟩
 ·rintro ⟨s,h⟩;exact ⟨_,h,rfl⟩
theorem Zap (F:Fml):(Xb F).length<=F.length:=List.length_filterMap_le ..
theorem X2 (r:Int)(F:Fml)(s:List Int):JJ r (F++[s])=JJ r F++(if s.head?=some r then [] else [s]):=by
 unfold JJ;rw [Ydh];by_cases h:s.head?=some r <;> simp [h]
theorem WJ (r:Int)(F:Fml)(s:List Int):GB r (F++[s])=GB r F++(if s.head?=some r then [s.tail] else []):=by
 unfold GB;rw [Ydh,Yak];by_cases h:s.head?=some r <;> simp [h]
theorem Zgy {F:Fml}{n:Nat}(h:∀s∈F,s.length<=n):wt F<=n * F.length:=by
 induction F with
 | nil=>simp [wt]
 | cons s F ih=>
  have h1:=ih λu j=>h u (Ybf _ j);have h2:=h s (Yaw ..);unfold wt at h1 ⊢;rw [Yaq,List.sum_cons,Ybq,Nat.mul_succ]
  lia
theorem Zff:∀{F:Fml},F.Nodup->F.length<=wt F+1:=by
 intro F nd;have h:F.length<=wt F+(if []∈F then 1 else 0):=by
  induction F with
  | nil=>simp [wt]
  | cons s F j=>
   obtain ⟨B,D⟩:=List.nodup_cons.mp nd;have j:=j D;unfold wt at j ⊢;rw [Yaq,List.sum_cons,Ybq];cases s with
   | nil=>
    rw [if_neg B] at j;rw [if_pos (Yaw ..)];simp
    lia
   | cons x s=>
    by_cases e:([]:List Int)∈F
    ·rw [if_pos e] at j;rw [if_pos (Ybf _ e)];simp
     lia
    ·rw [if_neg e] at j;rw [if_neg (by simpa using e)];simp
     lia
 split at h <;> lia
theorem Zaq {F:Fml}(h:F.Pairwise λa b=>JC a b=true):F.Nodup:=h.imp λ{a b} z e=>by rw [e,Oe] at z;cases z
theorem ZbG (ns:List Int):Xi (ns.map V.int) (some 1) none=(ns.drop 1).map V.int:=by
 unfold Xi;rw [show (some (1:Int))=some ((1:Nat):Int) from rfl,HT.sIx_nat];simp [HT.sIx];cases ns with
 | nil=>rfl
 | cons a b=>
  simp;exact Yeh (by rw [Yab];exact Yad _)
section
variable {P:Program}{w:World}{K:W.Frag}{mg:Str->Option Value}{base:Heap}
noncomputable def Zfg:Sp:=λvs H Q _=>∃(l:Addr)(zs:List (Addr×List Int)),vs=[.ref l]/\H l=some (.lst (zs.map λz=>V.ref z.1))/\Lz H zs/\zs.length<=130/\(∀z∈zs,z.2.Pairwise (· < ·)/\z.2.length<=12/\∀x∈z.2,0<=x/\x<30) /\
 ∀(j nl:Addr)(root:Int)(xs:List V)(ts:List Tri)(H':Hp),Same H H'->H j=none->H nl=none->TabAt H' j nl root xs ts->ShOk ts->ZfI ts root->At ts root (-1)->ts.length<=1600->(∀s,Has ts root s↔s∈zs.map (·.2))->Q (.ref j) H'
theorem scTab:Gs ["sets", "row", "found", "nodes", "at", "road", "low", "high", "numbers", "part"] ["sets"] (Gh ZeB):=⟨rfl,rfl,rfl,by decide +kernel,rfl,by decide +kernel,by decide +kernel⟩
theorem Zfh {f fO:Addr}{fd aR:FuncData}(F:Fun K "_law_table" "_law_table" ZeB f fd)(FO:Fun K "_law_once" "_law_once" ZdE fO aR)(bO:Binds K aR ["sets"] [])(mO:mg "_law_once" = some (.ref fO))(ar:mg "len" = none)(bd:mg "min" = none)(am:mg "tuple" = none)(be:mg "sorted" = none):FnOk P w K mg base CX0 2 f fd ["sets"] Zfg:=by
 have GO:FnOk P w K mg base CX0 1 fO aR ["sets"] ZbA:=Zai FO be;refine F.ok scTab (λvs H Q E h=>?_) (λb1 A outer s H vs Q E hr h=>?_)
 ·obtain ⟨_,_,rfl,_⟩:=h
  rfl
 ·obtain ⟨l,zs,rfl,el,lz,bN,aS,q⟩:=h;have hu:=hr.units;have au:(A.deeper (PyProof.Rows.envOfC "_law_table" (Gh ZeB) s.heap.objs.size f b1)).units+71<cLine:=by have:=hr.un;lia
  have bP:=Ybi.symm;refine ⟨_,Ge (Gp (i:=1) scTab.nd rfl (Or.inl rfl) (Gy (Ga (Jo (own:=["one"]) rfl (Jw (by decide +kernel) (by decide +kernel) rfl (by decide +kernel)) (Jz K (Gk GO (hr.mono (by decide)) rfl mO FO.kp bO .nil Gv (Ga (pv 0) Gc))) (λ_ _ _ _=>Go (i:=0) (show List.Nodup (["one"]:List Str) by decide +kernel) rfl (Or.inl rfl)) (λ_ _ _ _=>Oz) (λ_ _ _ _=>Jf (Wx K) rfl am Jd (Ga (pv 0) Gc))) Gc)))
    (Ge (Jl (PW.pt (UO (Gr (Zd8 K hu) (GD (On K) (pv 1) Gg (λ_ _=>rfl)) (Gy Gc) (GA _)) (Ov (Gr (Zd8 K hu) (GD (On K) (pv 1) Gg (λ_ _=>rfl)) (Gy (Ga (Je Gc) Gc)) (GA _))))) (Gj (Gx (Je (Ga (Gu (YI K) rfl ar Ycu (Ga (GD (On K) (pv 1) Gg (λ_ _=>rfl)) Gc)) (Ga (Gy Gc) Gc))))) GC)
    (Ge (Gp (i:=2) scTab.nd rfl (Or.inl rfl) (Zbi rfl rfl au (Jf (Wx K) rfl am Jd (Ga (GD (On K) (pv 1) Gg (λ_ _=>rfl)) Gc)) Gg))
    (Ge (Gp (i:=3) scTab.nd rfl (Or.inl rfl) (Gy Gc))
    (Ge (Gp (i:=4) scTab.nd rfl (Or.inl rfl) Gg)
    (Ge (Vm Yck (Gr ZdR (pv 4) (Gu (YI K) rfl ar Ycu (Ga (pv 1) Gc)) (GA _))
    (Ge (Gp (i:=5) scTab.nd rfl (Or.inr rfl) (Gu (ZgO K rfl) rfl bd Vv (Ga (Jo (own:=["one"]) rfl (Jw (by decide +kernel) (by decide +kernel) rfl (by decide +kernel)) (Jz K (GD (On K) (pv 1) (pv 4) (λ_ _=>rfl))) (λ_ _ _ _=>Go (i:=0) (show List.Nodup (["one"]:List Str) by decide +kernel) rfl (Or.inl rfl)) (λ_ _ _ _=>Jb (Gr (ZcB K hu) (pv 0) (Je Gc) (GA _))) (λ_ _ _ _=>GD (U7 K) (pv 0) Gg (λ_ _=>rfl))) Gc)))
    (Ge (Uy (i:=6) scTab.nd rfl (Or.inl rfl) (own:=["one"]) rfl (Gq (fr:=[("road", 5)]) [(".0", .local),("one", .local),("road", .cell)] rfl rfl (by decide +kernel) rfl (by decide +kernel) ⟨rfl,trivial⟩ ⟨λh=>G7 h,λh=>G7 h,λ_=>⟨_,rfl⟩,trivial⟩ ⟨⟨rfl,.inl rfl,.inl rfl⟩,trivial⟩) (Jz K (GD (On K) (pv 1) (pv 4) (λ_ _=>rfl))) (λ_ _ _ _=>Go (i:=0) (show List.Nodup (["one", "road"]:List Str) by decide +kernel) rfl (Or.inl rfl)) (λ_ _ _ _=>Jb (PW.pt (UO (Gr (Zd8 K hu) (pv 0) (Je Gc) (GA _)) (Ov (Gr ZdQ (GD (U7 K) (pv 0) Gg (λ_ _=>rfl)) (pv 1) (GA _)))))) (λ_ _ _ _=>pv 0))
    (Ge (Uy (i:=7) scTab.nd rfl (Or.inl rfl) (own:=["one"]) rfl (Gq (fr:=[("road", 5)]) [(".0", .local),("one", .local),("road", .cell)] rfl rfl (by decide +kernel) rfl (by decide +kernel) ⟨rfl,trivial⟩ ⟨λh=>G7 h,λh=>G7 h,λ_=>⟨_,rfl⟩,trivial⟩ ⟨⟨rfl,.inl rfl,.inl rfl⟩,trivial⟩) (Jz K (GD (On K) (pv 1) (pv 4) (λ_ _=>rfl))) (λ_ _ _ _=>Go (i:=0) (show List.Nodup (["one", "road"]:List Str) by decide +kernel) rfl (Or.inl rfl)) (λ_ _ _ _=>Jb (PW.pt (V1 (Gr (ZcB K hu) (pv 0) (Je Gc) (GA _)) (Vl (Gr Ox (GD (U7 K) (pv 0) Gg (λ_ _=>rfl)) (pv 1) (GA _)))))) (λ_ _ _ _=>J8 (Zfx K) (pv 0) (OV Gg) OU))
    (Ge (Gp (i:=8) scTab.nd rfl (Or.inl rfl) (Gy Gc))
    (Ge (JE Yck rfl (Jz K (Gy (Ga (pv 6) (Ga (pv 7) Gc)))) (Go (i:=9) scTab.nd rfl (Or.inl rfl))
    (Ge (Jl (PW.pt (V1 (Gr (ZcB K hu) (pv 9) (Gy Gc) (GA _)) (V1 (Gr (ZcB K hu) (pv 9) (Gy (Ga (Je Gc) Gc)) (GA _)) (Vl (Xf (ZO rfl rfl au (Jf (Wx K) rfl am Jd (Ga (pv 9) Gc)) (pv 2)) rfl))))) (Ge (ZcW rfl rfl au (pv 2) (Jf (Wx K) rfl am Jd (Ga (pv 9) Gc)) (GE Jv (Gu (YI K) rfl ar Ycu (Ga (pv 1) Gc)) Gg) rfl)
    (Gj (Jc (Oq Yce Ycp Ycq GQ (pv 1) (Ga (pv 9) Gc))))) GC)
    (Gj (Jc (Oq Yce Ycp Ycq GQ (pv 8) (Ga (Zbh rfl rfl au (pv 2) (Jf (Wx K) rfl am Jd (Ga (pv 9) Gc)) (Gu (YI K) rfl ar Ycu (Ga (pv 9) Gc)) ⟨rfl,rfl,rfl,rfl⟩) Gc))))))
    (Ge (Jc (Oq Yce Ycp Ycq GQ (pv 3) (Ga (Je (Ga (pv 5) (Ga (GD (On K) (pv 8) Gg (λ_ _=>rfl)) (Ga (GD (On K) (pv 8) Gg (λ_ _=>rfl)) Gc)))) Gc)))
    (Gj (Gp (i:=4) scTab.nd rfl (Or.inl rfl) (GE Jv (pv 4) Gg))))))))))
    (Gj (Gx (Je (Ga Gg (Ga (pv 3) Gc)))))))))),?_⟩
  refine Gw (λO H'=>∃(D rw:Addr)(F0:Fml)(cs:List Addr),O=[some (.ref l),some (.ref rw),none,none,none,none,none,none,none,none]/\Same H H'/\H rw=none/\H D=none/\D≠rw/\H' rw=some (.lst [.ref D])/\H' D=some (.lst (cs.map V.ref))/\TpsAt H' F0 cs/\F0.length<=130/\FamOk F0/\wt F0<=1560/\(∀s,s∈F0↔s∈zs.map (·.2))/\LxF F0) ?s0 ?f0
  case f0=>
   intro hk;refine ⟨_,rfl,l,zs,rfl,el,lz,by lia,λa ws H1 s1 ha ea sub so al ln=>⟨a,rfl,⟨_,SqL.of ea⟩,λD hD=>?_⟩⟩;refine GL (K:=K) (a:=a) (xs:=ws.map λz=>V.ref z.1) (λj ys H'=>∃cs:List Addr,ys=cs.map V.ref/\Same H1 H'/\H' D=some (.lst ys)/\TpsAt H' ((ws.map (·.2)).take j) cs) ⟨[],rfl,Same.new hD,Gb,.nil⟩ (by rintro j ys H' _ ⟨_,_,s,_⟩;exact SqL.of (s _ _ ea)) ?_ ?_
   ·rintro j y ys H2 ac ⟨cs,rfl,s2,eD,Z⟩;rw [Ybb] at ac;obtain ⟨z,hz,rfl⟩:=Ybk.mp ac;have b2:=sub z (Yat hz);have tk:(ws.map (·.2)).take (j+1)=(ws.map (·.2)).take j++[z.2]:=by rw [Ybu,Ybb,hz];rfl
    have ah:=Z.length;rw [Yba] at ah;have hj:j<ws.length:=(Yaj.mp hz).1;refine ⟨trivial,?_⟩;unfold ZdA;refine OW ?_;refine ⟨_,rfl,z.1,_,rfl,.inl ⟨SqL.of (s2 _ _ (s1 _ _ (lz z b2))),λt ht=>?_⟩⟩;have s3:Same H2 (upd H2 t (.tup (z.2.map V.int))):=Same.new ht;have bQ:D≠t:=Gf eD ht;refine ⟨s3 _ _ eD,(by rw [Yab];lia),cs++[t],by rw [Yak];rfl,(s2.trans s3).put hD,Gb,?_⟩;rw [tk];have t1:=Jq (o:=.lst (cs.map V.ref++[.ref t])) (s3 _ _ eD);exact Paired.snoc ((Z.keep λp ys e=>s3 _ _ e).keep t1) (t1 _ _ Gb)
   ·rintro ys H2 ⟨cs,rfl,s2,eD,Z⟩;rw [Yab,<-Yab (f:=λz:Addr×List Int=>z.2),Ybn] at Z;refine ⟨(by show 1<=sizeLine;decide),λrw a1=>?_⟩;have s3:Same H2 (upd H2 rw (.lst [.ref D])):=Same.new a1;have S2:=s1.trans s2;refine hk _ _ ⟨D,rw,ws.map (·.2),cs,rfl,S2.trans s3,S2.free a1,s1.free hD,Gf eD a1,Gb,s3 _ _ eD,Z.keep λp ys e=>s3 _ _ e,by rw [Yab];lia,⟨Zaq so,λs hs=>?_,λs hs=>?_⟩,?_,λs=>⟨λhs=>?_,λhs=>?_⟩,show LxF (ws.map (·.2)) from so⟩
    ·obtain ⟨z,hz,rfl⟩:=Yam.mp hs;exact (aS z (sub z hz)).1
    ·obtain ⟨z,hz,rfl⟩:=Yam.mp hs;exact (aS z (sub z hz)).2.2
    ·have:=Zgy (F:=ws.map (·.2)) (n:=12) λs hs=>by
      obtain ⟨z,hz,rfl⟩:=Yam.mp hs;exact (aS z (sub z hz)).2.1
     rw [Yab] at this
     lia
    ·obtain ⟨z,hz,rfl⟩:=Yam.mp hs;exact Yam.mpr ⟨z,sub z hz,rfl⟩
    ·obtain ⟨z,hz,rfl⟩:=Yam.mp hs;exact al z hz
  rintro O H1 ⟨D,rw,F0,cs,rfl,s1,a1,bR,b3,er,eD,Z,bS,bf,bT,aM,b4⟩;have r0:∀{H':Hp},Same H1 H'->SqL K H' rw [V.ref D]:=λs=>SqL.of (s _ _ er);refine Gw (λO H'=>O=[some (.ref l),some (.ref rw),none,none,none,none,none,none,none,none]/\Same H1 H'/\Inner F0) ?s1 ?f1
  case f1=>
   intro hk;have done:∀H2:Hp,Same H1 H2->∀root:Int,(F0.length:Int)=root->At [] root (-1)->(∀s,Has [] root s↔s∈F0)->∀nl,H2 nl=none->∀Z,upd H2 nl (.lst []) Z=none->Q (.ref Z) (upd (upd H2 nl (.lst [])) Z (.tup [.int ((cs.map V.ref).length:Int),.ref nl])):=λH2 s2 root e1 e2 e3 nl ad bg af=>by
    have ah:=Z.length;have S2:=s1.trans s2;have s3:Same H2 (upd H2 nl (.lst [])):=Same.new ad;have b5:nl≠bg:=Gf Gb af;refine q bg nl root [] [] _ ((S2.trans s3).put (S2.free (s3.free af))) (S2.free (s3.free af)) (S2.free ad) ⟨?_,Gi Gb b5,.nil⟩ ShOk.nil (X0 e2) e2 (by decide) λs=>(e3 s).trans (aM s);rw [Gb,Yab,<-ah,e1]
   refine ⟨_,rfl,rw,_,_,_,rfl,rfl,SqL.of er,Gm (j:=0) rfl,Yao _,λe he=>?_⟩;have s2:Same H1 (upd H1 e (.lst [])):=Same.new he;refine ⟨.list (F0.map JX),.list (([]:Fml).map JX),.lst (SqL.of (s2 _ _ eD)) (TpsAt.dats (Z.keep λp ys e=>s2 _ _ e)),.lst (SqL.of Gb) .nil,GY _,GY _,_,rfl,?_⟩;rw [OP];generalize upd H1 e (.lst [])=H2 at s2 ⊢;refine O7 (λc1=>OW ?_) (λc1=>?_)
   ·have hF:F0=[]:=by
     by_cases hF:F0=[]
     ·exact hF
     ·simp [hF] at c1
    refine ⟨_,rfl,rw,_,_,_,rfl,rfl,r0 s2,Gm (j:=0) rfl,D,_,rfl,.inl (SqL.of (s2 _ _ eD)),Yao _,λnl ad=>⟨JB,λZ af=>?_⟩⟩;exact done H2 s2 0 (by rw [hF];rfl) (.inl rfl) (λs=>by rw [hF];exact ⟨λz=>absurd z Has.zero,λz=>by cases z⟩) nl ad Z af
   ·have hF:F0≠[]:=λhF=>c1 (by simp [hF]);refine ⟨_,rfl,rw,_,_,_,rfl,rfl,r0 s2,Gm (j:=0) rfl,Yao _,λe2 a3=>⟨(by show 1<=sizeLine;decide),λe3 a4=>?_⟩⟩;have s3:Same H2 (upd (upd H2 e2 (.tup [])) e3 (.lst [.ref e2])):=(Same.new a3).put ((Same.new a3).free a4);have aT:e2≠e3:=Gf Gb a4;have s4:=s2.trans s3;refine ⟨.list (F0.map JX),.list (([[]]:Fml).map JX),.lst (SqL.of (s4 _ _ eD)) (TpsAt.dats (Z.keep λp ys e=>s4 _ _ e)),.lst (SqL.of Gb) (.cons (.tup (SqT.of (Gi Gb aT)) .nil) .nil),GY _,GY _,_,rfl,?_⟩;rw [OP];generalize upd (upd H2 e2 (.tup [])) e3 (.lst [.ref e2])=H3 at s4 ⊢;refine O7 (λc2=>?_) (λc2=>?_)
    ·have bh:F0=[[]]:=by
      by_cases hF:F0=[[]]
      ·exact hF
      ·simp [hF] at c2
     refine ⟨_,rfl,rw,_,_,_,rfl,rfl,r0 s4,Gm (j:=0) rfl,D,_,rfl,.inl (SqL.of (s4 _ _ eD)),Yao _,λnl ad=>⟨JB,λZ af=>?_⟩⟩;exact done H3 s4 1 (by rw [bh];rfl) (.inr (.inl rfl)) (λs=>by rw [bh,Has.at1];simp) nl ad Z af
    ·exact hk _ _ ⟨rfl,s4,hF,λhF=>c2 (by simp [hF])⟩
  rintro O H2 ⟨rfl,s2,bi⟩;have S2:=s1.trans s2;have aA:=s2 _ _ er;have aB:=s2 _ _ eD;have aU:TpsAt H2 F0 cs:=Z.keep λp ys e=>s2 _ _ e;clear s2 er eD Z r0;refine Gw (λO H'=>∃(fd:Addr)(kvs:TTs),O=[some (.ref l),some (.ref rw),some (.ref fd),none,none,none,none,none,none,none]/\Same H2 H'/\H2 fd=none/\H' fd=some (dtt P w fd kvs)/\KeysTT H' kvs/\KvR kvs [F0]) ?s2 ?f2
  case f2=>
   intro hk fd ay;have s3:Same H2 (upd H2 fd (.dK [])):=Same.new ay;refine ⟨_,rfl,rw,_,_,_,rfl,rfl,SqL.of (s3 _ _ aA),Gm (j:=0) rfl,D,_,rfl,.inl ⟨SqL.of (s3 _ _ aB),λt ht=>?_⟩⟩;have s4:Same (upd H2 fd (.dK [])) (upd (upd H2 fd (.dK [])) t (.tup (cs.map V.ref))):=Same.new ht;have bj:fd≠t:=Gf Gb ht;have kt:KeyTT (upd (upd H2 fd (.dK [])) t (.tup (cs.map V.ref))) t F0:=⟨cs,Gb,Paired.mapP aU λ_ _ e=>s4 _ _ (s3 _ _ e)⟩;refine ⟨Gi Gb bj,t,F0,rfl,kt,?_⟩;have t1:∀p ys,upd (upd H2 fd (.dK [])) t (.tup (cs.map V.ref)) p=some (.tup ys)->upd (upd (upd H2 fd (.dK [])) t (.tup (cs.map V.ref))) fd (dtt P w fd [(F0,t,.int 2)]) p=some (.tup ys):=λp ys e=>Gi e (λz=>by rw [z,Gi Gb bj] at e;cases e);refine hk _ _ ⟨fd,[(F0,t,.int 2)],rfl,(s3.trans s4).put ay,ay,Gb,λp hp=>?_,rfl,λi p e=>?_⟩
   ·rw [Yai.mp hp];exact kt.keep t1
   ·cases i with
    | zero=>simp at e;subst e;exact ⟨rfl,rfl⟩
    | succ i=>simp at e
  rintro O H3 ⟨fd,kvs,rfl,s3,ay,ed,ks,kr⟩;refine Gw (λO H'=>∃(nl:Addr),O=[some (.ref l),some (.ref rw),some (.ref fd),some (.ref nl),none,none,none,none,none,none]/\Li P w H H' rw fd nl [F0] [D] kvs [] []) ?s3 ?f3
  case f3=>
   intro hk;refine ⟨Yao _,λnl ad=>?_⟩;have s4:Same H3 (upd H3 nl (.lst [])):=Same.new ad;refine hk _ _ ⟨nl,rfl,(S2.trans s3).trans s4,s4 _ _ (s3 _ _ aA),.cons ⟨cs,s4 _ _ (s3 _ _ aB),aU.keep λp ys e=>s4 _ _ (s3 _ _ e)⟩ .nil,λa ha=>?_,s4 _ _ ed,ks.keep λp ys e=>s4 _ _ e,kr,Gb,.nil,a1,S2.free ay,(S2.trans s3).free ad,Gf (s3 _ _ aA) ad⟩;rw [Yai.mp ha];exact ⟨b3,Gf (s3 _ _ aB) ad⟩
  clear s3 ay ed ks kr aA aB aU H3;rintro O H3 ⟨nl,rfl,L0⟩;refine Gw (λO H'=>O=[some (.ref l),some (.ref rw),some (.ref fd),some (.ref nl),some (.int 0),none,none,none,none,none]/\H'=H3) ?s4 ?f4
  case f4=>exact λhk=>hk _ _ ⟨rfl,rfl⟩
  rintro O bU ⟨rfl,rfl⟩;refine Gw (λO H'=>∃(R:List Fml)(al:List Addr)(kvs:TTs)(xs:List V)(ts:List Tri)(v5 v6 v7 v8 v9:Option V),O=[some (.ref l),some (.ref rw),some (.ref fd),some (.ref nl),some (.int (ts.length:Int)),v5,v6,v7,v8,v9]/\Li P w H H' rw fd nl R al kvs xs ts/\Rw F0 R ts 1560/\ts.length=R.length/\BFS R ts) ?s5 ?f5
  case s5=>
   rintro O H4 ⟨R,al,kvs,xs,ts,v5,v6,v7,v8,v9,rfl,L,W,aV,B⟩;obtain ⟨T,a2,hh⟩:=W.fin aV;have hl:=W.len;refine ⟨_,rfl,JB,λZ af=>?_⟩;have s5:Same H4 (upd H4 Z (.tup [.int 2,.ref nl])):=Same.new af;exact q Z nl 2 xs ts _ (L.s.trans s5) (L.s.free af) L.f3 ⟨Gb,s5 _ _ L.en,L.tr.same s5⟩ (Zdt W B aV) (Zdu B aV T a2) a2 (by lia) λs=>(hh s).trans (aM s)
  case f5=>
   intro hk;refine ⟨λm O H'=>∃(R:List Fml)(al:List Addr)(kvs:TTs)(xs:List V)(ts:List Tri)(v5 v6 v7 v8 v9:Option V),O=[some (.ref l),some (.ref rw),some (.ref fd),some (.ref nl),some (.int (ts.length:Int)),v5,v6,v7,v8,v9]/\Li P w H H' rw fd nl R al kvs xs ts/\Rw F0 R ts 1560/\m=((R.drop ts.length).map wt).sum/\BFS R ts,
    ⟨_,[F0],[D],kvs,[],[],none,none,none,none,none,rfl,L0,{ Rw.start bf bi with we:=by have:=(Rw.start bf bi).we;lia },rfl,BFS.start b4⟩,?_⟩
   clear L0 kvs;rintro m O H4 ⟨R,al,kvs,xs,ts,v5,v6,v7,v8,v9,rfl,L,W,rfl,B⟩;have bV:=W.len;have az:=L.len;refine ⟨_,rfl,_,rfl,rw,_,rfl,.inl (SqL.of L.er),_,_,rfl,rfl,_,rfl,O7 (λc1=>?_) (λc1=>?_)⟩
   ·have aW:=Ycv c1;rw [Yab,az] at aW;have hn:ts.length<R.length:=by lia
    obtain ⟨F,hF⟩:∃F,R[ts.length]?=some F:=⟨_,Yaz hn⟩;obtain ⟨a,ha,cs,ea,Z⟩:=Paired.get L.fr hF;obtain ⟨aC,b6⟩:=W.ok F (Yat hF);have bl:=B.lx F (Yat hF);have a5:atI (al.map V.ref) (ts.length:Int)=some (.ref a):=Gm (by rw [Ybb,ha];rfl);have ah:=Z.length;have bM:F.length<=1561:=by
     have h1:=Zff aC.nd;have h2:=W.we;rw [Yde hn,(Yaj.mp hF).2,Yaq,List.sum_cons] at h2
     lia
    refine ⟨_,λ_ _ h=>h,?_⟩;refine Gw (λO H'=>∃r:Int,O=[some (.ref l),some (.ref rw),some (.ref fd),some (.ref nl),some (.int (ts.length:Int)),some (.int r),v6,v7,v8,v9]/\Same H4 H'/\Zbz r F) ?s6 ?f6
    case f6=>
     intro ae;refine ⟨_,rfl,_,rfl,rw,_,_,_,rfl,rfl,SqL.of L.er,a5,a,rfl,⟨_,SqL.of ea⟩,λD hD=>?_⟩;refine GL (K:=K) (a:=a) (xs:=cs.map V.ref) (λj ys H'=>Same H4 H'/\H' D=some (.lst ys)/\ys=(Xb (F.take j)).map V.int) ⟨Same.new hD,Gb,rfl⟩ (by rintro j ys H' _ ⟨s,_⟩;exact SqL.of (s _ _ ea)) ?_ ?_
     ·rintro j y ys H5 ac ⟨s5,eD,rfl⟩;rw [Ybb] at ac;obtain ⟨c,hc,rfl⟩:=Ybk.mp ac;obtain ⟨u,hu,ec⟩:=Paired.get' Z hc;have tk:F.take (j+1)=F.take j++[u]:=by rw [Ybu,hu];rfl
      have b7:=Zap (F.take j);rw [Yba] at b7;refine ⟨trivial,?_⟩;refine ⟨_,rfl,Yao _,λe he=>?_⟩;have s6:Same H5 (upd H5 e (.tup [])):=Same.new he;have bW:D≠e:=Gf eD he;refine ⟨JX u,JX [],.tup (SqT.of (s6 _ _ (s5 _ _ ec))) (G3 _),.tup (SqT.of Gb) .nil,Jk _,Jk _,_,rfl,?_⟩;rw [Ul,tk,YG];cases u with
      | nil=>exact Oj ⟨s5.trans s6,s6 _ _ eD,by rw [Ybv]⟩
      | cons x u=>
       refine OW ?_;refine ⟨_,rfl,c,_,_,_,rfl,rfl,SqT.of (s6 _ _ (s5 _ _ ec)),Gm (j:=0) rfl,s6 _ _ eD,(by rw [Yab];lia),(s5.trans s6).put hD,Gb,by rw [Yak];rfl⟩
     ·rintro ys H5 ⟨s5,eD,rfl⟩;rw [Yab,<-ah,Ybn] at eD;refine ⟨D,_,rfl,SqL.of eD,λz=>?_,λm hm b8=>?_⟩
      ·obtain ⟨x,u,hx⟩:=b6.ex aC.nd;have:=mem_heads.mpr ⟨u,hx⟩;rw [z] at this;cases this
      ·exact ae _ _ ⟨m,rfl,s5,mem_heads.mp hm,λx u hx=>b8 x (mem_heads.mpr ⟨u,hx⟩)⟩
    rintro O H5 ⟨r,rfl,s5,aN⟩;have L5:=L.grow s5;have aD:=s5 _ _ ea;have aX:TpsAt H5 F cs:=Z.keep λp ys e=>s5 _ _ e;refine Gw (λO H'=>∃lo:Addr,O=[some (.ref l),some (.ref rw),some (.ref fd),some (.ref nl),some (.int (ts.length:Int)),some (.int r),some (.ref lo),v7,v8,v9]/\Same H5 H'/\H5 lo=none/\FamAt H' lo (JJ r F)) ?s7 ?f7
    case f7=>
     intro ae;refine ⟨_,rfl,_,rfl,rw,_,_,_,rfl,rfl,SqL.of L5.er,a5,a,rfl,⟨_,SqL.of aD⟩,λD hD=>?_⟩;refine GL (K:=K) (a:=a) (xs:=cs.map V.ref) (λj ys H'=>∃ds:List Addr,ys=ds.map V.ref/\Same H5 H'/\H' D=some (.lst ys)/\TpsAt H' (JJ r (F.take j)) ds) ⟨[],rfl,Same.new hD,Gb,.nil⟩ (by rintro j ys H' _ ⟨_,_,s,_⟩;exact SqL.of (s _ _ aD)) ?_ ?_
     ·rintro j y ys H6 ac ⟨ds,rfl,s6,eD,tl⟩;rw [Ybb] at ac;obtain ⟨c,hc,rfl⟩:=Ybk.mp ac;obtain ⟨u,hu,ec⟩:=Paired.get' aX hc;have tk:F.take (j+1)=F.take j++[u]:=by rw [Ybu,hu];rfl
      have aY:=tl.length;have aZ:(JJ r (F.take j)).length<=(F.take j).length:=Ycl _ _;rw [Yba] at aZ;have bm:∀{H7:Hp},Same H6 H7->u.head?≠some r->H7 D=some (.lst (ds.map V.ref))/\(ds.map V.ref).length<sizeLine/\∃a6:List Addr,ds.map V.ref++[.ref c]=a6.map V.ref/\Same H5 (upd H7 D (.lst (ds.map V.ref++[.ref c])))/\upd H7 D (.lst (ds.map V.ref++[.ref c])) D=some (.lst (ds.map V.ref++[.ref c]))/\TpsAt (upd H7 D (.lst (ds.map V.ref++[.ref c]))) (JJ r (F.take (j+1))) a6:=λ{H7} s7 hh=>by
       have t1:=Jq (o:=.lst (ds.map V.ref++[.ref c])) (s7 _ _ eD);refine ⟨s7 _ _ eD,(by rw [Yab];lia),ds++[c],by rw [Yak];rfl,(s6.trans s7).put hD,Gb,?_⟩;rw [tk,X2,if_neg hh];exact Paired.snoc ((tl.keep λp ys e=>s7 _ _ e).keep t1) (t1 _ _ (s7 _ _ (s6 _ _ ec)))
      refine ⟨⟨rfl,trivial⟩,?_⟩;refine ⟨_,rfl,Yao _,λe he=>?_⟩;have s7:Same H6 (upd H6 e (.tup [])):=Same.new he;refine ⟨JX u,JX [],.tup (SqT.of (s7 _ _ (s6 _ _ ec))) (G3 _),.tup (SqT.of Gb) .nil,Jk _,Jk _,_,rfl,?_⟩;rw [Ul];cases u with
      | nil=>
       refine OW (OW ?_);exact ⟨_,rfl,bm s7 (by simp)⟩
      | cons x u=>
       refine Oj ?_;refine ⟨_,rfl,c,_,_,_,rfl,rfl,SqT.of (s7 _ _ (s6 _ _ ec)),Gm (j:=0) rfl,_,rfl,rfl,_,rfl,O7 (λc2=>?_) (λc2=>?_)⟩
       ·have:x≠r:=λz=>by rw [z] at c2;simp at c2
        exact ⟨_,rfl,bm s7 (by simp [this])⟩
       ·have:x=r:=Decidable.byContradiction λz=>c2 (by simp [z]);refine ⟨ds,rfl,s6.trans s7,s7 _ _ eD,?_⟩;rw [tk,X2,if_pos (by rw [this];rfl),Ybv];exact tl.keep λp ys e=>s7 _ _ e
     ·rintro ys H6 ⟨ds,rfl,s6,eD,tl⟩;rw [Yab,<-ah,Ybn] at tl;exact ae _ _ ⟨D,rfl,s6,hD,ds,eD,tl⟩
    rintro O H6 ⟨lo,rfl,s6,aE,bn⟩;have L6:=L5.grow s6;have ba:=s6 _ _ aD;have bo:TpsAt H6 F cs:=aX.keep λp ys e=>s6 _ _ e;refine Gw (λO H'=>∃hi:Addr,O=[some (.ref l),some (.ref rw),some (.ref fd),some (.ref nl),some (.int (ts.length:Int)),some (.int r),some (.ref lo),some (.ref hi),v8,v9]/\Same H6 H'/\H6 hi=none/\FamAt H' hi (GB r F)) ?s8 ?f8
    case f8=>
     intro ae;refine ⟨_,rfl,_,rfl,rw,_,_,_,rfl,rfl,SqL.of L6.er,a5,a,rfl,⟨_,SqL.of ba⟩,λD hD=>?_⟩;refine GL (K:=K) (a:=a) (xs:=cs.map V.ref) (λj ys H'=>∃ds:List Addr,ys=ds.map V.ref/\Same H6 H'/\H' D=some (.lst ys)/\TpsAt H' (GB r (F.take j)) ds) ⟨[],rfl,Same.new hD,Gb,.nil⟩ (by rintro j ys H' _ ⟨_,_,s,_⟩;exact SqL.of (s _ _ ba)) ?_ ?_
     ·rintro j y ys H7 ac ⟨ds,rfl,s7,eD,tl⟩;rw [Ybb] at ac;obtain ⟨c,hc,rfl⟩:=Ybk.mp ac;obtain ⟨u,hu,ec⟩:=Paired.get' bo hc;have tk:F.take (j+1)=F.take j++[u]:=by rw [Ybu,hu];rfl
      have aY:=tl.length;have aZ:(GB r (F.take j)).length<=(F.take j).length:=by unfold GB;rw [Yab];exact Ycl _ _
      rw [Yba] at aZ;have no:∀{H8:Hp},Same H7 H8->u.head?≠some r->∃a6:List Addr,ds.map V.ref=a6.map V.ref/\Same H6 H8/\H8 D=some (.lst (ds.map V.ref))/\TpsAt H8 (GB r (F.take (j+1))) a6:=λ{H8} s8 hh=>by
       refine ⟨ds,rfl,s7.trans s8,s8 _ _ eD,?_⟩;rw [tk,WJ,if_neg hh,Ybv];exact tl.keep λp ys e=>s8 _ _ e
      refine ⟨⟨rfl,trivial⟩,?_⟩;refine ⟨_,rfl,Yao _,λe he=>?_⟩;have s8:Same H7 (upd H7 e (.tup [])):=Same.new he;refine ⟨JX u,JX [],.tup (SqT.of (s8 _ _ (s7 _ _ ec))) (G3 _),.tup (SqT.of Gb) .nil,Jk _,Jk _,_,rfl,?_⟩;rw [Ul];cases u with
      | nil=>
       refine Oj (Oj ?_);exact no s8 (by simp)
      | cons x u=>
       refine OW ?_;refine ⟨_,rfl,c,_,_,_,rfl,rfl,SqT.of (s8 _ _ (s7 _ _ ec)),Gm (j:=0) rfl,_,rfl,rfl,_,rfl,O7 (λc2=>?_) (λc2=>?_)⟩
       ·have hx:x=r:=V.int.inj (Ycv c2);refine ⟨_,rfl,_,rfl,c,_,rfl,SqT.of (s8 _ _ (s7 _ _ ec)),?_,λt ht=>?_⟩
        ·rintro ⟨z,_⟩;rw [show (some (1:Int))=some ((1:Nat):Int) from rfl,HT.sIx_nat] at z;simp at z
        ·rw [ZbG];have s9:=s8.put (o:=.tup (((x::u).drop 1).map V.int)) (s8.free ht);have et:upd (upd H7 e (.tup [])) t (.tup (((x::u).drop 1).map V.int)) t=some (.tup (u.map V.int)):=Gb;generalize upd (upd H7 e (.tup [])) t (.tup (((x::u).drop 1).map V.int))=H9 at s9 et ⊢;have t1:=Jq (o:=.lst (ds.map V.ref++[.ref t])) (s9 _ _ eD);refine ⟨s9 _ _ eD,(by rw [Yab];lia),ds++[t],by rw [Yak];rfl,(s7.trans s9).put hD,Gb,?_⟩;rw [tk,WJ,if_pos (by rw [hx];rfl)];exact Paired.snoc ((tl.keep λp ys e=>s9 _ _ e).keep t1) (t1 _ _ et)
       ·have hx:x≠r:=λz=>c2 (by rw [z];exact Ybm rfl);exact no s8 (by simp [hx])
     ·rintro ys H7 ⟨ds,rfl,s7,eD,tl⟩;rw [Yab,<-ah,Ybn] at tl;exact ae _ _ ⟨D,rfl,s7,hD,ds,eD,tl⟩
    rintro O H7 ⟨hi,rfl,s7,aF,aG⟩;have L7:=L6.grow s7;have av:=bn.same s7;have bp:lo≠rw:=λz=>by rw [z,L5.er] at aE;cases aE
    have b9:lo≠nl:=λz=>by rw [z,L5.en] at aE;cases aE
    have bq:hi≠rw:=λz=>by rw [z,L6.er] at aF;cases aF
    have bA:hi≠nl:=λz=>by rw [z,L6.en] at aF;cases aF
    have bB:=aC.low r;have bC:=aC.high r;have wl:=JT r F;have wF:wt F<=1560:=by
     have h2:=W.we;rw [Yde hn,(Yaj.mp hF).2,Yaq,List.sum_cons] at h2
     lia
    clear s5 s6 s7 L5 L6 bn Z aX bo ea aD ba;refine Gw (λO H'=>∃nb:Addr,O=[some (.ref l),some (.ref rw),some (.ref fd),some (.ref nl),some (.int (ts.length:Int)),some (.int r),some (.ref lo),some (.ref hi),some (.ref nb),v9]/\Same H7 H'/\H7 nb=none/\H' nb=some (.lst [])) ?s9 ?f9
    case f9=>exact λae=>⟨Yao _,λnb ab=>ae _ _ ⟨nb,rfl,Same.new ab,ab,Gb⟩⟩
    rintro O H8 ⟨nb,rfl,s8,ab,aH⟩;have L8:=L7.grow s8;have aw:=av.same s8;have ax:=aG.same s8;have aa:∀{p q:Addr}{G:Fml}{H':Hp},FamAt H' p G->H' q=none->p≠q:=λ⟨_,e,_⟩ h=>Gf e h;have m1:nb≠rw:=λz=>by rw [z,L7.er] at ab;cases ab
    have m2:nb≠nl:=λz=>by rw [z,L7.en] at ab;cases ab
    have m4:nb≠lo:=Ne.symm (aa av ab);have m5:nb≠hi:=Ne.symm (aa aG ab);have f0:H nb=none:=L7.s.free ab;have bb:∀x∈al,x≠nb:=λx hx=>by
     obtain ⟨k,hk⟩:=Ydu.mp hx;obtain ⟨G,_,hG⟩:=Paired.get' L7.fr hk;exact aa hG ab
    refine Gw (λO H'=>∃(S:List Fml)(al:List Addr)(kvs:TTs)(c1 c2:Int)(v9:Option V),O=[some (.ref l),some (.ref rw),some (.ref fd),some (.ref nl),some (.int (ts.length:Int)),some (.int r),some (.ref lo),some (.ref hi),some (.ref nb),v9]/\Li P w H H' rw fd nl (R++S) al kvs xs ts/\(∀G∈S,FamOk G/\Inner G)/\(S.map wt).sum<=wt (JJ r F)+wt (GB r F)/\H' nb=some (.lst [.int c1,.int c2])/\Num (R++S) (JJ r F) c1/\Num (R++S) (GB r F) c2/\NxC R.length [c1,c2] (R++S).length/\BfS R S) ?s10 ?f10
    case f10=>
     intro ae;refine ⟨_,rfl,_,rfl,JB,λpl ap=>⟨pl,rfl,⟨_,SqL.of Gb⟩,?_⟩⟩;have s9:Same H8 (upd H8 pl (.lst [.ref lo,.ref hi])):=Same.new ap;have m3:nb≠pl:=Gf aH ap;have p1:pl≠rw:=λz=>by rw [z,L8.er] at ap;cases ap
     have bD:lo≠pl:=aa aw ap;have bE:hi≠pl:=aa ax ap;have T9:Tn P w H (upd H8 pl (.lst [.ref lo,.ref hi])) rw fd nl nb pl lo hi R (JJ r F) (GB r F) xs ts 0 [] [] al kvs []:=by
      refine ⟨by rw [Ybv];exact L8.grow s9,s9 _ _ aH,Gb,aw.same s9,ax.same s9,λG hG=>(by cases hG),Yad _,λj G hj=>(by simp at hj),rfl,λx hx=>⟨bb x hx,?_⟩⟩;obtain ⟨k,hk⟩:=Ydu.mp hx;obtain ⟨G,_,hG⟩:=Paired.get' L8.fr hk;exact aa hG ap
     refine JL (K:=K) (a:=pl) (xs:=[.ref lo,.ref hi]) (λi σ H'=>∃(S:List Fml)(al:List Addr)(kvs:TTs)(cs:List Int)(v9:Option V),σ=[some (.ref l),some (.ref rw),some (.ref fd),some (.ref nl),some (.int (ts.length:Int)),some (.int r),some (.ref lo),some (.ref hi),some (.ref nb),v9]/\Tn P w H H' rw fd nl nb pl lo hi R (JJ r F) (GB r F) xs ts ((([JJ r F,GB r F].take i).map wt).sum) ([JJ r F,GB r F].take i) S al kvs cs/\NxC R.length cs (R++S).length/\BfS R S)
      ⟨[],al,kvs,[],v9,rfl,T9,.inl ⟨rfl,by rw [Ybv]⟩,BfS.nil B⟩ (by rintro i σ H' _ ⟨_,_,_,_,_,_,T,_⟩;exact SqL.of T.ep) ?_ ?_
     ·clear T9 L8 L7 L aw ax av aG aH bb az a5;rintro i x σ H9 ai ⟨S,al,kvs,ds,v9,rfl,T,U,Y⟩;obtain ⟨pa,G,rfl,an,a7,bF,q1,q2,q3,q4⟩:∃(pa:Addr)(G:Fml),x=.ref pa/\[JJ r F,GB r F][i]?=some G/\(∀{H':Hp}{wb:Nat}{Gd S:List Fml}{al:List Addr}{kvs:TTs}{ds:List Int},Tn P w H H' rw fd nl nb pl lo hi R (JJ r F) (GB r F) xs ts wb Gd S al kvs ds->FamAt H' pa G)/\FamOk G/\pa≠rw/\pa≠nl/\pa≠nb/\pa≠pl:=by
       match i,ai with
       | 0,ai=>simp at ai;subst ai;exact ⟨lo,_,rfl,rfl,λT=>T.fl,bB,bp,b9,Ne.symm m4,bD⟩
       | 1,ai=>simp at ai;subst ai;exact ⟨hi,_,rfl,rfl,λT=>T.fh,bC,bq,bA,Ne.symm m5,bE⟩
       | i+2,ai=>simp at ai
      have tk:[JJ r F,GB r F].take (i+1)=[JJ r F,GB r F].take i++[G]:=by rw [Ybu,an];rfl
      have br:∀{S:List Fml},(∀G∈S,FamOk G/\Inner G)->∀G∈R++S,Inner G:=λhS G hG=>by
       rcases Yag.mp hG with h | h
       ·exact (W.ok G h).2
       ·exact (hS G h).2
      have bG:i<2:=(Yaj.mp an).1;have bH:LxF G:=by
       rcases (by lia:i=0\/i=1) with z | z
       ·rw [z] at an;simp at an;rw [<-an];exact bl.low r
       ·rw [z] at an;simp at an;rw [<-an];exact bl.high r
      have aI:ds.length<2:=by have:=T.cl;rw [Yba] at this;lia
      dsimp only [GW];refine Gw (λO H'=>∃(S:List Fml)(al:List Addr)(kvs:TTs)(c:Int),O=[some (.ref l),some (.ref rw),some (.ref fd),some (.ref nl),some (.int (ts.length:Int)),some (.int r),some (.ref lo),some (.ref hi),some (.ref nb),some (.ref pa)]/\Tn P w H H' rw fd nl nb pl lo hi R (JJ r F) (GB r F) xs ts ((([JJ r F,GB r F].take (i+1)).map wt).sum) ([JJ r F,GB r F].take i) S al kvs ds/\(UM kvs G).getD (.int (G.length:Int))=.int c/\Num (R++S) G c/\NxC R.length (ds++[c]) (R++S).length/\BfS R S) ?s11 ?f11
      case f11=>
       intro aJ;have T':Tn P w H H9 rw fd nl nb pl lo hi R (JJ r F) (GB r F) xs ts ((([JJ r F,GB r F].take (i+1)).map wt).sum) ([JJ r F,GB r F].take i) S al kvs ds:={ T with wS:=by have:=T.wS;rw [tk,Yak,List.sum_append];lia };obtain ⟨cs,ea,Z⟩:=a7 T;refine ⟨_,rfl,Yao _,λe1 bI=>?_⟩;have z1:Same H9 (upd H9 e1 (.lst [])):=Same.new bI;refine ⟨.list (G.map JX),.list (([]:Fml).map JX),.lst (SqL.of (z1 _ _ ea)) (TpsAt.dats (Z.keep λp ys e=>z1 _ _ e)),.lst (SqL.of Gb) .nil,GY _,GY _,_,rfl,?_⟩;rw [OP];generalize upd H9 e1 (.lst [])=aj at z1 ⊢;refine O7 (λc2=>?_) (λc2=>?_)
       ·have a8:G≠[]:=λz=>by rw [z] at c2;simp at c2
        refine ⟨_,rfl,Yao _,λe2 a3=>⟨(by show 1<=sizeLine;decide),λe3 a4=>?_⟩⟩;have z2:Same aj (upd (upd aj e2 (.tup [])) e3 (.lst [.ref e2])):=(Same.new a3).put ((Same.new a3).free a4);have aT:e2≠e3:=Gf Gb a4;have z3:=z1.trans z2;refine ⟨.list (G.map JX),.list (([[]]:Fml).map JX),.lst (SqL.of (z3 _ _ ea)) (TpsAt.dats (Z.keep λp ys e=>z3 _ _ e)),.lst (SqL.of Gb) (.cons (.tup (SqT.of (Gi Gb aT)) .nil) .nil),GY _,GY _,_,rfl,?_⟩;rw [OP];generalize upd (upd aj e2 (.tup [])) e3 (.lst [.ref e2])=aq at z3 ⊢;refine O7 (λc3=>?_) (λc3=>?_)
        ·have a9:G≠[[]]:=λz=>by rw [z] at c3;simp at c3
         have ao:=T.grow z3;have aO:TpsAt aq G cs:=Z.keep λp ys e=>z3 _ _ e;refine ⟨_,rfl,pa,_,rfl,.inl ⟨SqL.of (z3 _ _ ea),λt ht=>?_⟩⟩;have z4:Same aq (upd aq t (.tup (cs.map V.ref))):=Same.new ht;have kt:KeyTT (upd aq t (.tup (cs.map V.ref))) t G:=⟨cs,Gb,Paired.mapP aO λ_ _ e=>z4 _ _ e⟩;have ag:=ao.grow z4;refine ⟨_,rfl,fd,UM kvs G,rfl,⟨kvs,G,t,ag.L.ed,ag.L.ks,rfl,kt,rfl⟩,_,rfl,?_⟩;have z5:=z3.trans z4;have aP:TpsAt (upd aq t (.tup (cs.map V.ref))) G cs:=aO.keep λp ys e=>z4 _ _ e;generalize upd aq t (.tup (cs.map V.ref))=aK at ag z5 aP ⊢;cases hv:UM kvs G with
         | some v=>
          refine Oj ?_;obtain ⟨k,hk,rfl⟩:=T.L.kr.some hv;exact aJ _ _ ⟨S,al,kvs,_,rfl,T'.grow z5,by rw [hv];rfl,.inr (.inr ⟨k,hk,rfl⟩),U.step aI (Zfe hk),Y⟩
         | none=>
          refine OW ?_;have az:=ag.L.len;have bX:=ag.L.kr.1;have bY:(R++S).length<=6000:=by
           have h1:=Zb6 T.ok;have h2:=T.wS;have h3:((([JJ r F,GB r F].take i).map wt).sum)<=wt (JJ r F)+wt (GB r F):=by
            match i,bG with
            | 0,_=>simp
            | 1,_=>simp
           rw [Yae]
           lia
          refine ⟨_,rfl,rw,_,rfl,.inl (SqL.of ag.L.er),_,_,rfl,rfl,_,rfl,_,rfl,pa,_,rfl,.inl ⟨SqL.of (z5 _ _ ea),λt2 bJ=>?_⟩⟩;have z6:Same aK (upd aK t2 (.tup (cs.map V.ref))):=Same.new bJ;have bc:KeyTT (upd aK t2 (.tup (cs.map V.ref))) t2 G:=⟨cs,Gb,Paired.mapP aP λ_ _ e=>z6 _ _ e⟩;have ak:=ag.grow z6;generalize upd aK t2 (.tup (cs.map V.ref))=bZ at ak bc z6 ⊢;refine ⟨fd,t2,kvs,G,rfl,rfl,ak.L.ed,ak.L.ks,bc,hv,by lia,?_⟩;have bt:rw≠fd:=GV ak.L.er ak.L.ed (λz=>by cases z);refine ⟨_,rfl,.inl ⟨rfl,_,SqL.of (Gi ak.L.er bt)⟩,_,rfl,rw,_,_,rfl,rfl,Gi ak.L.er bt,(by rw [Yab];lia),?_⟩;rw [Yab,az];have bu:=ak.row bc (a7 ak) q1 q2 q3 q4 m1 p1 bp bq ⟨bF,a8,a9⟩;refine aJ _ _ ⟨S++[G],al++[pa],_,_,rfl,{ bu with wS:=by have:=bu.wS;rw [tk,Yak,List.sum_append];simpa using this },by rw [Zan hv];rfl,.inr (.inr ⟨(R++S).length,?_,rfl⟩),U.step aI (.inr ⟨rfl,by rw [<-Ybg,Yae (as:=R++S)];rfl⟩),Y.snoc (ZbF T.L.kr hv) bH⟩;rw [<-Ybg,Ybt (Yad _),Ych]
          rfl
        ·have a9:G=[[]]:=by
          by_cases z:G=[[]]
          ·exact z
          ·exact absurd (by simp [z]) c3
         refine aJ _ _ ⟨S,al,kvs,1,rfl,T'.grow z3,?_,.inr (.inl ⟨a9,rfl⟩),U.step aI (Zcf (.inr rfl)),Y⟩;rw [KvR.none T.L.kr (br T.ok) (λz=>z.2 a9),a9]
         rfl
       ·have a8:G=[]:=by
         by_cases z:G=[]
         ·exact z
         ·exact absurd (by simp [z]) c2
        refine Oj ?_;refine aJ _ _ ⟨S,al,kvs,0,rfl,T'.grow z1,?_,.inl ⟨a8,rfl⟩,U.step aI (Zcf (.inl rfl)),Y⟩;rw [KvR.none T.L.kr (br T.ok) (λz=>z.1 a8),a8]
        rfl
      clear T U Y;rintro O aj ⟨S,al,kvs,c,rfl,T,bv,bw,U,Y⟩;obtain ⟨cs,ea,Z⟩:=a7 T;have ah:=Z.length;refine ⟨_,rfl,.inl ⟨rfl,_,SqL.of T.eb⟩,_,rfl,fd,kvs,rfl,T.L.ed,_,rfl,pa,_,rfl,.inl ⟨SqL.of ea,λt ht=>?_⟩⟩;have z4:Same aj (upd aj t (.tup (cs.map V.ref))):=Same.new ht;have kt:KeyTT (upd aj t (.tup (cs.map V.ref))) t G:=⟨cs,Gb,Paired.mapP Z λ_ _ e=>z4 _ _ e⟩;have ao:=T.grow z4;have aQ:=z4 _ _ ea;generalize upd aj t (.tup (cs.map V.ref))=aq at ao kt aQ ⊢;have aY:=ao.cl;rw [Yba] at aY;refine ⟨_,rfl,pa,_,rfl,.inl (SqL.of aQ),UM kvs G,⟨kvs,G,t,ao.L.ed,ao.L.ks,rfl,kt,rfl⟩,?_⟩;rw [Yab,<-ah,bv];refine ⟨nb,_,_,rfl,rfl,ao.eb,(by rw [Yab];lia),?_⟩;refine ⟨S,al,kvs,ds++[c],_,rfl,?_,U,Y⟩;rw [show ([JJ r F,GB r F].take (i+1))=[JJ r F,GB r F].take i++[G] from tk];have ag:=ao.num bw f0 m1 m2 m3 m4 m5;rw [tk] at ag;exact ag
     ·rintro σ H9 ⟨S,al,kvs,ds,v9,rfl,T,U,Y⟩;obtain ⟨c1,h1,n1⟩:=T.nm 0 (JJ r F) rfl;obtain ⟨c2,h2,n2⟩:=T.nm 1 (GB r F) rfl;have bx:ds=[c1,c2]:=by
       have hl:ds.length=2:=T.cl
       match ds,hl,h1,h2 with
       | [a,b],_,h1,h2=>simp at h1 h2;rw [h1,h2]
      have eb:=T.eb;rw [bx] at eb;exact ae _ _ ⟨S,al,kvs,c1,c2,v9,rfl,T.L,T.ok,by have:=T.wS;simpa using this,eb,n1,n2,by rw [<-bx];exact U,Y⟩
    clear L8 L7 L aw ax av aG aH bb az a5 s8 ab;rintro O H9 ⟨S,al,kvs,c1,c2,v9,rfl,L9,bK,bz,eb,n1,n2,U,Y⟩;have node:WE (R++S) F (r,c1,c2):=⟨aN,n1,n2⟩;have W9:Rw F0 (R++S) (ts++[(r,c1,c2)]) 1560:=W.step hF bK bz node;have bL:=W.meas (S:=S) (r:=(r,c1,c2)) hF bz aN;have cc:=L9.tr.len;refine Gw (λO H'=>∃t:Addr,O=[some (.ref l),some (.ref rw),some (.ref fd),some (.ref nl),some (.int (ts.length:Int)),some (.int r),some (.ref lo),some (.ref hi),some (.ref nb),v9]/\Li P w H H' rw fd nl (R++S) al kvs (xs++[.ref t]) (ts++[(r,c1,c2)])) ?s12 ?f12
    case f12=>
     intro ae;refine ⟨_,rfl,.inl ⟨rfl,_,SqL.of L9.en⟩,_,rfl,_,rfl,nb,_,_,_,rfl,rfl,SqL.of eb,Gm (j:=0) rfl,_,rfl,nb,_,_,_,rfl,rfl,SqL.of eb,Gm (j:=1) rfl,(by show 3<=sizeLine;decide),λt ht=>?_⟩;have aL:=L9.grow (Same.new (o:=.tup [.int r,.int c1,.int c2]) ht);refine ⟨nl,_,_,rfl,rfl,aL.en,by lia,?_⟩;exact ae _ _ ⟨t,rfl,aL.node (r:=(r,c1,c2)) Gb⟩
    rintro O aj ⟨t,rfl,aL⟩;refine ⟨_,rfl,_,_,rfl,rfl,?_⟩;exact ⟨_,bL,R++S,al,kvs,_,_,_,_,_,_,_,by rw [Yae,Yap];rfl,aL,W9,rfl,B.step hn U Y⟩
   ·have aW:¬ ((ts.length:Int)<((al.map V.ref).length:Int)):=λz=>c1 (Ybm z);rw [Yab,az] at aW;have:=W.ln;exact hk _ _ ⟨R,al,kvs,xs,ts,v5,v6,v7,v8,v9,rfl,L,W,by lia,B⟩
noncomputable def Zfi:Sp:=λvs H Q _=>∃(tb l:Addr)(a0:Int)(xs:List V)(ks:List Tri),vs=[.ref tb]/\TabAt H tb l a0 xs ks/\∀(p j:Addr)(H':Hp),Same H H'->H p=none->H j=none->TabAt H' p j a0 xs ks->Q (.ref p) H'
theorem Zgz:Gs ["table"] ["table"] (Gh ZfE):=⟨rfl,rfl,rfl,by decide +kernel,rfl,by decide +kernel,by decide +kernel⟩
theorem Zfj {f:Addr}{fd:FuncData}(F:Fun K "_law_copied" "_law_copied" ZfE f fd)(B:mg "list" = none):FnOk P w K mg base CX0 1 f fd ["table"] Zfi:=by
 refine F.ok Zgz (λvs H Q E h=>?_) (λZ A outer s H vs Q E hr h=>?_)
 ·obtain ⟨_,_,_,_,_,rfl,_⟩:=h
  rfl
 ·obtain ⟨tb,l,a0,xs,ks,rfl,T,q⟩:=h;refine ⟨_,Gj (Gx (Je (Ga (GD (U7 K) (pv 0) Gg (λ_ _=>rfl)) (Ga (Jf (Zi K) rfl B UA (Ga (GD (U7 K) (pv 0) Gg (λ_ _=>rfl)) Gc)) Gc)))),?_⟩;refine ⟨_,rfl,tb,_,_,_,rfl,rfl,SqT.of T.w,Gm (j:=0) rfl,_,rfl,tb,_,_,_,rfl,rfl,SqT.of T.w,Gm (j:=1) rfl,l,_,rfl,.inl (SqL.of T.l),λD L=>⟨JB,λp Y=>?_⟩⟩;have O:Same H (upd H D (.lst xs)):=Same.new L;have U:Same (upd H D (.lst xs)) (upd (upd H D (.lst xs)) p (.tup [.int a0,.ref D])):=Same.new Y;exact q p D _ (O.trans U) (O.free Y) L ⟨Gb,U _ _ Gb,T.t.same (O.trans U)⟩
noncomputable def Zfk:Sp:=λvs H Q _=>∃(p l j B:Addr)(a0:Int)(xs xs':List V)(us:List Tri),vs=[.ref p,.ref j]/\TabAt H p l a0 xs us/\TabAt H j B a0 xs' us/\us.length<=1600/\∀H':Hp,Same H H'->Q (.bl true) H'
theorem scJus:Gs ["found", "due", "whole", "node"] ["found", "due"] (Gh ZfF):=⟨rfl,rfl,rfl,by decide +kernel,rfl,by decide +kernel,by decide +kernel⟩
theorem Zfl {f:Addr}{fd:FuncData}(F:Fun K "_law_just" "_law_just" ZfF f fd)(ad:W.kitOne K (.type "int") (.type "bool")=some false)(B:mg "isinstance" = none)(O:mg "list" = none)(aa:mg "tuple" = none)(ab:mg "int" = none)(Y:mg "bool" = none):FnOk P w K mg base CX0 1 f fd ["found", "due"] Zfk:=by
 refine F.ok scJus (λvs H Q E h=>?_) (λaf A outer s H vs Q E hr h=>?_)
 ·obtain ⟨_,_,_,_,_,_,_,_,rfl,_⟩:=h
  rfl
 ·obtain ⟨p,l,p',l',a0,xs,xs',us,rfl,T,T',hl,q⟩:=h;have hu:=hr.units;have ag:=Ybi.symm;refine ⟨_,Ge (Jl (PW.pt (UO (JY (Ju (Gu (ZcA K) rfl B JM (Ga (pv 0) (Ga (Uz aa Jd) Gc))))) (UO (JY (Ju (Gu (ZcA K) rfl B JM (Ga (GD (U7 K) (pv 0) Gg (λ_ _=>rfl)) (Ga (Uz O UA) Gc))))) (Ov (Gr (ZcB K hu) (pv 0) (pv 1) (GA _)))))) (Gj (Gx UN)) GC)
    (Ge (Gp (i:=2) scJus.nd rfl (Or.inl rfl) (Gy (Ga (GD (U7 K) (pv 0) Gg (λ_ _=>rfl)) Gc)))
    (Ge (JE Yck rfl (Jz K (GD (U7 K) (pv 0) Gg (λ_ _=>rfl))) (Go (i:=3) scJus.nd rfl (Or.inl rfl))
    (Gj (Gp (i:=2) scJus.nd rfl (Or.inl rfl) (GE Uv (pv 2) (Jf (Zi K) rfl O UA (Ga (pv 3) Gc))))))
    (Gj (Gx (OT (Zd8 K hu) (Jo (own:=["one"]) rfl (Jw (by decide +kernel) (by decide +kernel) rfl (by decide +kernel)) (Jz K (pv 2)) (λ_ _ _ _=>Go (i:=0) (show List.Nodup (["one"]:List Str) by decide +kernel) rfl (Or.inl rfl)) (λ_ _ _ _=>Jb (PW.pt (UO (JY (Ju (Gu (ZcA K) rfl B JM (Ga (pv 0) (Ga (Uz ab Uf) Gc))))) (Ov (Ju (Gu (ZcA K) rfl B JM (Ga (pv 0) (Ga (Uz Y Zh) Gc)))))))) (λ_ _ _ _=>pv 0)) (Gy Gc) (GA _)))))),?_⟩
  refine ⟨_,rfl,_,_,true,rfl,⟨_,rfl,Oj ?_⟩,.inl ⟨_,.tup T.w,rfl,Oa⟩⟩;refine ⟨_,rfl,p,_,_,_,rfl,rfl,SqT.of T.w,Gm (j:=1) rfl,_,_,true,rfl,⟨_,rfl,Oj ?_⟩,.inl ⟨_,.lst T.l,rfl,Oa⟩⟩;refine ⟨_,rfl,_,rfl,.tuple [.int a0,.list (us.map trD)],.tuple [.int a0,.list (us.map trD)],.tup (SqT.of T.w) (.cons (.int _) (.cons (.lst (SqL.of T.l) T.t.dats) .nil)),.tup (SqT.of T'.w) (.cons (.int _) (.cons (.lst (SqL.of T'.l) T'.t.dats) .nil)),Vc _ _,Vc _ _,_,rfl,?_⟩;rw [W3,Ybm rfl,Ybm rfl];refine Oj ?_;dsimp only [JZ];refine ⟨_,rfl,p,_,_,_,rfl,rfl,SqT.of T.w,Gm (j:=0) rfl,Ycr (by show 1<sizeLine;lia),λw0 ae=>?_⟩;obtain ⟨H1,q_,s1,e1⟩:=nwU (o:=.lst [.int a0]) ae;have e1:H1 w0=some (.lst ([a0].map V.int)):=e1;rw [q_];dsimp only [GW];have ah:=T.t.len;refine ⟨_,rfl,p,_,_,_,rfl,rfl,SqT.of (s1 _ _ T.w),Gm (j:=1) rfl,l,rfl,⟨_,SqL.of (s1 _ _ T.l)⟩,?_⟩;refine JL (K:=K) (a:=l) (xs:=xs) (λi σ H2=>∃(Z:Addr)(ns:List Int)(v3:Option V),σ=[some (.ref p),some (.ref p'),some (.ref Z),v3]/\Same H H2/\H2 Z=some (.lst (ns.map V.int))/\ns.length=1+3 * i) ⟨w0,[a0],none,rfl,s1,e1,rfl⟩ (by rintro i σ H2 _ ⟨_,_,_,_,s2,_⟩;exact SqL.of (s2 _ _ T.l)) ?_ ?_
  ·rintro i x σ H2 ac ⟨Z,ns,v3,rfl,s2,e2,hn⟩;have hi:i<xs.length:=(Yaj.mp ac).1;obtain ⟨t,r,rfl,et,_⟩:=T.t.get ac;refine ⟨_,rfl,_,rfl,t,_,rfl,.inr (SqT.of (s2 _ _ et)),λc hc=>?_⟩;obtain ⟨L,q_,U,e3⟩:=nwU (o:=.lst [.int r.1,.int r.2.1,.int r.2.2]) hc;rw [q_];refine ⟨Z,c,_,_,rfl,rfl,U _ _ e2,e3,by rw [Yab];show ns.length+3<=_;lia,λd hd=>?_⟩;have s4:Same L (upd L d (.lst (ns.map V.int++[.int r.1,.int r.2.1,.int r.2.2]))):=Same.new hd;exact ⟨d,ns++[r.1,r.2.1,r.2.2],_,rfl,s2.trans (U.trans s4),by rw [Gb,Yak];rfl,by rw [Yae];show ns.length+3=_;lia⟩
  ·rintro σ H2 ⟨Z,ns,v3,rfl,s2,e2,hn⟩;refine ⟨_,rfl,Z,rfl,⟨_,SqL.of e2⟩,λD hD=>?_⟩;refine GL (K:=K) (a:=Z) (xs:=ns.map V.int) (λj ys L=>ys=[]/\Same H2 L/\L D=some (.lst [])) ⟨rfl,Same.new hD,Gb⟩ (by rintro j ys L _ ⟨_,U,_⟩;exact SqL.of (U _ _ e2)) ?_ ?_
   ·rintro j y ys L hy ⟨rfl,U,eD⟩;rw [Ybb] at hy;obtain ⟨n,_,rfl⟩:=Ybk.mp hy;refine ⟨trivial,?_⟩;refine ⟨_,rfl,_,_,true,rfl,⟨_,rfl,Oj ?_⟩,.inl ⟨_,.int _,rfl,Oa⟩⟩;refine ⟨_,rfl,_,_,false,rfl,⟨_,rfl,Oj ?_⟩,.inl ⟨_,.int _,rfl,ad⟩⟩;exact ⟨rfl,U,eD⟩
   ·rintro ys L ⟨rfl,U,eD⟩;refine ⟨Yao _,λe he=>?_⟩;have s4:Same L (upd L e (.lst [])):=Same.new he;refine ⟨.list (([]:List Int).map PyData.int),.list (([]:List Int).map PyData.int),.lst (SqL.of (s4 _ _ eD)) .nil,.lst (SqL.of Gb) .nil,G6 _,G6 _,?_⟩;rw [OA,Ybm rfl];exact q _ (s2.trans (U.trans s4))
end
structure Fn (H0 H:Hp)(d:Addr)(c:Nat)(rs:List Int)(fo:Addr)(zs:List (Addr×List Int)):Prop where
 k:Pk H0 H d c
 f:H0 fo=none
 nd:fo≠d
 e:H fo=some (.lst (zs.map λz=>V.ref z.1))
 l:Lz H zs
 n:∀z∈zs,z.1≠d/\z.1≠fo
 s:∀z∈zs,Sok rs z.2
section
variable {H0 H H':Hp}{d fo l:Addr}{c c':Nat}{rs ss:List Int}{zs:List (Addr×List Int)}
theorem Fn.go (F:Fn H0 H d c rs fo zs)(k:Pk H H' d c'):Fn H0 H' d c' rs fo zs:=⟨F.k.trans k,F.f,F.nd,k.keep _ _ F.nd F.e,λz j=>k.keep _ _ (F.n z j).1 (F.l z j),F.n,F.s⟩
theorem Fn.put (F:Fn H0 H d c rs fo zs)(B:H l=some (.lst (ss.map V.int)))(nl:l≠d/\l≠fo)(D:Sok rs ss):Fn H0 (upd H fo (.lst ((zs.map λz=>V.ref z.1)++[.ref l]))) d c rs fo (zs++[(l,ss)]):=by
 refine ⟨F.k.put F.f (Ne.symm F.nd),F.f,F.nd,by rw [Gb,Yak];rfl,λz j=>?_,λz j=>?_,λz j=>?_⟩
 ·rcases Yag.mp j with h | h
  ·exact Gi (F.l z h) (F.n z h).2
  ·rw [Yai.mp h];exact Gi B nl.2
 ·rcases Yag.mp j with h | h
  ·exact F.n z h
  ·rw [Yai.mp h];exact nl
 ·rcases Yag.mp j with h | h
  ·exact F.s z h
  ·rw [Yai.mp h];exact D
theorem Fn.add (F:Fn H0 H d c rs fo zs)(k:Pk H H' d c')(j:H l=none)(B:H' l=some (.lst (ss.map V.int)))(D:Sok rs ss):Fn H0 (upd H' fo (.lst ((zs.map λz=>V.ref z.1)++[.ref l]))) d c' rs fo (zs++[(l,ss)]):=
 (F.go k).put B ⟨Ne.symm (F.k.at_.ne j),λz=>by rw [z,F.e] at j;cases j⟩ D
end
section
variable {P:Program}{w:World}{K:W.Frag}{mg:Str->Option Value}{base:Heap}
noncomputable def Zfm:Sp:=λvs H Q _=>∃(d j B:Addr)(c:Nat)(rs:List Int)(ws:List (Addr×List Int)),vs=[.ref d,.ref j,.ref B]/\Pool H d c/\c<700000/\j≠d/\B≠d/\H B=some (.lst (rs.map V.int))/\Rds rs/\H j=some (.lst (ws.map λz=>V.ref z.1))/\Lz H ws/\(∀z∈ws,z.1≠d)/\(∀z∈ws,Sok rs z.2)/\ws.length<=40 /\
 ∀(l:Addr)(us:List (Addr×List Int))(H':Hp),Pk H H' d (c+300)->H l=none->H' l=some (.lst (us.map λz=>V.ref z.1))->Lz H' us->(∀z∈us,z.1≠d)->(∀z∈us,Sok rs z.2)->us.length<=90->Q (.ref l) H'
theorem scNea:Gs ["pool", "sets", "roads", "one", "found", "turn"] ["pool", "sets", "roads"] (Gh ZfD):=⟨rfl,rfl,rfl,by decide +kernel,rfl,by decide +kernel,by decide +kernel⟩
theorem Zfn {f fT fS fU fO:Addr}{fd ae af ag ah:FuncData}(F:Fun K "_law_near" "_law_near" ZfD f fd)(FT:Fun K "_law_take" "_law_take" Zbo fT ae)(bT:Binds K ae ["pool", "many"] [])(mT:mg "_law_take" = some (.ref fT))(FS:Fun K "_law_set" "_law_set" Zez fS af)(bS:Binds K af ["pool", "roads"] [])(mS:mg "_law_set" = some (.ref fS))(FU:Fun K "_law_turned" "_law_turned" ZeA fU ag)(bU:Binds K ag ["pool", "one", "roads"] [])(mU:mg "_law_turned" = some (.ref fU))(FO:Fun K "_law_once" "_law_once" ZdE fO ah)(bO:Binds K ah ["sets"] [])(mO:mg "_law_once" = some (.ref fO))(aa:mg "range" = none)(am:mg "len" = none)(ac:mg "int" = none)(ad:mg "sorted" = none):FnOk P w K mg base CX0 3 f fd ["pool", "sets", "roads"] Zfm:=by
 have GT:FnOk P w K mg base CX0 1 fT ae ["pool", "many"] Xa:=Vj FT;have GS:FnOk P w K mg base CX0 2 fS af ["pool", "roads"] Zdm:=Zb7 FS FT bT mT;have GU:FnOk P w K mg base CX0 2 fU ag ["pool", "one", "roads"] Zdn:=Zb8 FU FT bT mT am ac ad;have GO:FnOk P w K mg base CX0 1 fO ah ["sets"] ZbA:=Zai FO ad;refine F.ok scNea (λvs H Q E h=>?_) (λa7 A outer s H vs Q E hr h=>?_)
 ·obtain ⟨_,_,_,_,_,_,rfl,_⟩:=h
  rfl
 ·obtain ⟨d,sl,rl,c,rs,ws,rfl,hP,hc,ai,ab,er,aj,es,lz,nz,an,a8,q⟩:=h;have a9:=Ybi.symm;have ao:=aj.2.2.2;refine ⟨_,(@Ge _ _ _ _ _ (Uy (i:=4) scNea.nd rfl (Or.inl rfl) (own:=["one"]) rfl (Gq (fr:=[("pool", 0)]) [(".0", .local),("one", .local),("_law_take", .globalImplicit),("pool", .cell)] rfl rfl (by decide +kernel) rfl (by decide +kernel) ⟨rfl,trivial⟩ ⟨λh=>G7 h,λh=>G7 h,λh=>G7 h,λ_=>⟨_,rfl⟩,trivial⟩ ⟨⟨rfl,.inl rfl,.inl rfl⟩,trivial⟩) (Jz K (pv 1)) (λ_ _ _ _=>Go (i:=0) (show List.Nodup (["one", "pool"]:List Str) by decide +kernel) rfl (Or.inl rfl)) (λ_ _ _ _=>Jb (Gr ZaC (@Gk _ _ _ _ _ _ _ _ _ _ _ _ _ _ _ _ GT (hr.mono (by decide)) rfl mT FT.kp bT .nil Gv (@Ga _ _ _ _ _ (pv 1) (@Ga _ _ _ _ _ Gg Gc rfl) rfl) (by decide) rfl rfl) Gg (GA _))) (λ_ _ _ _=>pv 0))
    (@Ge _ _ _ _ _ (@JE _ _ _ _ _ _ _ _ Yck rfl (Jz K (pv 1)) (Go (i:=3) scNea.nd rfl (Or.inl rfl))
    (@Gj _ _ _ (@Jl _ _ _ _ _ _ _ _ (Gr Ox (@Gk _ _ _ _ _ _ _ _ _ _ _ _ _ _ _ _ GT (hr.mono (by decide)) rfl mT FT.kp bT .nil Gv (@Ga _ _ _ _ _ (pv 0) (@Ga _ _ _ _ _ Gg Gc rfl) rfl) (by decide) rfl rfl) Gg (GA _)) (@Gj _ _ _ (Jc (Oq Yce Ycp Ycq GQ (pv 4) (@Ga _ _ _ _ _ (@Gk _ _ _ _ _ _ _ _ _ _ _ _ _ _ _ _ GU (hr.mono (by decide)) rfl mU FU.kp bU .nil Gv (@Ga _ _ _ _ _ (pv 0) (@Ga _ _ _ _ _ (pv 3) (@Ga _ _ _ _ _ (pv 2) Gc rfl) rfl) rfl) (by decide) rfl rfl) Gc rfl)))) GC)) (by intro _;rfl))
    (@Ge _ _ _ _ _ (@JE _ _ _ _ _ _ _ _ Yck rfl (J0 rfl aa (@Ga _ _ _ _ _ (@Gk _ _ _ _ _ _ _ _ _ _ _ _ _ _ _ _ GT (hr.mono (by decide)) rfl mT FT.kp bT .nil Gv (@Ga _ _ _ _ _ (pv 0) (@Ga _ _ _ _ _ Gg Gc rfl) rfl) (by decide) rfl rfl) Gc rfl)) (Go (i:=5) scNea.nd rfl (Or.inl rfl))
    (@Gj _ _ _ (Jc (Oq Yce Ycp Ycq GQ (pv 4) (@Ga _ _ _ _ _ (@Gk _ _ _ _ _ _ _ _ _ _ _ _ _ _ _ _ GS (hr.mono (by decide)) rfl mS FS.kp bS .nil Gv (@Ga _ _ _ _ _ (pv 0) (@Ga _ _ _ _ _ (pv 2) Gc rfl) rfl) (by decide) rfl rfl) Gc rfl)))) (by intro _;rfl))
    (@Gj _ _ _ (@Gx _ _ _ _ (@Gk _ _ _ _ _ _ _ _ _ _ _ _ _ _ _ _ GO (hr.mono (by decide)) rfl mO FO.kp bO .nil Gv (@Ga _ _ _ _ _ (@GE _ _ _ _ _ _ _ _ Uv (pv 4) (@GE _ _ _ _ _ _ _ _ Za (@Gy _ _ _ _ (@Ga _ _ _ _ _ (@Gy _ _ _ _ Gc) Gc rfl)) (Jf V5 rfl ac Uf (@Ga _ _ _ _ _ (OT Ox (@Gk _ _ _ _ _ _ _ _ _ _ _ _ _ _ _ _ GT (hr.mono (by decide)) rfl mT FT.kp bT .nil Gv (@Ga _ _ _ _ _ (pv 0) (@Ga _ _ _ _ _ Gg Gc rfl) rfl) (by decide) rfl rfl) Gg (GA _)) Gc rfl)))) Gc rfl) (by decide) rfl rfl)))))),?_⟩
  refine ⟨_,rfl,sl,rfl,⟨_,SqL.of es⟩,λD hD=>?_⟩;have nD:=hP.ne hD;have F0:Fn H (upd H D (.lst [])) d c rs D []:=⟨(Pk.start hP).new hD,hD,Ne.symm nD,Gb,λz B=>(by cases B),λz B=>(by cases B),λz B=>(by cases B)⟩;refine GL (K:=K) (a:=sl) (xs:=ws.map λz=>V.ref z.1) (λi ys H2=>∃zs:List (Addr×List Int),ys=(zs.map λz=>V.ref z.1)/\Fn H H2 d (c+i) rs D zs/\zs.length<=i) ⟨[],rfl,F0,Yao _⟩ (by rintro i ys H2 _ ⟨_,_,O,_⟩;exact SqL.of (O.k.keep _ _ ai es)) ?_ ?_
  ·rintro i y ys H2 Z ⟨zs,rfl,O,j⟩;rw [Ybb] at Z;obtain ⟨z,B,rfl⟩:=Ybk.mp Z;have L:z∈ws:=Yat B;have hi:i<ws.length:=(Yaj.mp B).1;refine ⟨⟨rfl,trivial⟩,?_⟩;refine ⟨_,rfl,d,c+i,3,rfl,O.k.at_,by lia,by decide,GX,λr H3 a b k3=>⟨_,_,rfl,rfl,_,rfl,O7 (λc1=>?_) (λc1=>?_)⟩⟩
   ·have U:=O.go k3;refine ⟨_,rfl,U.e,(by rw [Yab];lia),zs++[z],by rw [Yak];rfl,?_,by rw [Yae,Yap];lia⟩;exact U.put (U.k.keep _ _ (nz z L) (lz z L)) ⟨nz z L,λy=>by have:=lz z L;rw [y,hD] at this;cases this⟩ (an z L)
   ·exact ⟨zs,rfl,O.go k3,by lia⟩
  rintro ys H1 ⟨zs,rfl,F1,j⟩;rw [Yab] at F1 j;dsimp only [GW];refine Gw (λσ' H'=>∃(zs:List (Addr×List Int))(v3:Option V),σ'=[some (.ref d),some (.ref sl),some (.ref rl),v3,some (.ref D),none]/\Fn H H' d (c+120) rs D zs/\zs.length<=80) ?a1 ?d1
  case d1=>
   intro hk;refine ⟨_,rfl,sl,rfl,⟨_,SqL.of (F1.k.keep _ _ ai es)⟩,?_⟩;refine JL (K:=K) (a:=sl) (xs:=ws.map λz=>V.ref z.1) (λi σ H'=>∃(zs:List (Addr×List Int))(v3:Option V),σ=[some (.ref d),some (.ref sl),some (.ref rl),v3,some (.ref D),none]/\Fn H H' d (c+40+2 * i) rs D zs/\zs.length<=40+i) ⟨zs,none,rfl,F1.go ((Pk.start F1.k.at_).mono (by lia)),by lia⟩ (by rintro i σ H' _ ⟨_,_,_,O,_⟩;exact SqL.of (O.k.keep _ _ ai es)) ?_ ?_
   ·clear F1 j zs;rintro i y σ H2 Z ⟨zs,v3,rfl,O,j⟩;rw [Ybb] at Z;obtain ⟨z,B,rfl⟩:=Ybk.mp Z;have L:z∈ws:=Yat B;have hi:i<ws.length:=(Yaj.mp B).1;dsimp only [GW];refine ⟨_,rfl,d,_,5,rfl,O.k.at_,by lia,by decide,GX,λr H3 a b k3=>⟨rfl,_,rfl,O7 (λc1=>?_) (λc1=>?_)⟩⟩
    ·have U:=O.go k3;refine ⟨_,rfl,.inl ⟨rfl,_,SqL.of U.e⟩,_,rfl,_,rfl,_,rfl,d,z.1,rl,_,z.2,rs,rfl,U.k.at_,by lia,nz z L,ab,U.k.keep _ _ (nz z L) (lz z L),U.k.keep _ _ ab er,aj,an z L,λl ss H4 k4 hl el so=>?_⟩;refine ⟨D,_,_,rfl,rfl,k4.keep _ _ U.nd U.e,(by rw [Yab];lia),?_⟩;exact ⟨_,_,rfl,U.add k4 hl el so,by rw [Yae,Yap];lia⟩
    ·exact ⟨zs,_,rfl,O.go (k3.mono (by lia)),by lia⟩
   ·rintro σ H2 ⟨zs,v3,rfl,O,j⟩;rw [Yab] at O j;exact hk _ _ ⟨zs,v3,rfl,O.go ((Pk.start O.k.at_).mono (by lia)),by lia⟩
  clear F1 j zs;rintro σ' H2 ⟨zs,v3,rfl,O,j⟩;refine Gw (λσ' H'=>∃(zs:List (Addr×List Int))(v5:Option V),σ'=[some (.ref d),some (.ref sl),some (.ref rl),v3,some (.ref D),v5]/\Fn H H' d (c+200) rs D zs/\zs.length<=84) ?a2 ?d2
  case d2=>
   intro hk;refine ⟨_,rfl,d,_,4,rfl,O.k.at_,by lia,by decide,GX,λr H3 a b k3=>⟨_,rfl,by lia,by lia,?_⟩⟩;refine Ow (lo:=0) (λi σ H'=>∃(zs:List (Addr×List Int))(v5:Option V),σ=[some (.ref d),some (.ref sl),some (.ref rl),v3,some (.ref D),v5]/\Fn H H' d (c+121+13 * i) rs D zs/\zs.length<=80+i) ⟨zs,none,rfl,O.go k3,by lia⟩ ?_ ?_
   ·clear O j zs;rintro i σ H4 hi ⟨zs,v5,rfl,Y,j⟩;have hi':i<4:=by lia
    dsimp only [GW];refine ⟨_,rfl,.inl ⟨rfl,_,SqL.of Y.e⟩,_,rfl,_,rfl,d,rl,_,rs,rfl,Y.k.at_,by lia,ab,Y.k.keep _ _ ab er,ao,λl ss H8 k8 hl el sb=>?_⟩;refine ⟨D,_,_,rfl,rfl,k8.keep _ _ Y.nd Y.e,(by rw [Yab];lia),?_⟩;exact ⟨_,_,rfl,Y.add k8 hl el (Sok.sub aj sb),by rw [Yae,Yap];lia⟩
   ·rintro σ H4 ⟨zs,v5,rfl,Y,j⟩;exact hk _ _ ⟨zs,v5,rfl,Y.go ((Pk.start Y.k.at_).mono (by lia)),by lia⟩
  clear O j zs;rintro σ' H3 ⟨zs,v5,rfl,U,j⟩;refine ⟨_,rfl,Yao _,λe he=>⟨(by show 1<=sizeLine;decide),λp hp=>?_⟩⟩;have s4:Same H3 (upd (upd H3 e (.lst [])) p (.lst [.ref e])):=(Same.new he).put ((Same.new he).free hp);have au:e≠p:=Gf Gb hp;have av:=Ne.symm ((U.k.grow (Same.new (o:=.lst []) he)).at_.ne hp);have ap:=Ne.symm (U.k.at_.ne he);have aq:upd (upd H3 e (.lst [])) p (.lst [.ref e]) p=some (.lst [.ref e]):=Gb;have ar:upd (upd H3 e (.lst [])) p (.lst [.ref e]) e=some (.lst []):=Gi Gb au;generalize upd (upd H3 e (.lst [])) p (.lst [.ref e])=H4 at s4 aq ar ⊢;have Y:=U.go ((Pk.start U.k.at_).grow s4);refine ⟨_,rfl,d,_,4,rfl,Y.k.at_,by lia,by decide,GX,λr H5 a5 b5 k5=>⟨rfl,.inr ⟨_,rfl,?_⟩⟩⟩;have F5:=Y.go k5;have aw:=k5.keep _ _ av aq;have ax:=k5.keep _ _ ap ar;refine ⟨p,_,_,rfl,rfl,aw,by split <;> decide,by split <;> decide,by rw [Yap];split <;> decide,λp2 ay=>?_⟩;have az:∃us:List (Addr×List Int),(List.replicate (if decide (V.int r=V.int 0)=true then (1:Int) else 0).toNat [V.ref e]).flatten=us.map (λz=>V.ref z.1)/\us.length<=1/\∀z∈us,z=(e,[]):=by
   split
   ·exact ⟨[(e,[])],rfl,by simp,λz B=>Yai.mp B⟩
   ·exact ⟨[],rfl,by simp,λz B=>by cases B⟩
  obtain ⟨us,a3,aA,ak⟩:=az;rw [a3];obtain ⟨H6,q_,s6,e6⟩:=nwU (o:=.lst (us.map λz=>V.ref z.1)) ay;rw [q_];refine ⟨D,p2,_,_,rfl,rfl,s6 _ _ F5.e,e6,(by rw [Yab,Yab];lia),λp3 a4=>?_⟩;rw [<-Yak];obtain ⟨H7,q_,s7,e7⟩:=nwU (o:=.lst ((zs++us).map λz=>V.ref z.1)) a4;rw [q_];have F7:=F5.go ((Pk.start F5.k.at_).grow (s6.trans s7));have as:Lz H7 (zs++us):=λz B=>by
   rcases Yag.mp B with h | h
   ·exact F7.l z h
   ·rw [ak z h];exact (s6.trans s7) _ _ ax
  refine ⟨p3,zs++us,rfl,e7,as,by rw [Yae];lia,λa a6 H8 s8 ha ea sub so al ln=>?_⟩;refine q a a6 H8 ((F7.k.grow s8).mono (by lia)) (F7.k.free ha) ea (λz B=>s8 _ _ (as z (sub z B))) (λz B=>?_) (λz B=>?_) (by rw [Yae] at ln;lia)
  ·rcases Yag.mp (sub z B) with h | h
   ·exact (F7.n z h).1
   ·rw [ak z h];exact ap
  ·rcases Yag.mp (sub z B) with h | h
   ·exact F7.s z h
   ·rw [ak z h];exact ⟨List.Pairwise.nil,λx hx=>by cases hx⟩
end
structure Tb2 (tbL tbJ:Addr)(H:Hp):Prop where
 ld:LD tbL H
 j:Zgs tbJ H
section
variable {tbL tbJ:Addr}{H H':Hp}
theorem Tb2.keep (h:Tb2 tbL tbJ H)(k1:∀b ps,H b=some (.tbl ps)->H' b=some (.tbl ps))(k2:∀b o u,H b=some (.frz o u)->H' b=some (.frz o u)):Tb2 tbL tbJ H':=by
 refine ⟨?_,h.j.elim λes z=>⟨es,⟨k1 _ _ z.1.1,λe D=>(z.1.2 e D).elim λB y=>⟨B,k2 _ _ _ y.1,y.2⟩⟩,z.2⟩⟩;rcases h.ld with e | ⟨c,e,B,L,O⟩
 ·exact .inl (k1 _ _ e)
 ·exact .inr ⟨c,k1 _ _ e,B,k2 _ _ _ L,O⟩
theorem Tb2.same (h:Tb2 tbL tbJ H)(s:Same H H'):Tb2 tbL tbJ H':=h.keep (λ_ _ e=>s _ _ e) λ_ _ _ e=>s _ _ e
theorem Tb2.put (h:Tb2 tbL tbJ H){b:Addr}{ys:List V}{o:HO}(e:H b=some (.lst ys)):Tb2 tbL tbJ (upd H b o):=h.keep (λc _ z=>Gi z λy=>by rw [y,e] at z;cases z) λc _ _ z=>Gi z λy=>by rw [y,e] at z;cases z
theorem Tb2.ne (h:Tb2 tbL tbJ H){b:Addr}{u:HO}(e:H b=some u)(n:∀ps,u≠.tbl ps):b≠tbL/\b≠tbJ:=by
 obtain ⟨ps,B⟩:=h.ld.tbl;obtain ⟨es,D,_⟩:=h.j;exact ⟨λz=>by rw [z,B] at e;cases e;exact n _ rfl,λz=>by rw [z,D.1] at e;cases e;exact n _ rfl⟩
theorem SameL2.at_ (s:SameL2 tbL tbJ H H')(h:Tb2 tbL tbJ H){b:Addr}{u:HO}(e:H b=some u)(n:∀ps,u≠.tbl ps):H' b=some u:=s _ _ (h.ne e n).1 (h.ne e n).2 e
theorem SameL2.tab (s:SameL2 tbL tbJ H H')(h:Tb2 tbL tbJ H){t l:Addr}{a:Int}{xs:List V}{ks:List Tri}(T:TabAt H t l a xs ks):TabAt H' t l a xs ks:=⟨s.at_ h T.w λ_ z=>(by cases z),s.at_ h T.l λ_ z=>(by cases z),T.t.keep λp ys e=>s.at_ h e λ_ z=>(by cases z)⟩
theorem SameL2.of (s:Same H H'):SameL2 tbL tbJ H H':=λb o _ _ e=>s b o e
theorem SameL2.trans {H2:Hp}(s:SameL2 tbL tbJ H H')(t:SameL2 tbL tbJ H' H2):SameL2 tbL tbJ H H2:=λb o j B e=>t b o j B (s b o j B e)
theorem SameL2.put (s:SameL2 tbL tbJ H H'){b:Addr}{o:HO}(j:H b=none):SameL2 tbL tbJ H (upd H' b o):=λc u B D e=>Gi (s c u B D e) (Gf e j)
end
structure RgI (tbL tbJ:Addr)(H0:Hp)(hd h1 m1 h2 m2 to:Addr)(a0 b0 c0:Int)(xs ys:List V)(ks vs:List Tri)(n:Nat)(ps:List Addr)(H:Hp):Prop where
 kp:SameL2 tbL tbJ H0 H
 tb:Tb2 tbL tbJ H
 hh:H hd=some (.lst [.ref h1,.ref h2])
 x:TabAt H h1 m1 a0 xs ks
 y:TabAt H h2 m2 b0 ys vs
 tt:H to=some (.lst (ps.map V.ref))
 f:H0 to=none
 nh:hd≠to/\m1≠to/\m2≠to
 pp:∀p∈ps,∃lp zs,H p=some (.tup [.int c0,.ref lp])/\H lp=some (.lst zs)/\zs.length=n/\lp≠to
section
variable {tbL tbJ hd h1 m1 h2 m2 to:Addr}{H0 H H':Hp}{a0 b0 c0:Int}{xs ys:List V}{ks vs:List Tri}{n:Nat}{ps:List Addr}
theorem RgI.go (R:RgI tbL tbJ H0 hd h1 m1 h2 m2 to a0 b0 c0 xs ys ks vs n ps H)(s:SameL2 tbL tbJ H H')(tb:Tb2 tbL tbJ H'):RgI tbL tbJ H0 hd h1 m1 h2 m2 to a0 b0 c0 xs ys ks vs n ps H':=
 ⟨R.kp.trans s,tb,s.at_ R.tb R.hh λ_ z=>(by cases z),s.tab R.tb R.x,s.tab R.tb R.y,s.at_ R.tb R.tt λ_ z=>(by cases z),R.f,R.nh,λp j=>by
  obtain ⟨B,zs,D,L,O⟩:=R.pp p j;exact ⟨B,zs,s.at_ R.tb D (λ_ z=>by cases z),s.at_ R.tb L (λ_ z=>by cases z),O⟩⟩
theorem RgI.add (R:RgI tbL tbJ H0 hd h1 m1 h2 m2 to a0 b0 c0 xs ys ks vs n ps H){p B:Addr}{zs:List V}(O:H p=some (.tup [.int c0,.ref B]))(U:H B=some (.lst zs))(Y:zs.length=n)(D:B≠to):RgI tbL tbJ H0 hd h1 m1 h2 m2 to a0 b0 c0 xs ys ks vs n (ps++[p]) (upd H to (.lst (ps.map V.ref++[.ref p]))):=by
 have k:∀{b:Addr}{u:HO},b≠to->H b=some u->upd H to (.lst (ps.map V.ref++[.ref p])) b=some u:=λn e=>Gi e n;have j:∀{b:Addr}{us:List V},H b=some (.tup us)->upd H to (.lst (ps.map V.ref++[.ref p])) b=some (.tup us):=λe=>Gi e λz=>by rw [z,R.tt] at e;cases e
 refine ⟨R.kp.put R.f,R.tb.put R.tt,k R.nh.1 R.hh,⟨j R.x.w,k R.nh.2.1 R.x.l,R.x.t.keep λ_ _ e=>j e⟩,⟨j R.y.w,k R.nh.2.2 R.y.l,R.y.t.keep λ_ _ e=>j e⟩,by rw [Gb,Yak];rfl,R.f,R.nh,λq Z=>?_⟩;rcases Yag.mp Z with h | h
 ·obtain ⟨lq,zq,f1,f2,f3,L⟩:=R.pp q h;exact ⟨lq,zq,j f1,k L f2,f3,L⟩
 ·rw [Yai.mp h];exact ⟨B,zs,j O,k D U,Y,D⟩
end
theorem Vk (a b:Int)(ks vs:List Tri):SeqAt.shaped (.list [.tuple [.int a,.list (ks.map trD)],.tuple [.int b,.list (vs.map trD)]])=true:=by
 unfold SeqAt.shaped;rw [Ycc];have h1:=OI ks;have h2:=OI vs;refine ⟨by simp only [PyData.canLay0,PyData.canLayAll0,VF ks,VF vs,Bool.and_self],Ybm ?_⟩;simp only [PyData.depth,PyData.depthAll]
 lia
theorem Zdv (a b:Int)(ks vs:List Tri):PyData.eqv (.list [.tuple [.int a,.list (ks.map trD)],.tuple [.int b,.list (vs.map trD)]]) (.list [.tuple [.int a,.list (ks.map trD)],.tuple [.int b,.list (vs.map trD)]])=true:=by
 have h1:=W3 a a ks ks;have h2:=W3 b b vs vs;simp only [PyData.eqv,PyData.eqvAll,W2,Bool.and_true] at h1 h2 ⊢;simp
noncomputable def Zaz (w:Int):Bool->Bool->Bool:=if w=0 then (· && ·) else if w=1 then (· || ·) else λx y=>x && !y
section
variable {P:Program}{w:World}{K:W.Frag}{mg:Str->Option Value}{base:Heap}
noncomputable def Zfo (tbL tbJ:Addr):Sp:=λus H Q _=>∃(j:Int)(t1 t2 td l1 l2 ld:Addr)(a0 b0 c0:Int)(xs ys zs:List V)(ks vs us':List Tri)(Un:List (List Int)),us=[.int j,.ref t1,.ref t2,.ref td]/\(j=0\/j=1\/j=2)/\TabAt H t1 l1 a0 xs ks/\TabAt H t2 l2 b0 ys vs/\TabAt H td ld c0 zs us'/\Zaf ks vs (Zaz j) a0 b0 800 Un/\us'.length<=1600/\tbL≠tbJ/\Tb2 tbL tbJ H /\
 (∀c us ts root fs,LeT (pfJ ks vs (Zaz j)) [a0,b0] c us ts root fs->us'=us/\c0=c)/\∀H':Hp,SameL2 tbL tbJ H H'->Tb2 tbL tbJ H'->Q (.bl true) H'
theorem scRig:Gs ["way", "one", "other", "due", "handed", "told", "turn", "found"] ["way", "one", "other", "due"] (Gh ZfG):=⟨rfl,rfl,rfl,by decide +kernel,rfl,by decide +kernel,by decide +kernel⟩
theorem Zfp {f ai aj B D L tbL tbJ:Addr}{fd Z aa ab ac ad:FuncData}(F:Fun K "_law_right" "_law_right" ZfG f fd)(ar:Fun K "_law_copied" "_law_copied" ZfE ai Z)(as:Binds K Z ["table"] [])(au:mg "_law_copied" = some (.ref ai))(av:FnOk P w K mg base CX0 1 ai Z ["table"] Zfi)(a3:Fun K "_law_just" "_law_just" ZfF aj aa)(a4:Binds K aa ["found", "due"] [])(a5:mg "_law_just" = some (.ref aj))(a6:FnOk P w K mg base CX0 1 aj aa ["found", "due"] Zfk)(a7:Fun K "both_of" "both_of" sBo B ab)(a8:Binds K ab ["one", "other"] [])(a9:mg "both_of" = some (.ref B))(aA:FnOk P w K mg base CX0 7 B ab ["one", "other"] (Zay tbL tbJ (· && ·)))(aB:Fun K "either_of" "either_of" sEo D ac)(aC:Binds K ac ["one", "other"] [])(aD:mg "either_of" = some (.ref D))(aE:FnOk P w K mg base CX0 7 D ac ["one", "other"] (Zay tbL tbJ (· || ·)))(aF:Fun K "first_without" "first_without" sFw L ad)(aG:Binds K ad ["one", "other"] [])(aH:mg "first_without" = some (.ref L))(aI:FnOk P w K mg base CX0 7 L ad ["one", "other"] (Zay tbL tbJ λx y=>x && !y))(af:mg "range" = none)(ah:mg "len" = none):FnOk P w K mg base CX0 8 f fd ["way", "one", "other", "due"] (Zfo tbL tbJ):=by
 refine F.ok scRig (λvs H Q E h=>?_) (λaW A outer s H vs Q E hr h=>?_)
 ·obtain ⟨_,_,_,_,_,_,_,_,_,_,_,_,_,_,_,_,_,rfl,_⟩:=h
  rfl
 ·obtain ⟨wy,t1,t2,td,l1,l2,ld,a0,b0,c0,xs,ys,zs,ks,vs,ak,Un,rfl,hw,T1,T2,Td,JO,aw,aJ,ae,due,q⟩:=h;have aX:=Ybi.symm;have hu:=hr.units
  let Cd:Addr->Sp->Prop:=λg sp=>(g=B/\sp=Zay tbL tbJ (· && ·))\/(g=D/\sp=Zay tbL tbJ (· || ·))\/(g=L/\sp=Zay tbL tbJ λx y=>x && !y)
  have am:∀g sp,Cd g sp->∃fd,FnOk P w K mg base CX0 7 g fd ["one", "other"] sp/\W.keepIn K (.ref g)=true/\Binds K fd ["one", "other"] []:=by
   rintro g sp (⟨rfl,rfl⟩ | ⟨rfl,rfl⟩ | ⟨rfl,rfl⟩)
   ·exact ⟨_,aA,a7.kp,a8⟩
   ·exact ⟨_,aE,aB.kp,aC⟩
   ·exact ⟨_,aI,aF.kp,aG⟩
  have ax:∃g,Cd g (Zay tbL tbJ (Zaz wy))/\atI [V.ref B,V.ref D,V.ref L] wy=some (V.ref g):=by
   rcases hw with rfl | rfl | rfl
   ·exact ⟨B,.inl ⟨rfl,rfl⟩,Gm (j:=0) rfl⟩
   ·exact ⟨D,.inr (.inl ⟨rfl,rfl⟩),Gm (j:=1) rfl⟩
   ·exact ⟨L,.inr (.inr ⟨rfl,rfl⟩),Gm (j:=2) rfl⟩
  obtain ⟨g,hg,ag⟩:=ax;refine ⟨_,(@Ge _ _ _ _ _ (@Gp _ _ 4 _ _ _ _ scRig.nd rfl (Or.inl rfl) (@Gy _ _ _ _ (@Ga _ _ _ _ _ (@Gk _ _ _ _ _ _ _ _ _ _ _ _ _ _ _ _ av (hr.mono (by decide)) rfl au ar.kp as .nil Gv (@Ga _ _ _ _ _ (pv 1) Gc rfl) (by decide) rfl rfl) (@Ga _ _ _ _ _ (@Gk _ _ _ _ _ _ _ _ _ _ _ _ _ _ _ _ av (hr.mono (by decide)) rfl au ar.kp as .nil Gv (@Ga _ _ _ _ _ (pv 2) Gc rfl) (by decide) rfl rfl) Gc rfl) rfl)) rfl (by first | exact .inl rfl | exact .inr rfl))
    (@Ge _ _ _ _ _ (@Gp _ _ 5 _ _ _ _ scRig.nd rfl (Or.inl rfl) (@Gy _ _ _ _ Gc) rfl (by first | exact .inl rfl | exact .inr rfl))
    (@Ge _ _ _ _ _ (@JE _ _ _ _ _ _ _ _ Yck rfl (J0 rfl af (@Ga _ _ _ _ _ Gg Gc rfl)) (Go (i:=6) scRig.nd rfl (Or.inl rfl))
    (@Ge _ _ _ _ _ (@Gp _ _ 7 _ _ _ _ scRig.nd rfl (Or.inl rfl) (Zbn am (hr.mono (by decide)) (@GD _ _ _ _ _ _ _ (On K) (@Gy _ _ _ _ (@Ga _ _ _ _ _ (JK (v:=.ref B) rfl a9 rfl) (@Ga _ _ _ _ _ (JK (v:=.ref D) rfl aD rfl) (@Ga _ _ _ _ _ (JK (v:=.ref L) rfl aH rfl) Gc rfl) rfl) rfl)) (pv 0) (λ_ _=>rfl)) .nil Gv (@Ga _ _ _ _ _ (@GD _ _ _ _ _ _ _ (On K) (pv 4) Gg (λ_ _=>rfl)) (@Ga _ _ _ _ _ (@GD _ _ _ _ _ _ _ (On K) (pv 4) Gg (λ_ _=>rfl)) Gc rfl) rfl)) rfl (by first | exact .inl rfl | exact .inr rfl))
    (@Ge _ _ _ _ _ (@Jl _ _ _ _ _ _ _ _ (PW.pt (UO (JY (Ju (@Gk _ _ _ _ _ _ _ _ _ _ _ _ _ _ _ _ a6 (hr.mono (by decide)) rfl a5 a3.kp a4 .nil Gv (@Ga _ _ _ _ _ (pv 7) (@Ga _ _ _ _ _ (pv 3) Gc rfl) rfl) (by decide) rfl rfl))) (Ov (Gr (ZcB K hu) (pv 4) (@Gy _ _ _ _ (@Ga _ _ _ _ _ (pv 1) (@Ga _ _ _ _ _ (pv 2) Gc rfl) rfl)) (GA _))))) (@Gj _ _ _ (@Gx _ _ _ _ UN)) GC)
    (@Ge _ _ _ _ _ (Jc (Oq Yce Ycp Ycq GQ (@GD _ _ _ _ _ _ _ (U7 K) (pv 7) Gg (λ_ _=>rfl)) (@Ga _ _ _ _ _ (@Je _ _ _ _ _ (@Ga _ _ _ _ _ Gg (@Ga _ _ _ _ _ Gg (@Ga _ _ _ _ _ Gg Gc rfl) rfl) rfl)) Gc rfl)))
    (@Gj _ _ _ (Jc (Oq Yce Ycp Ycq GQ (pv 5) (@Ga _ _ _ _ _ (pv 7) Gc rfl))))))) (by intro _;rfl))
    (@Gj _ _ _ (@Gx _ _ _ _ (OT Ox (Gu (YI K) rfl ah Ycu (@Ga _ _ _ _ _ (@GD _ _ _ _ _ _ _ (U7 K) (@GD _ _ _ _ _ _ _ (On K) (pv 5) Gg (λ_ _=>rfl)) Gg (λ_ _=>rfl)) Gc rfl)) (@GE _ _ _ _ _ _ _ _ Jv (Gu (YI K) rfl ah Ycu (@Ga _ _ _ _ _ (@GD _ _ _ _ _ _ _ (U7 K) (pv 3) Gg (λ_ _=>rfl)) Gc rfl)) Gg) (GA _))))))),?_⟩
  refine ⟨_,rfl,t1,l1,a0,xs,ks,rfl,T1,λh1 m1 H1 s1 aK aL X1=>?_⟩;refine ⟨_,rfl,t2,l2,b0,ys,vs,rfl,T2.same s1,λh2 m2 H2 s2 aM aN Y2=>?_⟩;refine ⟨JB,λhd ay=>?_⟩;obtain ⟨H3,q_,s3,e3⟩:=nwU (o:=.lst [.ref h1,.ref h2]) ay;rw [q_];refine ⟨Yao _,λto U=>?_⟩;have s4:Same H3 (upd H3 to (.lst [])):=Same.new U;have S:=(s1.trans s2).trans (s3.trans s4);have X3:=X1.same (s2.trans s3);have Y3:=Y2.same s3;have R0:RgI tbL tbJ H hd h1 m1 h2 m2 to a0 b0 c0 xs ys ks vs (ak.length+1) [] (upd H3 to (.lst [])):=⟨SameL2.of S,ae.same S,s4 _ _ e3,X3.same s4,Y3.same s4,Gb,((s1.trans s2).trans s3).free U,⟨Gf e3 U,Gf X3.l U,Gf Y3.l U⟩,λp hp=>by cases hp⟩;generalize upd H3 to (.lst [])=H4 at R0 ⊢;clear s3 s4 S X3 Y3 U e3 ay aM aN Y2 s2 aK aL X1 s1;dsimp only [GW];refine ⟨_,rfl,by decide,by decide,?_⟩;refine Ow (lo:=0) (n:=2) (λj σ H'=>∃(v6 v7:Option V)(ps:List Addr),σ=[some (.int wy),some (.ref t1),some (.ref t2),some (.ref td),some (.ref hd),some (.ref to),v6,v7]/\RgI tbL tbJ H hd h1 m1 h2 m2 to a0 b0 c0 xs ys ks vs (ak.length+1) ps H'/\ps.length=j) ⟨none,none,[],rfl,R0,rfl⟩ ?_ ?_
  ·rintro j σ Hx hj ⟨v6,v7,ps,rfl,Rx,an⟩;dsimp only [GW];refine ⟨by show 3<=sizeLine;lia,λfl aO=>?_⟩;obtain ⟨H5,q_,s5,e5⟩:=nwU (o:=.lst [.ref B,.ref D,.ref L]) aO;rw [q_];have R5:=Rx.go (SameL2.of s5) (Rx.tb.same s5);refine ⟨_,rfl,fl,_,_,_,rfl,rfl,SqL.of e5,ag,g,_,rfl,hg,?_⟩;refine ⟨_,rfl,hd,_,_,_,rfl,rfl,SqL.of R5.hh,Gm (j:=0) rfl,_,rfl,hd,_,_,_,rfl,rfl,SqL.of R5.hh,Gm (j:=1) rfl,?_⟩;refine ⟨h1,h2,rfl,m1,m2,a0,b0,xs,ys,ks,vs,Un,R5.x,R5.y,JO,R5.tb.ld,aJ,R5.tb.j,λp lp c root O us ts fs H6 s6 aP aQ hp az Tp LT aY=>?_⟩;obtain ⟨rfl,rfl⟩:=due _ _ _ _ _ LT;have aR:Tb2 tbL tbJ H6:=⟨aP,aQ⟩;have R6:=R5.go s6 aR;dsimp only [GW];refine ⟨_,rfl,_,rfl,p,lp,td,ld,c0,O,zs,ak,rfl,Tp,R6.kp.tab ae Td,aw,λH7 s7=>⟨_,rfl,Oj ?_⟩⟩;have R7:=R6.go (SameL2.of s7) (R6.tb.same s7);refine ⟨_,rfl,_,rfl,_,rfl,JB,λnl aS=>?_⟩;obtain ⟨H8,q_,s8,e8⟩:=nwU (o:=.lst [.ref t1,.ref t2]) aS;rw [q_];have R8:=R7.go (SameL2.of s8) (R7.tb.same s8);have ao:=R8.kp.tab ae T1;have ap:=R8.kp.tab ae T2;refine ⟨.list [.tuple [.int a0,.list (ks.map trD)],.tuple [.int b0,.list (vs.map trD)]],.list [.tuple [.int a0,.list (ks.map trD)],.tuple [.int b0,.list (vs.map trD)]],.lst (SqL.of R8.hh) (.cons (.tup (SqT.of R8.x.w) (.cons (.int _) (.cons (.lst (SqL.of R8.x.l) R8.x.t.dats) .nil))) (.cons (.tup (SqT.of R8.y.w) (.cons (.int _) (.cons (.lst (SqL.of R8.y.l) R8.y.t.dats) .nil))) .nil)),.lst (SqL.of e8) (.cons (.tup (SqT.of ao.w) (.cons (.int _) (.cons (.lst (SqL.of ao.l) ao.t.dats) .nil))) (.cons (.tup (SqT.of ap.w) (.cons (.int _) (.cons (.lst (SqL.of ap.l) ap.t.dats) .nil))) .nil)),Vk _ _ _ _,Vk _ _ _ _,_,rfl,?_⟩;rw [Zdv];refine Oj ?_;dsimp only [JZ];have Y:=Tp.same (s7.trans s8);refine ⟨_,rfl,p,_,_,_,rfl,rfl,SqT.of Y.w,Gm (j:=1) rfl,.inl ⟨rfl,_,SqL.of Y.l⟩,by show 3<=sizeLine;lia,λt ht=>?_⟩;obtain ⟨H9,q_,s9,_⟩:=nwU (o:=.tup [.int 0,.int 0,.int 1]) ht;rw [q_];have R9:=R8.go (SameL2.of s9) (R8.tb.same s9);have a1:=s9 _ _ Y.l;have zl:=Tp.t.len;refine ⟨lp,_,_,rfl,rfl,a1,by lia,?_⟩;have aT:∀{b:Addr}{u:HO},H5 b=some u->b≠lp:=λe=>Gf e az;have aU:SameL2 tbL tbJ H5 H9:=s6.trans (SameL2.of ((s7.trans s8).trans s9));have aV:SameL2 tbL tbJ H5 (upd H9 lp (.lst (O++[.ref t]))):=aU.put az;have Ra:=R5.go aV (R9.tb.put a1);have ep:upd H9 lp (.lst (O++[.ref t])) p=some (.tup [.int c0,.ref lp]):=Gi (s9 _ _ Y.w) λz=>by have:=Y.w;rw [z,Y.l] at this;cases this
   have a2:upd H9 lp (.lst (O++[.ref t])) lp=some (.lst (O++[.ref t])):=Gb;generalize upd H9 lp (.lst (O++[.ref t]))=Ha at Ra ep a2 ⊢;dsimp only [JZ];refine ⟨_,rfl,.inl ⟨rfl,_,SqL.of Ra.tt⟩,_,rfl,to,_,_,rfl,rfl,Ra.tt,by rw [Yab];lia,?_⟩;exact ⟨_,_,_,rfl,Ra.add ep a2 (by rw [Yae,Yap];lia) (Ne.symm (aT R5.tt)),by rw [Yae,Yap,an]⟩
  ·rintro σ Hx ⟨v6,v7,ps,rfl,Rx,an⟩
   match ps,an with
   | [p,p'],_=>
    obtain ⟨lp,O,e1,e2,e3,_⟩:=Rx.pp p (Yaw ..);have aq:=Rx.kp.tab ae Td;have dl:=aq.t.len;refine ⟨_,rfl,to,_,_,_,rfl,rfl,SqL.of Rx.tt,Gm (j:=0) rfl,p,_,_,_,rfl,rfl,SqT.of e1,Gm (j:=1) rfl,lp,_,rfl,.inl (SqL.of e2),?_⟩;refine ⟨_,rfl,td,_,_,_,rfl,rfl,SqT.of aq.w,Gm (j:=1) rfl,ld,_,rfl,.inl (SqL.of aq.l),_,_,rfl,rfl,rfl,?_⟩;have e:decide (V.int (O.length:Int)=V.int ((zs.length:Int)+1))=true:=by
     rw [decide_eq_true_eq,e3,dl];simp
    rw [e];exact q _ Rx.kp Rx.tb
theorem VZ (B:List (List Int)):∀e∈Ud B,SeqAt.shaped e=true:=λe j=>by
 unfold Ud at j;obtain ⟨l,_,rfl⟩:=Yam.mp j;exact G6 l
theorem Xc (j:List (List Int))(b:List Int):(Ud j).any (λe=>PyData.eqv e (.list (b.map PyData.int)))=decide (b∈j):=by
 unfold Ud;rw [List.any_map]
 induction j with
 | nil=>rfl
 | cons l j ih=>
  rw [List.any_cons,ih];show (PyData.eqv (.list (l.map PyData.int)) (.list (b.map PyData.int)) || _)=_;rw [OA];by_cases h1:l=b
  ·simp [h1]
  ·have B:¬ b=l:=λz=>h1 z.symm;simp [h1,B]
theorem Zar {j H1 H2:Hp}{d:Addr}{c:Nat}(h:j d=none)(s:Same j H1)(k:Pk H1 H2 d c):Same j H2:=λb o e=>k.keep b o (Gf e h) (s b o e)
noncomputable def OQ (j:Bool)(G:List (List Int))(B:List (Addr×List Int)):List (Addr×List Int):=B.filter λz=>j != decide (z.2∈G)
theorem UL {B:Bool}{G:List (List Int)}{D:List (Addr×List Int)}{j:Nat}{z:Addr×List Int}(hz:D[j]?=some z):OQ B G (D.take (j+1))=OQ B G (D.take j)++(if (B != decide (z.2∈G))=true then [z] else []):=by
 rw [Ybu,hz];unfold OQ;rw [Ydh]
 congr 1
 by_cases L:(B != decide (z.2∈G))=true
 ·simp [L]
 ·simp [L]
theorem Xd {j:Bool}{G:List (List Int)}{D:List (Addr×List Int)}{s:List Int}:s∈(OQ j G D).map (·.2)↔(s∈D.map (·.2)/\(j != decide (s∈G))=true):=by
 unfold OQ;constructor
 ·intro h;obtain ⟨z,B,rfl⟩:=Yam.mp h;obtain ⟨h1,h2⟩:=Yby.mp B;exact ⟨Yam.mpr ⟨z,h1,rfl⟩,h2⟩
 ·rintro ⟨h1,h2⟩;obtain ⟨z,B,rfl⟩:=Yam.mp h1;exact Yam.mpr ⟨z,Yby.mpr ⟨B,h2⟩,rfl⟩
theorem Oh {ks vs j:List Tri}{a0 b0 c0:Int}{F G:List (List Int)}{B:Int}(S:ShOk ks)(O:ShOk vs)(a:At ks a0 (-1))(b:At vs b0 (-1))(U:∀s,Has ks a0 s↔s∈F)(Y:∀s,Has vs b0 s↔s∈G)(Z:ShOk j)(Fq:ZfI j c0)(aq:At j c0 (-1))(hq:∀s,Has j c0 s↔Zaz B (decide (s∈F)) (decide (s∈G))=true) :
  ∀c us ts root fs,LeT (pfJ ks vs (Zaz B)) [a0,b0] c us ts root fs->j=us/\c0=c:=by
 intro c us ts root fs L;obtain ⟨gs,R,Fi,Sd,hl,h0⟩:=Fq;refine L.same (Up S.ok O.ok a b) Z aq R Fi Sd hl h0 λx=>?_;have D:Zaz B false false=false:=by unfold Zaz;split <;> (try split) <;> rfl
 rw [ZbE S.ok O.ok D _ a b (Yad _) x,hq];have e1:@decide (Has ks a0 x) (Classical.propDecidable _)=decide (x∈F):=decide_eq_decide.mpr (U x);have e2:@decide (Has vs b0 x) (Classical.propDecidable _)=decide (x∈G):=decide_eq_decide.mpr (Y x);rw [e1,e2]
theorem SqL.sameL2 {H H':Hp}{a tbL tbJ:Addr}{xs:List V}(h:SqL K H a xs)(s:SameL2 tbL tbJ H H')(t:Tb2 tbL tbJ H):SqL K H' a xs:=by
 rcases h with (h | ⟨o,h⟩) | h
 ·exact .inl (.inl (s.at_ t h λ_ z=>by cases z))
 ·exact .inl (.inr ⟨o,s.at_ t h λ_ z=>by cases z⟩)
 ·exact .inr h
noncomputable def ZbH (K:W.Frag)(tbL tbJ:Addr):Sp:=λvs H Q _=>∃(a:Addr)(ns:List Int),vs=[.ref a]/\SqL K H a (ns.map V.int)/\ns.length<=63/\tbL≠tbJ/\H tbL=some (.tbl #[])/\H tbJ=some (.tbl #[])/\∀H',Q (.bl true) H'
theorem scLaw:Gs ["script", "k", "pool", "roads", "ones", "others", "wide", "one", "other", "both", "first", "second"] ["script"] (Gh Zav):=⟨rfl,rfl,rfl,by decide +kernel,rfl,by decide +kernel,by decide +kernel⟩
theorem Zfq {f fP fR aR fN aS fT aT tbL tbJ:Addr}{fd aU aV a7 aW a8 aX a9:FuncData}(F:Fun K "law" "law" Zav f fd)(FP:Fun K "_law_pool" "_law_pool" ZfA fP aU)(bP:Binds K aU ["script", "k"] [])(mP:mg "_law_pool" = some (.ref fP))(GP:FnOk P w K mg base CX0 1 fP aU ["script", "k"] (Ze3 (K:=K)))(FR:Fun K "_law_roads" "_law_roads" ZfB fR aV)(bR:Binds K aV ["pool"] [])(mR:mg "_law_roads" = some (.ref fR))(GR:FnOk P w K mg base CX0 2 fR aV ["pool"] Ze6)(bm:Fun K "_law_family" "_law_family" ZfC aR a7)(bn:Binds K a7 ["pool", "roads"] [])(bo:mg "_law_family" = some (.ref aR))(bp:FnOk P w K mg base CX0 3 aR a7 ["pool", "roads"] Ze8)(FN:Fun K "_law_near" "_law_near" ZfD fN aW)(bN:Binds K aW ["pool", "sets", "roads"] [])(mN:mg "_law_near" = some (.ref fN))(GN:FnOk P w K mg base CX0 3 fN aW ["pool", "sets", "roads"] Zfm)(am:Fun K "_law_table" "_law_table" ZeB aS a8)(an:Binds K a8 ["sets"] [])(ao:mg "_law_table" = some (.ref aS))(ap:FnOk P w K mg base CX0 2 aS a8 ["sets"] Zfg)(FT:Fun K "_law_take" "_law_take" Zbo fT aX)(bT:Binds K aX ["pool", "many"] [])(mT:mg "_law_take" = some (.ref fT))(GT:FnOk P w K mg base CX0 1 fT aX ["pool", "many"] Xa)(aq:Fun K "_law_right" "_law_right" ZfG aT a9)(ar:Binds K a9 ["way", "one", "other", "due"] [])(as:mg "_law_right" = some (.ref aT))(au:FnOk P w K mg base CX0 8 aT a9 ["way", "one", "other", "due"] (Zfo tbL tbJ))(aH:mg "range" = none)(bq:mg "len" = none)(br:mg "max" = none)(bt:mg "min" = none)(bu:mg "sorted" = none):FnOk P w K mg base CX0 9 f fd ["script"] (ZbH K tbL tbJ):=by
 refine F.ok scLaw (λvs H Q E h=>?_) (λbS A outer s H vs Q E hr h=>?_)
 ·obtain ⟨_,_,rfl,_⟩:=h
  rfl
 ·obtain ⟨a,ns,rfl,hS,cE,av,bU,bV,q⟩:=h;have cF:=Ybi.symm;have hu:=hr.units;have aA:(A.deeper (PyProof.Rows.envOfC "law" (Gh Zav) s.heap.objs.size f bS)).units+65<cLine:=by have:=hr.un;lia
  have bv:Tb2 tbL tbJ H:=⟨.inl bU,⟨[],⟨bV,λe he=>by cases he⟩,.inl rfl⟩⟩;refine ⟨_,(@Ge _ _ _ _ _ (@JE _ _ _ _ _ _ _ _ Yck rfl (J0 rfl aH (@Ga _ _ _ _ _ (Gu (YW rfl) rfl br Zbu (@Ga _ _ _ _ _ Gg (@Ga _ _ _ _ _ (Gu (YX rfl) rfl bt Vv (@Ga _ _ _ _ _ Gg (@Ga _ _ _ _ _ (Gu (YI K) rfl bq Ycu (@Ga _ _ _ _ _ (pv 0) Gc rfl)) Gc rfl) rfl)) Gc rfl) rfl)) Gc rfl)) (Go (i:=1) scLaw.nd rfl (Or.inl rfl))
    (@Ge _ _ _ _ _ (@Gp _ _ 2 _ _ _ _ scLaw.nd rfl (Or.inl rfl) (@Gk _ _ _ _ _ _ _ _ _ _ _ _ _ _ _ _ GP (hr.mono (by decide)) rfl mP FP.kp bP .nil Gv (@Ga _ _ _ _ _ (pv 0) (@Ga _ _ _ _ _ (pv 1) Gc rfl) rfl) (by decide) rfl rfl) rfl (by first | exact .inl rfl | exact .inr rfl))
    (@Ge _ _ _ _ _ (@Gp _ _ 3 _ _ _ _ scLaw.nd rfl (Or.inr rfl) (@Gk _ _ _ _ _ _ _ _ _ _ _ _ _ _ _ _ GR (hr.mono (by decide)) rfl mR FR.kp bR .nil Gv (@Ga _ _ _ _ _ (pv 2) Gc rfl) (by decide) rfl rfl) rfl (by first | exact .inl rfl | exact .inr rfl))
    (@Ge _ _ _ _ _ (@Gp _ _ 4 _ _ _ _ scLaw.nd rfl (Or.inr rfl) (@Gk _ _ _ _ _ _ _ _ _ _ _ _ _ _ _ _ bp (hr.mono (by decide)) rfl bo bm.kp bn .nil Gv (@Ga _ _ _ _ _ (pv 2) (@Ga _ _ _ _ _ (pv 3) Gc rfl) rfl) (by decide) rfl rfl) rfl (by first | exact .inl rfl | exact .inr rfl))
    (@Ge _ _ _ _ _ (@Gp _ _ 5 _ _ _ _ scLaw.nd rfl (Or.inr rfl) (@Gk _ _ _ _ _ _ _ _ _ _ _ _ _ _ _ _ GN (hr.mono (by decide)) rfl mN FN.kp bN .nil Gv (@Ga _ _ _ _ _ (pv 2) (@Ga _ _ _ _ _ (pv 4) (@Ga _ _ _ _ _ (pv 3) Gc rfl) rfl) rfl) (by decide) rfl rfl) rfl (by first | exact .inl rfl | exact .inr rfl))
    (@Ge _ _ _ _ _ (@Jl _ _ _ _ _ _ _ _ (Gr Ox (@Gk _ _ _ _ _ _ _ _ _ _ _ _ _ _ _ _ GT (hr.mono (by decide)) rfl mT FT.kp bT .nil Gv (@Ga _ _ _ _ _ (pv 2) (@Ga _ _ _ _ _ Gg Gc rfl) rfl) (by decide) rfl rfl) Gg (GA _)) (@Ge _ _ _ _ _ (@Gp _ _ 6 _ _ _ _ scLaw.nd rfl (Or.inl rfl) (@GE _ _ _ _ _ _ _ _ Uv (pv 3) (Jo (own:=["road"]) rfl (Gq (fr:=[("roads", 3)]) [(".0", .local),("road", .local),("roads", .cell)] rfl rfl (by decide +kernel) rfl (by decide +kernel) ⟨rfl,trivial⟩ ⟨λh=>G7 h,λh=>G7 h,λ_=>⟨_,rfl⟩,trivial⟩ ⟨⟨rfl,.inl rfl,.inl rfl⟩,trivial⟩) (Jz K (@Gk _ _ _ _ _ _ _ _ _ _ _ _ _ _ _ _ GR (hr.mono (by decide)) rfl mR FR.kp bR .nil Gv (@Ga _ _ _ _ _ (pv 2) Gc rfl) (by decide) rfl rfl)) (λ_ _ _ _=>Go (i:=0) (show List.Nodup (["road", "roads"]:List Str) by decide +kernel) rfl (Or.inl rfl)) (λ_ _ _ _=>Jb (Gr (ZbO K) (pv 0) (pv 1) (by with_unfolding_all rfl))) (λ_ _ _ _=>pv 0))) rfl (by first | exact .inl rfl | exact .inr rfl))
    (@Gj _ _ _ (@Gp _ _ 5 _ _ _ _ scLaw.nd rfl (Or.inr rfl) (@Gk _ _ _ _ _ _ _ _ _ _ _ _ _ _ _ _ bp (hr.mono (by decide)) rfl bo bm.kp bn .nil Gv (@Ga _ _ _ _ _ (pv 2) (@Ga _ _ _ _ _ (Gu (ZbZ K) rfl bu PyProof.Rows.boot_sorted (@Ga _ _ _ _ _ (J8 (kSl K) (pv 6) OU (OV Gg)) Gc rfl)) Gc rfl) rfl) (by decide) rfl rfl) rfl (by first | exact .inl rfl | exact .inr rfl)))) GC)
    (@Ge _ _ _ _ _ (@Gp _ _ 7 _ _ _ _ scLaw.nd rfl (Or.inl rfl) (@Gk _ _ _ _ _ _ _ _ _ _ _ _ _ _ _ _ ap (hr.mono (by decide)) rfl ao am.kp an .nil Gv (@Ga _ _ _ _ _ (pv 4) Gc rfl) (by decide) rfl rfl) rfl (by first | exact .inl rfl | exact .inr rfl))
    (@Ge _ _ _ _ _ (@Gp _ _ 8 _ _ _ _ scLaw.nd rfl (Or.inl rfl) (@Gk _ _ _ _ _ _ _ _ _ _ _ _ _ _ _ _ ap (hr.mono (by decide)) rfl ao am.kp an .nil Gv (@Ga _ _ _ _ _ (pv 5) Gc rfl) (by decide) rfl rfl) rfl (by first | exact .inl rfl | exact .inr rfl))
    (@Ge _ _ _ _ _ (@Gp _ _ 9 _ _ _ _ scLaw.nd rfl (Or.inl rfl) (@Gk _ _ _ _ _ _ _ _ _ _ _ _ _ _ _ _ ap (hr.mono (by decide)) rfl ao am.kp an .nil Gv (@Ga _ _ _ _ _ (Jo (own:=["some"]) rfl (Gq (fr:=[("others", 5)]) [(".0", .local),("some", .local),("others", .cell)] rfl rfl (by decide +kernel) rfl (by decide +kernel) ⟨rfl,trivial⟩ ⟨λh=>G7 h,λh=>G7 h,λ_=>⟨_,rfl⟩,trivial⟩ ⟨⟨rfl,.inl rfl,.inl rfl⟩,trivial⟩) (Jz K (pv 4)) (λ_ _ _ _=>Go (i:=0) (show List.Nodup (["some", "others"]:List Str) by decide +kernel) rfl (Or.inl rfl)) (λ_ _ _ _=>Jb (Gr (Zhd K aA) (pv 0) (pv 1) (by with_unfolding_all rfl))) (λ_ _ _ _=>pv 0)) Gc rfl) (by decide) rfl rfl) rfl (by first | exact .inl rfl | exact .inr rfl))
    (@Ge _ _ _ _ _ (@Gp _ _ 10 _ _ _ _ scLaw.nd rfl (Or.inl rfl) (@Gk _ _ _ _ _ _ _ _ _ _ _ _ _ _ _ _ ap (hr.mono (by decide)) rfl ao am.kp an .nil Gv (@Ga _ _ _ _ _ (Jo (own:=["some"]) rfl (Gq (fr:=[("others", 5)]) [(".0", .local),("some", .local),("others", .cell)] rfl rfl (by decide +kernel) rfl (by decide +kernel) ⟨rfl,trivial⟩ ⟨λh=>G7 h,λh=>G7 h,λ_=>⟨_,rfl⟩,trivial⟩ ⟨⟨rfl,.inl rfl,.inl rfl⟩,trivial⟩) (Jz K (pv 4)) (λ_ _ _ _=>Go (i:=0) (show List.Nodup (["some", "others"]:List Str) by decide +kernel) rfl (Or.inl rfl)) (λ_ _ _ _=>Jb (Gr (Zj K aA) (pv 0) (pv 1) (by with_unfolding_all rfl))) (λ_ _ _ _=>pv 0)) Gc rfl) (by decide) rfl rfl) rfl (by first | exact .inl rfl | exact .inr rfl))
    (@Ge _ _ _ _ _ (@Gp _ _ 11 _ _ _ _ scLaw.nd rfl (Or.inl rfl) (@Gk _ _ _ _ _ _ _ _ _ _ _ _ _ _ _ _ ap (hr.mono (by decide)) rfl ao am.kp an .nil Gv (@Ga _ _ _ _ _ (Jo (own:=["some"]) rfl (Gq (fr:=[("ones", 4)]) [(".0", .local),("some", .local),("ones", .cell)] rfl rfl (by decide +kernel) rfl (by decide +kernel) ⟨rfl,trivial⟩ ⟨λh=>G7 h,λh=>G7 h,λ_=>⟨_,rfl⟩,trivial⟩ ⟨⟨rfl,.inl rfl,.inl rfl⟩,trivial⟩) (Jz K (pv 5)) (λ_ _ _ _=>Go (i:=0) (show List.Nodup (["some", "ones"]:List Str) by decide +kernel) rfl (Or.inl rfl)) (λ_ _ _ _=>Jb (Gr (Zj K aA) (pv 0) (pv 1) (by with_unfolding_all rfl))) (λ_ _ _ _=>pv 0)) Gc rfl) (by decide) rfl rfl) rfl (by first | exact .inl rfl | exact .inr rfl))
    (@Ge _ _ _ _ _ (@Jl _ _ _ _ _ _ _ _ (PW.pt (UO (JY (Ju (@Gk _ _ _ _ _ _ _ _ _ _ _ _ _ _ _ _ au (hr.mono (by decide)) rfl as aq.kp ar .nil Gv (@Ga _ _ _ _ _ Gg (@Ga _ _ _ _ _ (pv 7) (@Ga _ _ _ _ _ (pv 8) (@Ga _ _ _ _ _ (pv 9) Gc rfl) rfl) rfl) rfl) (by decide) rfl rfl))) (Ov (JY (Ju (@Gk _ _ _ _ _ _ _ _ _ _ _ _ _ _ _ _ au (hr.mono (by decide)) rfl as aq.kp ar .nil Gv (@Ga _ _ _ _ _ Gg (@Ga _ _ _ _ _ (pv 7) (@Ga _ _ _ _ _ (pv 8) (@Ga _ _ _ _ _ (@Gk _ _ _ _ _ _ _ _ _ _ _ _ _ _ _ _ ap (hr.mono (by decide)) rfl ao am.kp an .nil Gv (@Ga _ _ _ _ _ (@GE _ _ _ _ _ _ _ _ Uv (pv 4) (pv 5)) Gc rfl) (by decide) rfl rfl) Gc rfl) rfl) rfl) rfl) (by decide) rfl rfl)))))) (@Gj _ _ _ (@Gx _ _ _ _ UN)) GC)
    (@Ge _ _ _ _ _ (@Jl _ _ _ _ _ _ _ _ (PW.pt (UO (JY (Ju (@Gk _ _ _ _ _ _ _ _ _ _ _ _ _ _ _ _ au (hr.mono (by decide)) rfl as aq.kp ar .nil Gv (@Ga _ _ _ _ _ Gg (@Ga _ _ _ _ _ (pv 7) (@Ga _ _ _ _ _ (pv 8) (@Ga _ _ _ _ _ (pv 10) Gc rfl) rfl) rfl) rfl) (by decide) rfl rfl))) (Ov (JY (Ju (@Gk _ _ _ _ _ _ _ _ _ _ _ _ _ _ _ _ au (hr.mono (by decide)) rfl as aq.kp ar .nil Gv (@Ga _ _ _ _ _ Gg (@Ga _ _ _ _ _ (pv 8) (@Ga _ _ _ _ _ (pv 7) (@Ga _ _ _ _ _ (pv 11) Gc rfl) rfl) rfl) rfl) (by decide) rfl rfl)))))) (@Gj _ _ _ (@Gx _ _ _ _ UN)) GC)
    (@Gj _ _ _ (@Jl _ _ _ _ _ _ _ _ (PW.pt (UO (JY (Ju (@Gk _ _ _ _ _ _ _ _ _ _ _ _ _ _ _ _ au (hr.mono (by decide)) rfl as aq.kp ar .nil Gv (@Ga _ _ _ _ _ Gg (@Ga _ _ _ _ _ (pv 7) (@Ga _ _ _ _ _ (pv 7) (@Ga _ _ _ _ _ (pv 7) Gc rfl) rfl) rfl) rfl) (by decide) rfl rfl))) (Ov (JY (Ju (@Gk _ _ _ _ _ _ _ _ _ _ _ _ _ _ _ _ au (hr.mono (by decide)) rfl as aq.kp ar .nil Gv (@Ga _ _ _ _ _ Gg (@Ga _ _ _ _ _ (pv 7) (@Ga _ _ _ _ _ (pv 7) (@Ga _ _ _ _ _ (@Je _ _ _ _ _ (@Ga _ _ _ _ _ Gg (@Ga _ _ _ _ _ (@Gy _ _ _ _ Gc) Gc rfl) rfl)) Gc rfl) rfl) rfl) rfl) (by decide) rfl rfl)))))) (@Gj _ _ _ (@Gx _ _ _ _ UN)) GC)))))))))))))) (by intro _;rfl))
    (@Gj _ _ _ (@Gx _ _ _ _ UN))),?_⟩
  refine ⟨_,rfl,a,_,rfl,.inl hS,_,_,rfl,_,_,rfl,?_⟩;rw [Yab];refine ⟨_,rfl,by split <;> split <;> lia,by split <;> split <;> lia,?_⟩;refine Ow (lo:=0) (λi σ H'=>∃v1 v2 v3 v4 v5 v6 v7 v8 v9 aI aJ:Option V,σ=[some (.ref a),v1,v2,v3,v4,v5,v6,v7,v8,v9,aI,aJ]/\SameL2 tbL tbJ H H'/\Tb2 tbL tbJ H') ⟨none,none,none,none,none,none,none,none,none,none,none,rfl,λ_ _ _ _ e=>e,bv⟩ ?_ ?_
  ·rintro i σ Hs hi ⟨v1,v2,v3,v4,v5,v6,v7,v8,v9,aI,aJ,rfl,bw,bW⟩;have cG:i<100:=by
    have:i<6:=by
     refine Yax hi ?_;split <;> split <;> lia
    lia
   rw [Int.zero_add];dsimp only [GW];refine ⟨_,rfl,_,rfl,a,ns,i,rfl,SqL.sameL2 hS bw bv,by lia,λd H1 s1 aY aZ=>?_⟩;dsimp only [GW];refine ⟨_,rfl,d,2000,rfl,aZ,by decide,λrl rs H2 k2 bx ba af=>?_⟩;have aw:=Ne.symm (aZ.ne bx);dsimp only [GW];refine ⟨_,rfl,_,rfl,d,rl,2006,rs,rfl,k2.at_,by decide,aw,ba,af,λsl O H3 k3 bz aK aL bX bb cH bc=>?_⟩;have bd:=Ne.symm (k2.at_.ne bz);have nz:∀z∈O,z.1≠d:=λz L=>Ne.symm (k2.at_.ne (bX z L));have cA:=af.2.2.2;have be:=k3.keep _ _ aw ba;dsimp only [GW];refine ⟨_,rfl,_,rfl,_,rfl,d,sl,rl,2306,rs,O,rfl,k3.at_,by decide,bd,aw,be,af,aK,aL,nz,bb,bc,λol us H4 k4 b1 b2 b3 nu bf aM=>?_⟩;have b4:=Ne.symm (k3.at_.ne b1);have ai:∀{R:List Int}{z:Addr×List Int},Rds R->Sok R z.2->z.2.Pairwise (· < ·)/\z.2.length<=12/\∀x∈z.2,0<=x/\x<30:=λ{R z} hR h=>⟨h.1,by have:=h.len;have:=hR.2.2.2;lia,λx hx=>by have:=hR.2.1 x (h.2 x hx);lia⟩;have aj:∀z∈O,z.2.Pairwise (· < ·)/\z.2.length<=12/\∀x∈z.2,0<=x/\x<30:=λz L=>ai af (bb z L);have b6:∀s∈O.map (·.2),Sok rs s:=λs hs=>by
    obtain ⟨z,L,rfl⟩:=Yam.mp hs;exact bb z L
   dsimp only [GW];refine Gw (λσ' H'=>∃(ol:Addr)(us:List (Addr×List Int))(v6:Option V),σ'=[some (.ref a),some (.int (i:Int)),some (.ref d),some (.ref rl),some (.ref sl),some (.ref ol),v6,v7,v8,v9,aI,aJ]/\Same Hs H'/\H' sl=some (.lst (O.map λz=>V.ref z.1))/\Lz H' O/\H' ol=some (.lst (us.map λz=>V.ref z.1))/\Lz H' us/\(∀z∈us,z.2.Pairwise (· < ·)/\z.2.length<=12/\∀x∈z.2,0<=x/\x<30)/\us.length<=90/\Bd (O.map (·.2)) (us.map (·.2))) ?a1 ?d1
   case d1=>
    intro hk;refine ⟨_,rfl,d,2606,3,rfl,k4.at_,by decide,by decide,GX,λr H5 a5 b5 k5=>⟨rfl,_,rfl,O7 (λc1=>?_) (λc1=>?_)⟩⟩
    ·have bY:=k5.keep _ _ aw (k4.keep _ _ aw be);refine ⟨_,rfl,_,rfl,d,2607,rfl,k5.at_,by decide,λb7 ac H6 k6 cB b8 ak=>⟨b7,rfl,⟨_,SqL.of b8⟩,λD hD=>?_⟩⟩;have aP:=k6.keep _ _ aw bY;refine GL (K:=K) (a:=b7) (xs:=ac.map V.int) (λj ys H'=>Same H6 H'/\H' D=some (.lst ys)/\ys=((ac.take j).filter λx=>!decide (x∈rs)).map V.int) ⟨Same.new hD,Gb,rfl⟩ (by rintro j ys H' _ ⟨Z,_⟩;exact SqL.of (Z _ _ b8)) ?_ ?_
     ·rintro j y ys H8 ag ⟨Z,eD,rfl⟩;obtain ⟨x,rfl,hx⟩:=JR ag;have tk:ac.take (j+1)=ac.take j++[x]:=by rw [Ybu,hx];rfl
      have lf:=Ycl (λx=>!decide (x∈rs)) (ac.take j);rw [Yba] at lf;have:=ak.2.2.2;refine ⟨⟨rfl,trivial⟩,?_⟩;refine ⟨_,rfl,_,rfl,rl,_,rfl,.inl (SqL.of (Z _ _ aP)),rfl,WF _,_,rfl,?_⟩;rw [XS];refine O7 (λc2=>?_) (λc2=>?_)
      ·have c3:(!decide (x∈rs))=true:=c2;refine ⟨_,rfl,eD,(by rw [Yab];lia),Z.put hD,Gb,?_⟩;rw [tk,Ydh,Yak];simp [c3]
      ·have c3:(!decide (x∈rs))=false:=by simpa using c2
       refine ⟨Z,eD,?_⟩;rw [tk,Ydh];simp [c3]
     ·rintro ys H8 ⟨Z,eD,rfl⟩;rw [Yab,Ybn] at eD;have lf:=Ycl (λx=>!decide (x∈rs)) ac;have bZ:=ak.2.2.2;refine ⟨rl,D,_,_,rfl,rfl,Z _ _ aP,eD,(by rw [Yab,Yab];lia),λwl b9=>?_⟩;rw [<-Yak];obtain ⟨H9,q_,s9,e9⟩:=nwU (o:=.lst ((rs++ac.filter λx=>!decide (x∈rs)).map V.int)) b9;rw [q_];have nd:(rs++ac.filter λx=>!decide (x∈rs)).Nodup:=Ycd.mpr ⟨af.1.imp λz=>Int.ne_of_lt z,(ak.1.imp λz=>Int.ne_of_lt z).filter _,λx hx y hy e=>by
       have:=(Yby.mp hy).2;rw [<-e] at this;simp [hx] at this⟩
      have rg:∀x∈rs++ac.filter λx=>!decide (x∈rs),0<=x/\x<28:=λx hx=>(Yag.mp hx).elim (af.2.1 x) λh=>ak.2.1 x (Yby.mp h).1;have bA:rs++ac.filter (λx=>!decide (x∈rs))≠[]:=by simp [af.2.2.1]
      generalize rs++ac.filter (λx=>!decide (x∈rs))=wide at e9 nd rg bA;dsimp only [GW];refine ⟨_,rfl,_,rfl,_,rfl,wl,_,rfl,SqL.of e9,λcl bg=>?_⟩;have bB:Xi (wide.map V.int) none (some 12)=(wide.take 12).map V.int:=by
       rw [show (12:Int)=((12:Nat):Int) from rfl,ZbP,List.map_take]
      rw [bB];obtain ⟨cI,q_,bC,cc⟩:=nwU (o:=.lst ((wide.take 12).map V.int)) bg;rw [q_];refine ⟨cl,_,rfl,SqL.of cc,λql ms bD pm so=>?_⟩;obtain ⟨ce,q_,cf,cg⟩:=nwU (o:=.lst (ms.map V.int)) bD;rw [q_];have hR:Rds ms:=by
       refine ⟨XT so (pm.symm.nodup (nd.sublist (List.take_sublist _ _))),λx hx=>rg x (Yej (pm.mem_iff.mp hx)),λz=>?_,?_⟩
       ·rw [z] at pm;have:=pm.length_eq;rw [Yba,List.length_nil] at this;have:=List.length_pos_iff.mpr bA
        lia
       ·have:=pm.length_eq;rw [Yba] at this
        lia
      have bE:Pk H4 ce d 2613:=((k5.trans k6).grow Z).grow ((s9.trans bC).trans cf);have ch:=Ne.symm ((((k6.grow Z).grow (s9.trans bC)).at_).ne bD);refine ⟨d,ql,2613,ms,rfl,bE.at_,by decide,ch,cg,hR,λci cj ck cm cC eo lu cJ aQ cD bF=>?_⟩;have bh:Pk H3 ck d 2913:=(k4.trans bE).trans cm;dsimp only [GW];exact hk _ _ ⟨ci,cj,_,rfl,Zar aY s1 ((k2.trans k3).trans bh),bh.keep _ _ bd aK,λz L=>bh.keep _ _ (nz z L) (aL z L),eo,lu,λz L=>ai hR (aQ z L),by lia,Zds af hR b6 (λs hs=>by
       obtain ⟨z,L,rfl⟩:=Yam.mp hs;exact aQ z L) (by rw [Yab];exact bc) (by rw [Yab];exact bF)⟩
    ·have K5:Pk H3 H5 d 2607:=k4.trans k5;exact hk _ _ ⟨ol,us,_,rfl,Zar aY s1 ((k2.trans k3).trans K5),K5.keep _ _ bd aK,λz L=>K5.keep _ _ (nz z L) (aL z L),k5.keep _ _ b4 b2,λz L=>k5.keep _ _ (nu z L) (b3 z L),λz L=>ai af (bf z L),aM,Zdr af b6 (λs hs=>by
       obtain ⟨z,L,rfl⟩:=Yam.mp hs;exact bf z L) (by rw [Yab];exact bc) (by rw [Yab];exact aM)⟩
   clear aM bf nu b3 b2 b1 k4 us b4 ol;rintro σ' Hc ⟨ol,us,v6,rfl,sC,bG,bH,bI,bJ,aB,aM,B⟩;have cn:=bW.same sC;clear aL aK be k3 ba k2 aZ bz bx aY;refine ⟨_,rfl,sl,O,rfl,bG,bH,by lia,aj,λt1 l1 a0 xs ks Ha sa _ _ T1 S1 F1 aa h1 ab=>?_⟩;dsimp only [GW];refine ⟨_,rfl,ol,us,rfl,sa _ _ bI,λz L=>sa _ _ (bJ z L),by lia,aB,λt2 l2 b0 ys vs Hb sb _ _ T2 S2 F2 ax h2 ay=>?_⟩;have az:=sa.trans sb;have a2:=az _ _ bG;have aC:=az _ _ bI;have a3:Lz Hb O:=λz L=>az _ _ (bH z L);have aD:Lz Hb us:=λz L=>az _ _ (bJ z L);have co:=T1.same sb;have cp:=cn.same az;dsimp only [GW];refine ⟨_,rfl,sl,rfl,⟨_,SqL.of ((Same.refl Hb) _ _ a2)⟩,λD hD=>?_⟩;refine GL (K:=K) (a:=sl) (xs:=O.map λz=>V.ref z.1) (λj ys H'=>Same Hb H'/\H' D=some (.lst ys)/\ys=(OQ false (us.map (·.2)) (O.take j)).map λz=>V.ref z.1) ⟨Same.new hD,Gb,rfl⟩ (by rintro j ys H' _ ⟨Z,_⟩;exact SqL.of (Z _ _ ((Same.refl Hb) _ _ a2))) ?_ ?_
   ·rintro j y ys H8 ag ⟨Z,eD,rfl⟩;rw [Ybb] at ag;obtain ⟨z,L,rfl⟩:=Ybk.mp ag;have aE:=Yat L;have bK:j<O.length:=(Yaj.mp L).1;have aF:((OQ false (us.map (·.2)) (O.take j)).map λz=>V.ref z.1).length<sizeLine:=by
     have h1:(OQ false (us.map (·.2)) (O.take j)).length<=(O.take j).length:=Ycl _ _;rw [Yba] at h1;rw [Yab]
     lia
    have tk:OQ false (us.map (·.2)) (O.take (j+1))=OQ false (us.map (·.2)) (O.take j)++(if (false != decide (z.2∈(us.map (·.2))))=true then [z] else []):=UL L;refine ⟨⟨rfl,trivial⟩,?_⟩;refine ⟨_,rfl,_,rfl,ol,_,.list (z.2.map PyData.int),Ud (us.map (·.2)),rfl,.inl (SqL.of (Z _ _ ((Same.refl Hb) _ _ aC))),.lst (SqL.of (Z _ _ ((Same.refl Hb) _ _ (a3 z aE)))) (G3 _),UJ (λu hu=>Z _ _ ((Same.refl Hb) _ _ (aD u hu))),G6 _,VZ _,_,rfl,?_⟩;rw [Xc];refine O7 (λe=>?_) (λe=>?_)
    ·exact ⟨_,rfl,eD,aF,Z.put hD,Gb,by rw [tk,if_pos e,Yak];rfl⟩
    ·exact ⟨Z,eD,by rw [tk,if_neg e,Ybv]⟩
   rintro ys cK ⟨ad,eD,rfl⟩;rw [Yab,Ybn] at eD;have bi:=(Same.refl Hb).trans ad;have Y:∀z∈OQ false (us.map (·.2)) O,z∈O:=λz L=>(Yby.mp L).1;have aG:(OQ false (us.map (·.2)) O).length<=O.length:=Ycl _ _;refine ⟨D,OQ false (us.map (·.2)) O,rfl,eD,λz L=>bi _ _ (a3 z (Y z L)),by lia,λz L=>aj z (Y z L),λpp pl p0 px pk cq ae ph _ pT pS pF pA pB pM=>?_⟩;have a4:=bi.trans ae;have cL:=ad.trans ae;clear eD Y aG hD ad ae bi;dsimp only [GW];refine ⟨_,rfl,sl,rfl,⟨_,SqL.of (a4 _ _ a2)⟩,λD hD=>?_⟩;refine GL (K:=K) (a:=sl) (xs:=O.map λz=>V.ref z.1) (λj ys H'=>Same cq H'/\H' D=some (.lst ys)/\ys=(OQ true (us.map (·.2)) (O.take j)).map λz=>V.ref z.1) ⟨Same.new hD,Gb,rfl⟩ (by rintro j ys H' _ ⟨Z,_⟩;exact SqL.of (Z _ _ (a4 _ _ a2))) ?_ ?_
   ·rintro j y ys H8 ag ⟨Z,eD,rfl⟩;rw [Ybb] at ag;obtain ⟨z,L,rfl⟩:=Ybk.mp ag;have aE:=Yat L;have bK:j<O.length:=(Yaj.mp L).1;have aF:((OQ true (us.map (·.2)) (O.take j)).map λz=>V.ref z.1).length<sizeLine:=by
     have h1:(OQ true (us.map (·.2)) (O.take j)).length<=(O.take j).length:=Ycl _ _;rw [Yba] at h1;rw [Yab]
     lia
    have tk:OQ true (us.map (·.2)) (O.take (j+1))=OQ true (us.map (·.2)) (O.take j)++(if (true != decide (z.2∈(us.map (·.2))))=true then [z] else []):=UL L;refine ⟨⟨rfl,trivial⟩,?_⟩;refine ⟨_,rfl,_,rfl,ol,_,.list (z.2.map PyData.int),Ud (us.map (·.2)),rfl,.inl (SqL.of (Z _ _ (a4 _ _ aC))),.lst (SqL.of (Z _ _ (a4 _ _ (a3 z aE)))) (G3 _),UJ (λu hu=>Z _ _ (a4 _ _ (aD u hu))),G6 _,VZ _,_,rfl,?_⟩;rw [Xc];refine O7 (λe=>?_) (λe=>?_)
    ·exact ⟨_,rfl,eD,aF,Z.put hD,Gb,by rw [tk,if_pos e,Yak];rfl⟩
    ·exact ⟨Z,eD,by rw [tk,if_neg e,Ybv]⟩
   rintro ys cM ⟨ad,eD,rfl⟩;rw [Yab,Ybn] at eD;have bj:=a4.trans ad;have Y:∀z∈OQ true (us.map (·.2)) O,z∈O:=λz L=>(Yby.mp L).1;have aG:(OQ true (us.map (·.2)) O).length<=O.length:=Ycl _ _;refine ⟨D,OQ true (us.map (·.2)) O,rfl,eD,λz L=>bj _ _ (a3 z (Y z L)),by lia,λz L=>aj z (Y z L),λgp gl g0 gx gk cr ae gh _ gT gS gF gA gB gM=>?_⟩;have a6:=bj.trans ae;have cu:=ad.trans ae;clear eD Y aG hD ad ae bj;dsimp only [GW];refine ⟨_,rfl,ol,rfl,⟨_,SqL.of (a6 _ _ aC)⟩,λD hD=>?_⟩;refine GL (K:=K) (a:=ol) (xs:=us.map λz=>V.ref z.1) (λj ys H'=>Same cr H'/\H' D=some (.lst ys)/\ys=(OQ true (O.map (·.2)) (us.take j)).map λz=>V.ref z.1) ⟨Same.new hD,Gb,rfl⟩ (by rintro j ys H' _ ⟨Z,_⟩;exact SqL.of (Z _ _ (a6 _ _ aC))) ?_ ?_
   ·rintro j y ys H8 ag ⟨Z,eD,rfl⟩;rw [Ybb] at ag;obtain ⟨z,L,rfl⟩:=Ybk.mp ag;have aE:=Yat L;have bK:j<us.length:=(Yaj.mp L).1;have aF:((OQ true (O.map (·.2)) (us.take j)).map λz=>V.ref z.1).length<sizeLine:=by
     have h1:(OQ true (O.map (·.2)) (us.take j)).length<=(us.take j).length:=Ycl _ _;rw [Yba] at h1;rw [Yab]
     lia
    have tk:OQ true (O.map (·.2)) (us.take (j+1))=OQ true (O.map (·.2)) (us.take j)++(if (true != decide (z.2∈(O.map (·.2))))=true then [z] else []):=UL L;refine ⟨⟨rfl,trivial⟩,?_⟩;refine ⟨_,rfl,_,rfl,sl,_,.list (z.2.map PyData.int),Ud (O.map (·.2)),rfl,.inl (SqL.of (Z _ _ (a6 _ _ a2))),.lst (SqL.of (Z _ _ (a6 _ _ (aD z aE)))) (G3 _),UJ (λu hu=>Z _ _ (a6 _ _ (a3 u hu))),G6 _,VZ _,_,rfl,?_⟩;rw [Xc];refine O7 (λe=>?_) (λe=>?_)
    ·exact ⟨_,rfl,eD,aF,Z.put hD,Gb,by rw [tk,if_pos e,Yak];rfl⟩
    ·exact ⟨Z,eD,by rw [tk,if_neg e,Ybv]⟩
   rintro ys cN ⟨ad,eD,rfl⟩;rw [Yab,Ybn] at eD;have bl:=a6.trans ad;have Y:∀z∈OQ true (O.map (·.2)) us,z∈us:=λz L=>(Yby.mp L).1;have aG:(OQ true (O.map (·.2)) us).length<=us.length:=Ycl _ _;refine ⟨D,OQ true (O.map (·.2)) us,rfl,eD,λz L=>bl _ _ (aD z (Y z L)),by lia,λz L=>aB z (Y z L),λmp ml m0 mx mk Hz ae mh _ mT mS mF mA mB mM=>?_⟩;have sz:=bl.trans ae;have bL:=ad.trans ae;clear eD Y aG hD ad ae bl;dsimp only [GW];have ah:=co.same sz;have aN:=T2.same sz;have cv:=pT.same (cu.trans bL);have cw:=gT.same bL;have U:=cp.same sz;have J:=λw=>Zal S1 S2 aa ax (λs h=>(ab s).mp h) (λs h=>(ay s).mp h) B (Zaz w);have J':=λw=>Zal S2 S1 ax aa (λs h=>(ay s).mp h) (λs h=>(ab s).mp h) B.symm (Zaz w);have J1:=λw=>Zal S1 S1 aa aa (λs h=>(ab s).mp h) (λs h=>(ab s).mp h) B.self (Zaz w);obtain ⟨U0,j0,_⟩:=J 0;refine ⟨_,rfl,_,rfl,_,rfl,0,t1,t2,pp,l1,l2,pl,a0,b0,p0,xs,ys,px,ks,vs,pk,U0,rfl,.inl rfl,ah,aN,cv,j0,pB,av,U,Oh S1 S2 aa ax ab ay pS pF pA (λs=>by
    rw [pM,Xd];show _↔(decide _ && decide _)=true;simp),λHg sg cx=>⟨_,rfl,Oj ?_⟩⟩
   have cy:=sg.at_ U (sz _ _ aC) λ_ z=>(by cases z);have cz:=sg.at_ U (sz _ _ a2) λ_ z=>(by cases z);refine ⟨_,rfl,_,rfl,_,rfl,_,rfl,sl,ol,_,_,rfl,rfl,cz,cy,by rw [Yab,Yab];lia,λcl bg=>?_⟩;rw [<-Yak];obtain ⟨Hh,q_,sh,eh⟩:=nwU (o:=.lst ((O++us).map λz=>V.ref z.1)) bg;rw [q_];refine ⟨cl,O++us,rfl,eh,λz L=>?_,by rw [Yae];lia,λz L=>(Yag.mp L).elim (aj z) (aB z),λep el e0 ex ek Hi si _ _ eT eS eF eA eB eM=>?_⟩
   ·rcases Yag.mp L with h | h
    ·exact sh _ _ (sg.at_ U (sz _ _ (a3 z h)) λ_ z=>(by cases z))
    ·exact sh _ _ (sg.at_ U (sz _ _ (aD z h)) λ_ z=>(by cases z))
   have gi:SameL2 tbL tbJ Hz Hi:=sg.trans (SameL2.of (sh.trans si));have c4:=cx.same (sh.trans si);obtain ⟨U1,j1,_⟩:=J 1;refine ⟨1,t1,t2,ep,l1,l2,el,a0,b0,e0,xs,ys,ex,ks,vs,ek,U1,rfl,.inr (.inl rfl),gi.tab U ah,gi.tab U aN,eT,j1,eB,av,c4,Oh S1 S2 aa ax ab ay eS eF eA (λs=>by
    rw [eM,Yak,Yag];show _↔(decide _ || decide _)=true;simp),λHj sj c5=>⟨_,rfl,Oj ?_⟩⟩
   dsimp only [JZ];have gj:=gi.trans sj;obtain ⟨U2,j2,_⟩:=J 2;refine ⟨_,rfl,_,rfl,_,rfl,2,t1,t2,gp,l1,l2,gl,a0,b0,g0,xs,ys,gx,ks,vs,gk,U2,rfl,.inr (.inr rfl),gj.tab U ah,gj.tab U aN,gj.tab U cw,j2,gB,av,c5,Oh S1 S2 aa ax ab ay gS gF gA (λs=>by
    rw [gM,Xd];show _↔(decide _ && !decide _)=true;simp),λHl c6 tbl=>⟨_,rfl,Oj ?_⟩⟩
   have aO:=gj.trans c6;obtain ⟨U3,j3,_⟩:=J' 2;refine ⟨_,rfl,_,rfl,_,rfl,2,t2,t1,mp,l2,l1,ml,b0,a0,m0,ys,xs,mx,vs,ks,mk,U3,rfl,.inr (.inr rfl),aO.tab U aN,aO.tab U ah,aO.tab U mT,j3,mB,av,tbl,Oh S2 S1 ax aa ay ab mS mF mA (λs=>by
    rw [mM,Xd];show _↔(decide _ && !decide _)=true;simp),λHm sm c7=>⟨_,rfl,Oj ?_⟩⟩
   dsimp only [JZ];have gm:=aO.trans sm;obtain ⟨U4,j4,_⟩:=J1 0;refine ⟨_,rfl,_,rfl,_,rfl,0,t1,t1,t1,l1,l1,l1,a0,a0,a0,xs,xs,xs,ks,ks,ks,U4,rfl,.inl rfl,gm.tab U ah,gm.tab U ah,gm.tab U ah,j4,h1,av,c7,Oh S1 S1 aa aa ab ab S1 F1 aa (λs=>by
    rw [ab];show _↔(decide _ && decide _)=true;simp),λHn sn c8=>⟨_,rfl,Oj ?_⟩⟩
   have gn:=gm.trans sn;obtain ⟨U5,j5,_⟩:=J1 2;refine ⟨_,rfl,_,rfl,Yao _,λnl bM=>⟨JB,λnt bO=>?_⟩⟩;have so:Same Hn (upd (upd Hn nl (.lst [])) nt (.tup [.int 0,.ref nl])):=(Same.new bM).put ((Same.new bM).free bO);have To:TabAt (upd (upd Hn nl (.lst [])) nt (.tup [.int 0,.ref nl])) nt nl 0 [] []:=⟨Gb,Gi Gb (Gf Gb bO),.nil⟩;generalize upd (upd Hn nl (.lst [])) nt (.tup [.int 0,.ref nl])=Ho at so To ⊢;have go:=gn.trans (SameL2.of so);have bQ:At [] 0 (-1):=.inl rfl;refine ⟨2,t1,t1,nt,l1,l1,nl,a0,a0,0,xs,xs,[],ks,ks,[],U5,rfl,.inr (.inr rfl),go.tab U ah,go.tab U ah,To,j5,by decide,av,c8.same so,Oh S1 S1 aa aa ab ab ShOk.nil (X0 bQ) bQ (λs=>⟨λh=>absurd h Has.zero,λh=>by
    have h:(decide (s∈O.map (·.2)) && !decide (s∈O.map (·.2)))=true:=h;simp at h⟩),λcO sp c9=>⟨_,rfl,Oj ?_⟩⟩
   dsimp only [JZ];exact ⟨_,_,_,_,_,_,_,_,_,_,_,rfl,bw.trans ((SameL2.of (sC.trans (az.trans sz))).trans (go.trans sp)),c9⟩
  ·rintro σ H' ⟨v1,v2,v3,v4,v5,v6,v7,v8,v9,aI,aJ,rfl,_,_⟩;exact q _
end
end M
section
open PySem PySem.W PyProof.Rows
noncomputable def M.rowP:Program:=PySem.Challenge.rw_onceways_k46_tables_joined.prog
noncomputable def M.seenP:Program:={ M.rowP with main:={ M.rowP.main with body:=[1,2,4,5,6,7,8,9,10,12,13,14,15,16,17,18,19,21,22,23,24,25,26,27,28,29,30,31,32,33].filterMap (λi=>M.rowP.main.body[i]?) } }
noncomputable def M.loosely:List Str:=[]
noncomputable def M.hookX (s:Shared):Bool:=xlAt M.seenP [] s && recOk (RowW.records (OpenRow.toRowW PySem.Challenge.rw_onceways_k46_tables_joined.row)) s
noncomputable def M.atBoot (w:World)(j:OsState):Shared:=⟨boot_heap w.params,Array.mk [],boot_drawn,boot_toks,j⟩
noncomputable def M.topOf (p:Program)(N:Nat)(w:World)(j:OsState):Option Shared:=topRun treeTable p w (M.atBoot w j).heap.objs.size ((M.atBoot w j).heap.nsMap mainGlobals "__annotations__") N (M.atBoot w j) (topStub p)
theorem M.top_run {p:Program}{N:Nat}{w:World}{j:OsState}{s:Shared}(h:topFrom treeTable p w N (M.atBoot w j)=some s):M.topOf p N w j=some s:=by
 unfold topFrom at h;split at h
 ·obtain ⟨B,h1,h2⟩:=Option.bind_eq_some_iff.mp h;split at h2
  ·cases h2;exact h1
  ·cases h2
 ·cases h
theorem M.left_boot {p q:Program}{j:List Str}{B:Shared->Bool}{α:Type}{D:Shared->α}{L:World->α}{N:Nat}(e:opening p=plainProg p.main.scope.names)(U:Nat.ble 600 N=true)(f:∀s,fenceModules? p s=some s)(Y:∀(w:World)(os:OsState),(topFrom treeTable p w N (M.atBoot w os)).isSome=true)(ha:∀(w:World)(os:OsState),(M.topOf p N w os).map (openSeen q j (importedModules p.main.body) B true)=some (openGood q j))(Z:∀(w:World)(os:OsState),(M.topOf p N w os).map D=some (L w)) :
  LeftO p q j B D L N:=λw=>by
 obtain ⟨⟨a,b,c,d,os⟩,e1,e2⟩:=Ybk.mp (boot_open e U f w);obtain ⟨rfl,rfl,rfl,rfl⟩:a=boot_heap w.params/\b=Array.mk []/\c=boot_drawn/\d=boot_toks:=by simpa using e2
 obtain ⟨s,O⟩:=Option.isSome_iff_exists.mp (Y w os);have h1:=ha w os;have h2:=Z w os;rw [M.top_run O] at h1 h2;unfold openEnds;rw [e1];show (topFrom treeTable p w N (M.atBoot w os)).map _=_;rw [O];simp only [Option.map_some,Option.some.injEq] at h1 h2 ⊢;rw [h1,h2]
set_option maxHeartbeats 0 in
theorem M.topA (w:World)(j:OsState):(M.topOf M.rowP 3068 w j).map (openSeen M.seenP M.loosely (importedModules M.rowP.main.body) M.hookX true)=some (openGood M.seenP M.loosely):=by
 unfold M.topOf;rw [W.Fast.te14082659384304107361,W.Fast.te14364793385576792824,W.Fast.te4187177175401517315];kernel_rfl
set_option maxHeartbeats 0 in
theorem M.topC (w:World)(j:OsState):(topFrom treeTable M.rowP w 3068 (M.atBoot w j)).isSome=true:=by
 unfold topFrom;rw [W.Fast.te14082659384304107361,W.Fast.te14364793385576792824];kernel_rfl
end
namespace M
open PySem L2
theorem Zdw {P:Program}{w:World}{H:Hp}{b:Addr}{k j:List Int}(h:(gkI P w).At H b k)(h':(gkI P w).At H b j):k=j:=by
 have h:H b=some (.tup (k.map V.int)):=h;have h':H b=some (.tup (j.map V.int)):=h';rw [h] at h';have e:=Ybh (List.map λx:V=>match x with | .int i=>i | _=>0) (HO.tup.inj (Ybo h'))
 rwa [Ycw,Ycw,show ((λx:V=>match x with | .int i=>i | _=>0)∘V.int)=id from rfl,List.map_id,List.map_id] at e
structure DefIs (K:W.Frag)(x:Str)(st:Stmt)(f:Addr)(cd:Value):Prop where
 a:W.nsIn K mainGlobals x=some (some (.ref f))
 l:∃(oc:Value)(od:Option Addr)(kV dc pm:Value)(an:Option Addr)(ct:Value)(sl:Array (Option Value)),K.lookup f=some ⟨oc,od,.func (W.fnOf x x (Ja st) (GM st) (Gh st) .none kV dc pm an cd ct),sl⟩
 c:W.codeIn K cd x=true
 k:W.keepIn K (.ref f)=true
theorem DefIs.fn {K:W.Frag}{x:Str}{st:Stmt}{f:Addr}{cd:Value}(d:DefIs K x st f cd):∃fd,Fun K x x st f fd/\fd.code=cd:=by
 obtain ⟨_,_,_,_,_,_,_,_,j⟩:=d.l;exact ⟨_,Ze (st:=st) j d.c d.k,rfl⟩
theorem all_mk {l:W.OpenLaw}{w:World}{K:W.Frag}{h:Heap}{mg:Str->Option Value}{fa f1 f2 f3 f4 f5 f6 f7 f8 f9 f10 f11 f12 f13 f14 f15 f16 f17 f18 f19 f20 f21 f22 f23 f24 f25 fL no C fI fU dT cD tD cS tS:Addr}{ocI kVI dcI pmI cdI ctI ocU kVU dcU pmU cdU ctU dtc ocL kVL dcL pmL cdL ctL g1 g3 g4 g5 g6 g8 g9 g10 g11 g12 g13 g14 g15 g16 g17 g18 g19 g20 g21 g22 g23 g24 g25:Value}{odI anI odU anU dtd odL anL:Option Addr}{slI slU dts slL:Array (Option Value)}{dtn:Nat}{tN:Tok}{occD:Value}{odcD:Option Addr}{vsD:Array Value}{slcD:Array (Option Value)}{occS:Value}{odcS:Option Addr}{vsS:Array Value}{slcS:Array (Option Value)}(X:K.In h)(G:h.Ns mainGlobals mg)(hfa:mg "law" = some (.ref fa))(d1:DefIs K "parts_below" Zet f1 g1)(d2:DefIs K "laid_down" ZdD f2 (.ref cD))(d3:DefIs K "found_from" Zeu f3 g3)(d4:DefIs K "numbered" Zev f4 g4)(d5:DefIs K "least_table" Zew f5 g5)(d6:DefIs K "parts_by" Zex f6 g6)(d7:DefIs K "joined_by" Zey f7 (.ref cS))(d8:DefIs K "in_both" sIB f8 g8)(d9:DefIs K "in_either" sIE f9 g9)(d10:DefIs K "in_first_alone" sIF f10 g10)(d11:DefIs K "both_of" sBo f11 g11)(d12:DefIs K "either_of" sEo f12 g12)(d13:DefIs K "first_without" sFw f13 g13)(d14:DefIs K "_law_pool" ZfA f14 g14)(d15:DefIs K "_law_take" Zbo f15 g15)(d16:DefIs K "_law_roads" ZfB f16 g16)(d17:DefIs K "_law_set" Zez f17 g17)(d18:DefIs K "_law_turned" ZeA f18 g18)(d19:DefIs K "_law_once" ZdE f19 g19)(d20:DefIs K "_law_family" ZfC f20 g20)(d21:DefIs K "_law_near" ZfD f21 g21)(d22:DefIs K "_law_table" ZeB f22 g22)(d23:DefIs K "_law_copied" ZfE f23 g23)(d24:DefIs K "_law_just" ZfF f24 g24)(d25:DefIs K "_law_right" ZfG f25 g25)(aL:W.nsIn K mainGlobals "law" = some (some (.ref fL)))(lL:K.lookup fL=some ⟨ocL,odL,.func (W.fnOf "law" "law" (Ja Zav) (GM Zav) (Gh Zav) .none kVL dcL pmL anL cdL ctL),slL⟩)(cL:W.codeIn K cdL "law" = true)(kL:W.keepIn K (.ref fL)=true)(gno:W.nsIn K mainGlobals "TooMany" = some (some (.ref no)))(xex:ExcC K no)(kit:W.kitOne K (.type "int") (.type "tuple")=some false)(kit2:W.kitOne K (.type "tuple") (.type "int")=some false)(kib:W.kitOne K (.type "int") (.type "bool")=some false)(gMN:W.nsIn K mainGlobals "MOST_NODES" = some (some (.int 800 tN)))(aC:W.nsIn K mainGlobals "Shelf" = some (some (.ref C)))(aI:W.findIn K (.ref C) "__init__" = some (some (.ref fI)))(iI:W.isFn K (.ref fI)=true)(lI:K.lookup fI=some ⟨ocI,odI,.func (W.fnOf "__init__" "Shelf.__init__" (Ja Zbp) (GM Zbp) (Gh Zbp) (.ref dT) kVI dcI pmI anI cdI ctI),slI⟩)(cI:W.codeIn K cdI "Shelf.__init__" = true)(kI:W.keepIn K (.ref fI)=true)(aU:W.findIn K (.ref C) "put" = some (some (.ref fU)))(iU:W.isFn K (.ref fU)=true)(lU:K.lookup fU=some ⟨ocU,odU,.func (W.fnOf "put" "Shelf.put" (Ja Zc5) (GM Zc5) (Gh Zc5) .none kVU dcU pmU anU cdU ctU),slU⟩)(cU:W.codeIn K cdU "Shelf.put" = true)(kU:W.keepIn K (.ref fU)=true)(dTl:K.lookup dT=some ⟨dtc,dtd,.seq #[.none] dtn,dts⟩)(pg:W.plainGet K C Str.empty=true)(hd:W.hasDictIn K C=true)(po:W.plainOver K C=true)(sa:W.findIn K (.ref C) "__setattr__" = some (some (.builtin "object.__setattr__")))(mk:W.makesIn K C=true)(kc:W.keepIn K (.ref C)=true)(nM:W.findIn K (.ref C) "most" = some none)(nN:W.findIn K (.ref C) "nodes" = some none)(nP:W.findIn K (.ref C) "places" = some none)(lcD:K.lookup cD=some ⟨occD,odcD,.fields vsD,slcD⟩)(v11D:(vsD[11]?:Option Value)=some (.ref tD))(nTabD:K.lookup tD=none)(lcS:K.lookup cS=some ⟨occS,odcS,.fields vsS,slcS⟩)(v11S:(vsS[11]?:Option Value)=some (.ref tS))(nTabS:K.lookup tS=none)(n12:tD≠tS)(nrange:W.nsIn K mainGlobals "range" = some none)(nlist:W.nsIn K mainGlobals "list" = some none)(nlen:W.nsIn K mainGlobals "len" = some none)(nint:W.nsIn K mainGlobals "int" = some none)(nmin:W.nsIn K mainGlobals "min" = some none)(nmax:W.nsIn K mainGlobals "max" = some none)(nsorted:W.nsIn K mainGlobals "sorted" = some none)(nbool:W.nsIn K mainGlobals "bool" = some none)(ntuple:W.nsIn K mainGlobals "tuple" = some none)(nisinstance:W.nsIn K mainGlobals "isinstance" = some none)(nenumerate:W.nsIn K mainGlobals "enumerate" = some none)
  : ∃(fd:FuncData)(c P c2 P2:Addr),W.tabIn K "laid_down" = some (c,P)/\K.lookup P=none/\W.tabIn K "joined_by" = some (c2,P2)/\K.lookup P2=none/\P≠P2/\(∀(s:Shared)(v:Value),BindsTo s fd ⟨[v],[]⟩ [("script", v)])/\∀base:Heap,K.In base->base.Ns mainGlobals mg->W.CodeHd base c P->base.BuiltinsAt mg P->W.CodeHd base c2 P2->base.BuiltinsAt mg P2->FnOk l.prog w K mg base CX0 9 fa fd ["script"] (ZbH K P P2):=by
 have e:=hfa.symm.trans (Ybc X G aL);cases e;obtain ⟨_,FPb,_⟩:=d1.fn;have bPb:=FPb.binds (ps:=["start", "parts"]) λ_ _ _ _ _ _ us hl=>by obtain ⟨_,_,rfl⟩:=WN hl;rfl
 have mPb:=Ybc X G d1.a;obtain ⟨_,FLd,cLd⟩:=d2.fn;have bLd:=FLd.binds (ps:=["start", "parts", "shelf"]) λ_ _ _ _ _ _ us hl=>by obtain ⟨_,_,_,rfl⟩:=Zdz hl;rfl
 have mLd:=Ybc X G d2.a;obtain ⟨_,FF,_⟩:=d3.fn;have bF:=FF.binds (ps:=["root", "nodes"]) λ_ _ _ _ _ _ us hl=>by obtain ⟨_,_,rfl⟩:=WN hl;rfl
 have mF:=Ybc X G d3.a;obtain ⟨_,FNu,_⟩:=d4.fn;have bNu:=FNu.binds (ps:=["root", "nodes"]) λ_ _ _ _ _ _ us hl=>by obtain ⟨_,_,rfl⟩:=WN hl;rfl
 have mNu:=Ybc X G d4.a;obtain ⟨_,FLt,_⟩:=d5.fn;have bLt:=FLt.binds (ps:=["start", "parts", "most"]) λ_ _ _ _ _ _ us hl=>by obtain ⟨_,_,_,rfl⟩:=Zdz hl;rfl
 have mLt:=Ybc X G d5.a;obtain ⟨_,FPy,_⟩:=d6.fn;have bPy:=FPy.binds (ps:=["nodes", "number", "road"]) λ_ _ _ _ _ _ us hl=>by obtain ⟨_,_,_,rfl⟩:=Zdz hl;rfl
 have mPy:=Ybc X G d6.a;obtain ⟨_,FJo,cJo⟩:=d7.fn;have bJo:=FJo.binds (ps:=["one", "other", "rule", "most"]) λ_ _ _ _ _ _ us hl=>by obtain ⟨_,_,_,_,rfl⟩:=Zft hl;rfl
 have mJo:=Ybc X G d7.a;obtain ⟨_,FIB,_⟩:=d8.fn;have bIB:=FIB.binds (ps:=["first", "second"]) λ_ _ _ _ _ _ us hl=>by obtain ⟨_,_,rfl⟩:=WN hl;rfl
 have mIB:=Ybc X G d8.a;obtain ⟨_,FIE,_⟩:=d9.fn;have bIE:=FIE.binds (ps:=["first", "second"]) λ_ _ _ _ _ _ us hl=>by obtain ⟨_,_,rfl⟩:=WN hl;rfl
 have mIE:=Ybc X G d9.a;obtain ⟨_,FIF,_⟩:=d10.fn;have bIF:=FIF.binds (ps:=["first", "second"]) λ_ _ _ _ _ _ us hl=>by obtain ⟨_,_,rfl⟩:=WN hl;rfl
 have mIF:=Ybc X G d10.a;obtain ⟨_,FBo,_⟩:=d11.fn;have bBo:=FBo.binds (ps:=["one", "other"]) λ_ _ _ _ _ _ us hl=>by obtain ⟨_,_,rfl⟩:=WN hl;rfl
 have mBo:=Ybc X G d11.a;obtain ⟨_,FEo,_⟩:=d12.fn;have bEo:=FEo.binds (ps:=["one", "other"]) λ_ _ _ _ _ _ us hl=>by obtain ⟨_,_,rfl⟩:=WN hl;rfl
 have mEo:=Ybc X G d12.a;obtain ⟨_,FFw,_⟩:=d13.fn;have bFw:=FFw.binds (ps:=["one", "other"]) λ_ _ _ _ _ _ us hl=>by obtain ⟨_,_,rfl⟩:=WN hl;rfl
 have mFw:=Ybc X G d13.a;obtain ⟨_,FPo,_⟩:=d14.fn;have bPo:=FPo.binds (ps:=["script", "k"]) λ_ _ _ _ _ _ us hl=>by obtain ⟨_,_,rfl⟩:=WN hl;rfl
 have mPo:=Ybc X G d14.a;obtain ⟨_,FTk,_⟩:=d15.fn;have bTk:=FTk.binds (ps:=["pool", "many"]) λ_ _ _ _ _ _ us hl=>by obtain ⟨_,_,rfl⟩:=WN hl;rfl
 have mTk:=Ybc X G d15.a;obtain ⟨_,FRo,_⟩:=d16.fn;have bRo:=FRo.binds (ps:=["pool"]) λ_ _ _ _ _ _ us hl=>by obtain ⟨_,rfl⟩:=Zdy hl;rfl
 have mRo:=Ybc X G d16.a;obtain ⟨_,FSt,_⟩:=d17.fn;have bSt:=FSt.binds (ps:=["pool", "roads"]) λ_ _ _ _ _ _ us hl=>by obtain ⟨_,_,rfl⟩:=WN hl;rfl
 have mSt:=Ybc X G d17.a;obtain ⟨_,FTu,_⟩:=d18.fn;have bTu:=FTu.binds (ps:=["pool", "one", "roads"]) λ_ _ _ _ _ _ us hl=>by obtain ⟨_,_,_,rfl⟩:=Zdz hl;rfl
 have mTu:=Ybc X G d18.a;obtain ⟨_,FOc,_⟩:=d19.fn;have bOc:=FOc.binds (ps:=["sets"]) λ_ _ _ _ _ _ us hl=>by obtain ⟨_,rfl⟩:=Zdy hl;rfl
 have mOc:=Ybc X G d19.a;obtain ⟨_,FFa,_⟩:=d20.fn;have bFa:=FFa.binds (ps:=["pool", "roads"]) λ_ _ _ _ _ _ us hl=>by obtain ⟨_,_,rfl⟩:=WN hl;rfl
 have mFa:=Ybc X G d20.a;obtain ⟨_,FNe,_⟩:=d21.fn;have bNe:=FNe.binds (ps:=["pool", "sets", "roads"]) λ_ _ _ _ _ _ us hl=>by obtain ⟨_,_,_,rfl⟩:=Zdz hl;rfl
 have mNe:=Ybc X G d21.a;obtain ⟨_,FTb,_⟩:=d22.fn;have bTb:=FTb.binds (ps:=["sets"]) λ_ _ _ _ _ _ us hl=>by obtain ⟨_,rfl⟩:=Zdy hl;rfl
 have mTb:=Ybc X G d22.a;obtain ⟨_,FCp,_⟩:=d23.fn;have bCp:=FCp.binds (ps:=["table"]) λ_ _ _ _ _ _ us hl=>by obtain ⟨_,rfl⟩:=Zdy hl;rfl
 have mCp:=Ybc X G d23.a;obtain ⟨_,FJu,_⟩:=d24.fn;have bJu:=FJu.binds (ps:=["found", "due"]) λ_ _ _ _ _ _ us hl=>by obtain ⟨_,_,rfl⟩:=WN hl;rfl
 have mJu:=Ybc X G d24.a;obtain ⟨_,FRg,_⟩:=d25.fn;have bRg:=FRg.binds (ps:=["way", "one", "other", "due"]) λ_ _ _ _ _ _ us hl=>by obtain ⟨_,_,_,_,rfl⟩:=Zft hl;rfl
 have mRg:=Ybc X G d25.a;have FL:=Ze (st:=Zav) lL cL kL;have tTabD:W.tabIn K "laid_down" = some (cD,tD):=by
  obtain ⟨_,_,_,_,_,_,_,_,hl⟩:=d2.l;unfold W.tabIn;simp only [d2.a,hl,W.fnOf,lcD,v11D]
 have tTabS:W.tabIn K "joined_by" = some (cS,tS):=by
  obtain ⟨_,_,_,_,_,_,_,_,hl⟩:=d7.l;unfold W.tabIn;simp only [d7.a,hl,W.fnOf,lcS,v11S]
 refine ⟨W.fnOf "law" "law" (Ja Zav) (GM Zav) (Gh Zav) .none kVL dcL pmL anL cdL ctL,cD,tD,cS,tS,tTabD,nTabD,tTabS,nTabS,n12,λs v=>.of_eq rfl,λbase _ _ hCD hBlD hCS hBlS=>?_⟩;have TS:ZeC K mg C no:=⟨⟨pg,hd,po,sa⟩,nM,nN,nP,(Ybc X G aC)⟩;have FI:=ZcH (st:=Zbp) lI cI kI;have bI:Binds K _ ["self", "most"] []:=λs us X' hl=>match us,hl with | [_,_],_=>W.binds_K (fd:=W.fnOf "__init__" "Shelf.__init__" (Ja Zbp) (GM Zbp) (Gh Zbp) (.ref dT) kVI dcI pmI anI cdI ctI) X' rfl dTl rfl rfl rfl
 have FU:=Ze (st:=Zc5) lU cU kU;have bU:=FU.binds (ps:=["self", "road", "low", "high"]) λ_ _ _ _ _ _ us hl=>by obtain ⟨_,_,_,_,rfl⟩:=Zft hl;rfl
 have GI:=ZeE (P:=l.prog) (w:=w) (base:=base) FI TS;have GU:=ZeG (P:=l.prog) (w:=w) (base:=base) FU TS (Ybc X G gno) xex (Yav X G nlen);have GF:=ZeN (mg:=mg) (P:=l.prog) (w:=w) (base:=base) FF;have GNu:=ZeP (P:=l.prog) (w:=w) (base:=base) FNu FF bF mF GF (Yav X G nenumerate);have GLt:FnOk l.prog w K mg base (CXr l.prog w) 5 _ _ ["start", "parts", "most"] (ZeX l.prog w K mg base 2 no tD):=FnOk.all (C:=CLt l.prog w K mg base 2) (sp:=λi=>Zc9 (gkI l.prog w) i.pf i.Dom i.HF i.f no tD) λi ci=>ZeQ (P:=l.prog) (w:=w) (base:=base) FLt ci.st TS ⟨mk,aI,iI,kc⟩ bI GI FLd bLd mLd (ZeL (P:=l.prog) (w:=w) (base:=base) FLd cLd hCD hBlD FPb bPb mPb (ZeI (P:=l.prog) (w:=w) (base:=base) FPb ci.st ci.fin ci.bi ci.ok ci.dom kit (Yav X G nisinstance) (Yav X G ntuple)) Zdw TS ⟨aU,iU,kU⟩ bU GU kit kit2 (Yav X G nisinstance) (Yav X G ntuple) (Yav X G nint) (Yav X G nsorted)) FNu bNu mNu GNu;have GJo:=Ze0 (P:=l.prog) (w:=w) (base:=base) FJo cJo hCS hBlS FLt bLt mLt GLt FPy bPy mPy (Yav X G nmin);have GBo:=Zgt (P:=l.prog) (w:=w) (base:=base) (Ybc X G gMN) FJo bJo mJo GJo FBo FIB bIB mIB;have GEo:=Zgu (P:=l.prog) (w:=w) (base:=base) (Ybc X G gMN) FJo bJo mJo GJo FEo FIE bIE mIE;have GFw:=Zgv (P:=l.prog) (w:=w) (base:=base) (Ybc X G gMN) FJo bJo mJo GJo FFw FIF bIF mIF;have GPo:=Ze4 (P:=l.prog) (w:=w) (base:=base) FPo (Yav X G nlen);have GTk:=Vj (mg:=mg) (P:=l.prog) (w:=w) (base:=base) FTk;have GRo:=Ze7 (P:=l.prog) (w:=w) (base:=base) FRo FTk bTk mTk (Yav X G nrange);have GFa:=Ze9 (P:=l.prog) (w:=w) (base:=base) FFa FTk bTk mTk FSt bSt mSt FTu bTu mTu FOc bOc mOc (Yav X G nrange) (Yav X G nlen) (Yav X G nint) (Yav X G nsorted);have GNe:=Zfn (P:=l.prog) (w:=w) (base:=base) FNe FTk bTk mTk FSt bSt mSt FTu bTu mTu FOc bOc mOc (Yav X G nrange) (Yav X G nlen) (Yav X G nint) (Yav X G nsorted);have GTb:=Zfh (P:=l.prog) (w:=w) (base:=base) FTb FOc bOc mOc (Yav X G nlen) (Yav X G nmin) (Yav X G ntuple) (Yav X G nsorted);have GCp:=Zfj (P:=l.prog) (w:=w) (base:=base) FCp (Yav X G nlist);have GJu:=Zfl (P:=l.prog) (w:=w) (base:=base) FJu kib (Yav X G nisinstance) (Yav X G nlist) (Yav X G ntuple) (Yav X G nint) (Yav X G nbool);have GRg:=Zfp (P:=l.prog) (w:=w) (base:=base) FRg FCp bCp mCp GCp FJu bJu mJu GJu FBo bBo mBo GBo FEo bEo mEo GEo FFw bFw mFw GFw (Yav X G nrange) (Yav X G nlen);exact Zfq FL FPo bPo mPo GPo FRo bRo mRo GRo FFa bFa mFa GFa FNe bNe mNe GNe FTb bTb mTb GTb FTk bTk mTk GTk FRg bRg mRg GRg (Yav X G nrange) (Yav X G nlen) (Yav X G nmax) (Yav X G nmin) (Yav X G nsorted)
theorem walk {l:W.OpenLaw}{q:Program}{j:List Str}{Y:(Str->Option Value)->Heap->Prop}{U:World->Heap->Prop}{d dd Z:DefRec}{K:Params->W.Frag}(hn:l.most=some 63)(L:d.params.defaults=[])(hY:∀(w:World)(h:Heap),U w h->(K w.params).In h)(D:(PyProof.Rows.recsOf q).find? (λe=>e.name == Str.ofString "laid_down")=some dd)(B:(PyProof.Rows.recsOf q).find? (λe=>e.name == Str.ofString "joined_by")=some Z)(F:∀(w:World)(mg:Str->Option Value)(fa:Addr)(h:Heap),(K w.params).In h->h.Ns mainGlobals mg->mg d.name=some (.ref fa)->∃(fd:FuncData)(c P c2 P2:Addr),W.tabIn (K w.params) "laid_down" = some (c,P)/\(K w.params).lookup P=none/\W.tabIn (K w.params) "joined_by" = some (c2,P2)/\(K w.params).lookup P2=none/\P≠P2/\(∀(s:Shared)(v:Value),BindsTo s fd ⟨[v],[]⟩ [("script", v)])/\∀base:Heap,(K w.params).In base->base.Ns mainGlobals mg->W.CodeHd base c P->base.BuiltinsAt mg P->W.CodeHd base c2 P2->base.BuiltinsAt mg P2->FnOk l.prog w (K w.params) mg base CX0 9 fa fd ["script"] (ZbH (K w.params) P P2)) :
  W.WalkO q j Y U l.row.toRowW d [] (λf vs=>PySem.call f vs):=
 L2.walk_of2 (n:=63) (k:=9) (x := "script") (tn:=Str.ofString "laid_down") (tm:=Str.ofString "joined_by") (CX:=λ_=>CX0) (sp:=λw P P2=>ZbH (K w.params) P P2) hn (by decide) L ⟨rfl,by decide,by decide⟩ hY D B F (λ_ P P2 _ a ns hl h1 h2 O hS=>⟨a,ns,rfl,hS,hl,O,h1,h2,λ_=>rfl⟩) λ_ _ _ _ _ z=>z
end M
open PySem PySem.W PyProof.Rows
local macro_rules
 | `(tactic| o_head $H)=>`(tactic| (
  refine @holds_open _ M.seenP M.loosely M.hookX (XL M.seenP []) _ (Hook.obs $H) (Hook.val $H) (Hook.says $H) _ _ 3068
   (@M.left_boot M.rowP M.seenP M.loosely M.hookX _ (Hook.obs $H) (Hook.val $H) 3068 ?b1 ?b2 ?b3 M.topC M.topA ?hl)
   (Hook.of $H) (Hook.keeps $H) ?h1 XL.keeps (by rfl) (by rfl) (by rfl) ?h5 ?h6 ?h7 ?h8 ?h9 ?hw ?hc
  (case h1=>exact λs e=>xl_of s (Bool.and_eq_true_iff.mp e).1)
  (case h5=>exact λs e=>recFacts_of (Bool.and_eq_true_iff.mp e).2)
  (case h6=>rfl)
  (case h7=>first | assumption | decide +kernel)
  (case h8=>decide +kernel)
  (case h9=>exact ⟨rfl,rfl,rfl,rfl,rfl,by decide +kernel⟩)
  (case b1=>kernel_rfl)
  (case b2=>decide)
  (case b3=>(intro s;kernel_rfl))
  (case hl=>(intro w os;unfold M.topOf;rw [W.Fast.te14082659384304107361,W.Fast.te14364793385576792824];kernel_rfl))))
set_option maxRecDepth 100000 in
set_option maxHeartbeats 0 in
theorem PySem.Challenge.cw_onceways_k46_tables_joined_holds : PySem.Challenge.rw_onceways_k46_tables_joined.Holds := by
 w_on;o_law;k_head;(case hw=>w_witness2)
 k_fill
 refine M.walk (l:=PySem.Challenge.rw_onceways_k46_tables_joined) rfl rfl (λw h Y=>W.km_in_of Y) (by rfl) (by rfl) ?F
 case F=>
  intro w mg fa h KX G hmg
  refine' M.all_mk KX G hmg ?d1 ?d2 ?d3 ?d4 ?d5 ?d6 ?d7 ?d8 ?d9 ?d10 ?d11 ?d12 ?d13 ?d14 ?d15 ?d16 ?d17 ?d18 ?d19 ?d20 ?d21 ?d22 ?d23 ?d24 ?d25 ?aL ?lL ?cL ?kL ?gno ?xex ?kit ?kit2 ?kib ?gMN ?aC ?aI ?iI ?lI ?cI ?kI ?aU ?iU ?lU ?cU ?kU ?dTl ?pg ?hd ?po ?sa ?mk ?kc ?nM ?nN ?nP ?lcD ?v11D ?nTabD ?lcS ?v11S ?nTabS ?n12 ?nrange ?nlist ?nlen ?nint ?nmin ?nmax ?nsorted ?nbool ?ntuple ?nisinstance ?nenumerate
  (case d1 | d2 | d3 | d4 | d5 | d6 | d7 | d8 | d9 | d10 | d11 | d12 | d13 | d14 | d15 | d16 | d17 | d18 | d19 | d20 | d21 | d22 | d23 | d24 | d25=>exact ⟨by k_is,⟨_,_,_,_,_,_,_,_,by k_is⟩,by k_is,by k_is⟩)
  (case aL | lL | cL | kL | gno=>k_is)
  (case xex=>(unfold L2.ExcC;k_exc))
  (case kit | kit2 | kib=>kit_is)
  (case gMN | aC | aI | iI | lI | cI | kI | aU | iU | lU | cU | kU | dTl | pg | hd | po | sa | mk | kc | nM | nN | nP | lcD=>k_is)
  (case v11D=>exact rfl)
  (case nTabD=>kernel_rfl)
  (case lcS=>k_is)
  (case v11S=>exact rfl)
  (case nTabS=>kernel_rfl)
  (case n12=>decide)
  (case nrange | nlist | nlen | nint | nmin | nmax | nsorted | nbool | ntuple | nisinstance | nenumerate=>k_is)
#print axioms PySem.Challenge.cw_onceways_k46_tables_joined_holds
