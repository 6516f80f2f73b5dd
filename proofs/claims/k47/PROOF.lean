import PyProof.Rows.All
import Wide.All
import OpenK.AllK
import Wide.FinOn
import Lean
import PyProof.EqAt
import PyProof.EqKinds
import PyProof.TupleCall
import PyProof.SumAny
import PySem.Challenge.RW_onceways_k47_through_and_touching
set_option Elab.async false
set_option linter.all false
set_option maxRecDepth 100000
set_option maxHeartbeats 4000000
abbrev EX:=PySem.Value->PySem.Shared->Prop
section
open PySem PySem.Spec PyProof.Rows
theorem Yaa:type_of% @wpAny_bind:=@wpAny_bind
theorem Yab:type_of% @List.length_map:=@List.length_map
theorem Yac:type_of% @wpS_bind:=@wpS_bind
theorem Yad:type_of% @Nat.le_refl:=@Nat.le_refl
theorem Yae:type_of% @wpS_pure:=@wpS_pure
theorem Yaf:type_of% @wpAny_pure:=@wpAny_pure
theorem Yag:type_of% @List.length_append:=@List.length_append
theorem Yah:type_of% @List.mem_append:=@List.mem_append
theorem Yai:type_of% @List.mem_singleton:=@List.mem_singleton
theorem Yaj:type_of% @List.getElem?_eq_some_iff:=@List.getElem?_eq_some_iff
theorem Yak:type_of% @List.map_append:=@List.map_append
theorem Yal:type_of% @Heap.lt_size:=@Heap.lt_size
theorem Yam:type_of% @List.mem_map:=@List.mem_map
theorem Yan:type_of% @Nat.zero_le:=@Nat.zero_le
theorem Yao:type_of% @Heap.get?_push_of_some:=@Heap.get?_push_of_some
theorem Yap:type_of% @List.getElem?_eq_getElem:=@List.getElem?_eq_getElem
theorem Yaq:type_of% @List.map_cons:=@List.map_cons
theorem Yar:type_of% @List.size_toArray:=@List.size_toArray
theorem Yas:type_of% @Bool.false_ne_true:=@Bool.false_ne_true
theorem Yat:type_of% @List.length_singleton:=@List.length_singleton
theorem Yau:type_of% @List.mem_of_getElem?:=@List.mem_of_getElem?
theorem Yav:type_of% @W.mg_none_of:=@W.mg_none_of
theorem Yaw:type_of% @List.mem_cons_self:=@List.mem_cons_self
theorem Yax:type_of% @Nat.lt_of_lt_of_le:=@Nat.lt_of_lt_of_le
theorem Yay:type_of% @Nat.ne_of_lt:=@Nat.ne_of_lt
theorem Yaz:type_of% @List.mem_cons:=@List.mem_cons
theorem Yba:type_of% @List.getElem?_map:=@List.getElem?_map
theorem Ybb:type_of% @W.mg_of:=@W.mg_of
theorem Ybc:type_of% @List.mem_cons_of_mem:=@List.mem_cons_of_mem
theorem Ybd:type_of% @Array.length_toList:=@Array.length_toList
theorem Ybe:type_of% @sizeLine_eq:=@sizeLine_eq
theorem Ybf:type_of% @beq_iff_eq:=@beq_iff_eq
theorem Ybg:type_of% @List.append_assoc:=@List.append_assoc
theorem Ybh:type_of% @decide_eq_true:=@decide_eq_true
theorem Ybi:type_of% @congrArg:=@congrArg
theorem Ybj:type_of% @List.length_take:=@List.length_take
theorem Ybk:type_of% @List.take_length:=@List.take_length
theorem Ybl:type_of% @Heap.get?_push_size:=@Heap.get?_push_size
theorem Ybm:type_of% @List.length_cons:=@List.length_cons
theorem Ybn:type_of% @Option.map_eq_some_iff:=@Option.map_eq_some_iff
theorem Ybo:type_of% @Option.some.inj:=@Option.some.inj
theorem Ybp:type_of% @List.getElem?_append_left:=@List.getElem?_append_left
theorem Ybq:type_of% @List.mem_filter:=@List.mem_filter
theorem Ybr:type_of% @wpAny_mono:=@wpAny_mono
theorem Ybs:type_of% @List.take_add_one:=@List.take_add_one
theorem Ybt:type_of% @List.append_nil:=@List.append_nil
theorem Ybu:type_of% @List.pairwise_append:=@List.pairwise_append
theorem Ybv:type_of% @decide_eq_false:=@decide_eq_false
theorem Ybw:type_of% @List.getElem?_append_right:=@List.getElem?_append_right
theorem Ybx:type_of% @Array.getElem?_toList:=@Array.getElem?_toList
theorem Yby:type_of% @Bool.and_eq_true:=@Bool.and_eq_true
theorem Ybz:type_of% @wpS_forRange:=@wpS_forRange
theorem Yca:type_of% @List.nodup_append:=@List.nodup_append
theorem Ycb:type_of% @Nat.le_trans:=@Nat.le_trans
theorem Ycc:type_of% @List.mem_append_right:=@List.mem_append_right
theorem Ycd:type_of% @PySem.mem_of_lookup:=@PySem.mem_of_lookup
theorem Yce:type_of% @Nat.lt_irrefl:=@Nat.lt_irrefl
theorem Ycf:type_of% @List.find?_cons:=@List.find?_cons
theorem Ycg:type_of% @Nat.sub_self:=@Nat.sub_self
theorem Ych:type_of% @of_decide_eq_true:=@of_decide_eq_true
theorem Yci:type_of% @PassesOwn.never:=@PassesOwn.never
theorem Ycj:type_of% @wpS_modify:=@wpS_modify
theorem Yck:type_of% @PySem.boot_len:=@PySem.boot_len
theorem Ycl:type_of% @Array.toList_append:=@Array.toList_append
theorem Ycm:type_of% @Array.size_push:=@Array.size_push
theorem Ycn:type_of% @listItems_at:=@listItems_at
theorem Yco:type_of% @PySem.F.plainAttrs_list:=@PySem.F.plainAttrs_list
theorem Ycp:type_of% @W.kia_one:=@W.kia_one
theorem Ycq:type_of% @List.pairwise_map:=@List.pairwise_map
theorem Ycr:type_of% @List.length_filter_le:=@List.length_filter_le
theorem Ycs:type_of% @Nat.le_of_lt:=@Nat.le_of_lt
theorem Yct:type_of% @List.Nodup.length_le_of_subset:=@List.Nodup.length_le_of_subset
theorem Ycu:type_of% @Heap.size_push:=@Heap.size_push
theorem Ycv:type_of% @List.nodup_nil:=@List.nodup_nil
theorem Ycw:type_of% @List.take_append_drop:=@List.take_append_drop
theorem Ycx:type_of% @Nat.add_sub_cancel':=@Nat.add_sub_cancel'
theorem Ycy:type_of% @PySem.F.slot_list_append:=@PySem.F.slot_list_append
theorem Ycz:type_of% @PySem.F.type_list_append:=@PySem.F.type_list_append
theorem Yda:type_of% @beq_eq_false_iff_ne:=@beq_eq_false_iff_ne
theorem Ydb:type_of% @List.mem_append_left:=@List.mem_append_left
theorem Ydc:type_of% @wpAny_holding:=@wpAny_holding
theorem Ydd:type_of% @Nat.le_succ:=@Nat.le_succ
theorem Yde:type_of% @List.drop_eq_getElem_cons:=@List.drop_eq_getElem_cons
theorem Ydf:type_of% @List.pairwise_iff_getElem:=@List.pairwise_iff_getElem
theorem Ydg:type_of% @Option.map_eq_none_iff:=@Option.map_eq_none_iff
theorem Ydh:type_of% @List.map_map:=@List.map_map
theorem Ydi:type_of% @Paired.length:=@Paired.length
theorem Ydj:type_of% @List.mem_filterMap:=@List.mem_filterMap
theorem Ydk:type_of% @Array.toList_reverse:=@Array.toList_reverse
theorem Ydl:type_of% @Nat.zero_add:=@Nat.zero_add
theorem Ydm:type_of% @List.filter_append:=@List.filter_append
theorem Ydn:type_of% @List.mem_range:=@List.mem_range
theorem Ydo:type_of% @wpAny_truthy_bool:=@wpAny_truthy_bool
theorem Ydp:type_of% @wpAny_passesOwn:=@wpAny_passesOwn
theorem Ydq:type_of% @wpAny_Call_Name_kw:=@wpAny_Call_Name_kw
theorem Ydr:type_of% @Nat.min_eq_left:=@Nat.min_eq_left
theorem Yds:type_of% @List.pairwise_cons:=@List.pairwise_cons
theorem Ydt:type_of% @List.mem_iff_getElem?:=@List.mem_iff_getElem?
theorem Ydu:type_of% @getElem?_mirror_all:=@getElem?_mirror_all
theorem Ydv:type_of% @listUpdate_at:=@listUpdate_at
theorem Ydw:type_of% @List.length_drop:=@List.length_drop
theorem Ydx:type_of% @Heap.get?_update_other:=@Heap.get?_update_other
theorem Ydy:type_of% @Bool.eq_false_iff:=@Bool.eq_false_iff
theorem Ydz:type_of% @List.getD_eq_getElem?_getD:=@List.getD_eq_getElem?_getD
theorem Yea:type_of% @List.getElem_mem:=@List.getElem_mem
theorem Yeb:type_of% @Array.toList_extract:=@Array.toList_extract
theorem Yec:type_of% @List.extract_eq_take_drop:=@List.extract_eq_take_drop
theorem Yed:type_of% @Array.toList_push:=@Array.toList_push
theorem Yee:type_of% @List.getElem?_drop:=@List.getElem?_drop
theorem Yef:type_of% @List.getElem?_take:=@List.getElem?_take
theorem Yeg:type_of% @Array.size_extract:=@Array.size_extract
theorem Yeh:type_of% @Array.getElem?_eq_getElem:=@Array.getElem?_eq_getElem
theorem Yei:type_of% @of_decide_eq_false:=@of_decide_eq_false
theorem Yej:type_of% @List.replicate_succ:=@List.replicate_succ
theorem Yek:type_of% @List.take_of_length_le:=@List.take_of_length_le
theorem Yel:type_of% @List.getElem_of_mem:=@List.getElem_of_mem
theorem Yem:type_of% @List.drop_of_length_le:=@List.drop_of_length_le
theorem Yen:type_of% @wpAny_typeNameOfWhole_keyiter:=@wpAny_typeNameOfWhole_keyiter
theorem Yeo:type_of% @F.slot_dict_keyiterator_next:=@F.slot_dict_keyiterator_next
end
namespace L2
open PySem PySem.Spec PyProof.Rows
noncomputable abbrev Key:=Sum Int Str
noncomputable def YD:Key->Value->Bool
 | .inl k,v=>Value.isInt k v
 | .inr x,v=>Value.isStrOf x v
noncomputable def ZhS (w:World):Key->Int
 | .inl k=>hashInt k
 | .inr x=>hashStr w x
theorem G6:∀{k:Key}{v:Value},YD k v=true->(∃i t,k=Sum.inl i/\v=Value.int i t)\/(∃x t,k=Sum.inr x/\v=Value.str x t)
 | .inl i,v,h=>by
  obtain ⟨t,e⟩:=Value.isInt_shape (k:=i) (v:=v) h;exact .inl ⟨i,t,rfl,e⟩
 | .inr x,v,h=>by
  obtain ⟨t,e⟩:=Value.isStrOf_shape (x:=x) (v:=v) h;exact .inr ⟨x,t,rfl,e⟩
theorem Zk (i:Int)(t:Tok):YD (.inl i) (.int i t)=true:=by simp [YD,Value.isInt]
theorem Zl (x:Str)(t:Tok):YD (.inr x) (.str x t)=true:=by simp [YD,Value.isStrOf]
theorem Zee (a b:Int):decide ((Sum.inl a:Key)=Sum.inl b)=(a == b):=by
 by_cases e:a=b
 ·subst e;simp
 ·have h:¬ (Sum.inl a:Key)=Sum.inl b:=λq=>e (Sum.inl.inj q);rw [Ybv h];exact (Yda.mpr e).symm
theorem Zef (a b:Str):decide ((Sum.inr a:Key)=Sum.inr b)=decide (a=b):=by
 by_cases e:a=b
 ·subst e;simp
 ·have h:¬ (Sum.inr a:Key)=Sum.inr b:=λq=>e (Sum.inr.inj q);rw [Ybv h,Ybv e]
theorem Zeg (a:Int)(b:Str):decide ((Sum.inl a:Key)=Sum.inr b)=false:=Ybv (λq=>nomatch q)
theorem Zeh (a:Str)(b:Int):decide ((Sum.inr a:Key)=Sum.inl b)=false:=Ybv (λq=>nomatch q)
noncomputable def Jd (prog:Program)(w:World):PySem.KeyKind prog w Key where
 is:=YD
 hash:=ZhS w
 inj:=λv a b ha hb=>by
  rcases G6 ha with ⟨i,t,rfl,rfl⟩ | ⟨x,t,rfl,rfl⟩
  ·rcases G6 hb with ⟨j,u,rfl,e⟩ | ⟨y,u,rfl,e⟩
   ·injection e with e1 _;rw [e1]
   ·exact nomatch e
  ·rcases G6 hb with ⟨j,u,rfl,e⟩ | ⟨y,u,rfl,e⟩
   ·exact nomatch e
   ·injection e with e1 _;rw [e1]
 byValue:=λk v h=>by
  rcases G6 h with ⟨i,t,rfl,rfl⟩ | ⟨x,t,rfl,rfl⟩ <;> rfl
 pyHash:=λhv h=>by
  rcases G6 hv with ⟨i,t,rfl,rfl⟩ | ⟨x,t,rfl,rfl⟩
  ·exact wpAny_pyHash_int h
  ·exact wpAny_pyHash_str h
 eqBool:=λhu hv h=>by
  rcases G6 hu with ⟨i,t,rfl,rfl⟩ | ⟨x,t,rfl,rfl⟩
  ·rcases G6 hv with ⟨j,u,rfl,rfl⟩ | ⟨y,u,rfl,rfl⟩
   ·rw [Zee] at h;exact wpAny_eqBool_int h
   ·rw [Zeg] at h;exact SeqAt.EqAt.int_str i t y u _ _ _ _ h
  ·rcases G6 hv with ⟨j,u,rfl,rfl⟩ | ⟨y,u,rfl,rfl⟩
   ·rw [Zeh] at h;exact SeqAt.EqAt.str_int x t j u _ _ _ _ h
   ·rw [Zef] at h;exact wpAny_eqBool_str h
 «strs»:=λk x t v h=>by
  rcases G6 h with ⟨i,u,rfl,e⟩ | ⟨y,u,rfl,e⟩
  ·exact nomatch e
  ·injection e with e1 _
   subst e1;cases v <;> rfl
theorem Xm (prog:Program)(w:World)(i:Int)(t:Tok):(Jd prog w).is (.inl i) (.int i t)=true:=Zk i t
theorem Xn (prog:Program)(w:World)(x:Str)(t:Tok):(Jd prog w).is (.inr x) (.str x t)=true:=Zl x t
inductive V where
 | non | bl (b:Bool) | int (i:Int) | str (x:Str) | byt (b:Array UInt8) | flt (b:UInt64) | ref (a:Addr) | ty (n:String)
 deriving DecidableEq
noncomputable def RelV:V->Value->Prop
 | .non,u=>u=Value.none
 | .bl b,u=>u=Value.bool b
 | .int i,u=>∃t,u=Value.int i t
 | .str x,u=>∃t,u=Value.str x t
 | .byt b,u=>∃t,u=Value.bytes b t
 | .flt b,u=>∃t,u=Value.float b t
 | .ref a,u=>u=Value.ref a
 | .ty n,u=>u=Value.type n
noncomputable abbrev Vals:List V->List Value->Prop:=Paired RelV
theorem Vals.length {xs:List V}{us:List Value}(r:Vals xs us):xs.length=us.length:=Ydi r
theorem Vals.get:∀{xs:List V}{us:List Value}{i:Nat}{x:V},Vals xs us->xs[i]?=some x->∃u,us[i]?=some u/\RelV x u
 | _,_,_,_,.nil,e=>by simp at e
 | _,_,0,_,.cons r _,e=>by simp at e;subst e;exact ⟨_,rfl,r⟩
 | _,_,i+1,x,.cons _ t,e=>by
  obtain ⟨u,h1,h2⟩:=Vals.get (i:=i) (x:=x) t (by simpa using e);exact ⟨u,by simpa using h1,h2⟩
theorem Vals.set {x:V}{u:Value}(r:RelV x u):∀{xs:List V}{us:List Value}(i:Nat),Vals xs us->Vals (xs.set i x) (us.set i u)
 | _,_,_,.nil=>.nil
 | _,_,0,.cons _ t=>.cons r t
 | _,_,i+1,.cons q t=>.cons q (Vals.set r i t)
theorem Vals.append {xs ys:List V}{us ws:List Value}(h:Vals xs us)(s:Vals ys ws):Vals (xs++ys) (us++ws):=by
 induction h with
 | nil=>exact s
 | cons r _ ih=>exact .cons r ih
theorem Vals.take:∀{xs:List V}{us:List Value}(n:Nat),Vals xs us->Vals (xs.take n) (us.take n)
 | _,_,0,_=>.nil
 | _,_,_+1,.nil=>.nil
 | _,_,n+1,.cons r t=>.cons r (Vals.take n t)
theorem Vals.drop:∀{xs:List V}{us:List Value}(n:Nat),Vals xs us->Vals (xs.drop n) (us.drop n)
 | _,_,0,r=>r
 | _,_,_+1,.nil=>.nil
 | _,_,n+1,.cons _ t=>Vals.drop n t
noncomputable def RelO:Option V->Option Value->Prop
 | some v,some u=>RelV v u
 | none,none=>True
 | _,_=>False
noncomputable def KV {κ:Type}:List (κ×V)->List (κ×Value)->Prop:=Paired λ(p:κ×V) (q:κ×Value)=>p.1=q.1/\RelV p.2 q.2
noncomputable def kV:Key->V
 | .inl i=>.int i
 | .inr x=>.str x
inductive HO where
  | lst (xs:List V)
  | tup (xs:List V)
  | dK (kvs:List (Key×V)) | dT (kvs:List (List Key×V))
  | set (S:Int->Bool) (n:Nat)
  | ins (C dx:Addr) (fs:List (Str×V))
  | own (x:Addr)
  | xd (fs:List (Str×V))
  | met (f x:Addr)
  | rng (lo hi:Int)
  | frz (o:Obj) (u:HO)
  | tbl (ps:Array Value)
  | ext (φ:Heap->Prop)
noncomputable abbrev Hp:=Addr->Option HO
noncomputable def upd (H:Hp)(a:Addr)(o:HO):Hp:=λb=>if b=a then some o else H b
theorem Gb {H:Hp}{a:Addr}{o:HO}:upd H a o a=some o:=by unfold upd;rw [if_pos rfl]
theorem Go {H:Hp}{a b:Addr}{o:HO}(h:b≠a):upd H a o b=H b:=by unfold upd;rw [if_neg h]
theorem GZ {H:Hp}{a b:Addr}{o u:HO}(h:H a=some o)(h':H b=some u)(d:o≠u):a≠b:=by
 intro e;subst e;rw [h] at h';exact d (Ybo h')
theorem Gf {H:Hp}{a b:Addr}{o:HO}(h:H a=some o)(h':H b=none):a≠b:=by
 intro e;subst e;rw [h] at h';cases h'
section
variable (P:Program)(w:World)
noncomputable def ObjOk (H:Hp)(h:Heap)(a:Addr):HO->Prop
 | .lst xs=>xs.length<=sizeLine/\∃(its:List Value)(n:Nat),Vals xs its/\h.get? a=some { cls:=.type "list", data:=.seq its.toArray n }
 | .tup xs=>xs.length<=sizeLine/\∃its:List Value,Vals xs its/\IsTup h a its.toArray
 | .dK kvs=>kvs.length<=sizeLine/\(a == sysModules)=false/\∃vs,KV kvs vs/\h.DictOf (Jd P w) a vs
 | .dT kvs=>kvs.length<=sizeLine/\(a == sysModules)=false/\∃xs:List (List Key×Addr×Value),
   Paired (λ(p:List Key×V) (q:List Key×Addr×Value)=>p.1=q.1/\H q.2.1=some (.tup (p.1.map kV))/\RelV p.2 q.2.2) kvs xs /\
   ∃o es ep,h.get? a=some o/\o.ExactDict/\o.data=.dict es ep/\es.toList=xs.map (entryOfKey (tupleKind (Jd P w)))/\(xs.map (·.1)).Nodup
 | .set S n=>h.SetOf (intKind P w) a S n
 | .ins C dx fs=>H dx=some (.own a)/\fs.length<=1000/\dx≠a/\h.get? a=some (W.instObj C dx) /\
   ∃mA,h.Ns1 dx mA/\(∀f,RelO (fs.lookup f) (mA f))/\PySem.Within mA (fs.map (·.1))
 | .own _=>∃o,h.get? a=some o
 | .xd fs=>∃mA,h.Ns1 a mA/\∀f,RelO (fs.lookup f) (mA f)
 | .rng lo hi=>∃t u v,h.get? a=some { cls:=.type "range", data:=.fields #[.int lo t,.int hi u,.int 1 v] }
 | .frz o u=>h.get? a=some o/\ObjOk H h a u
 | .tbl ps=>h.get? a=some { cls:=.none,data:=.fields ps }
 | .met f x=>h.get? a=some (W.methodObj (.ref f) (.ref x))
 | .ext φ=>φ h/\(∃o,h.get? a=some o)/\∀h1 h2:Heap,φ h1->(∀o,h1.get? a=some o->h2.get? a=some o)->φ h2
noncomputable def HOk (H:Hp)(h:Heap):Prop:=∀a o,H a=some o->ObjOk P w H h a o
end
section
variable {P:Program}{w:World}{H H':Hp}{h h':Heap}{a:Addr}{o:HO}
theorem ObjOk.lt (x:ObjOk P w H h a o):a<h.objs.size:=by
 cases o with
 | lst xs=>obtain ⟨_,_,_,_,e⟩:=x;exact Yal e
 | tup xs=>obtain ⟨_,_,_,p⟩:=x;exact p.lt
 | dK kvs=>obtain ⟨_,_,_,_,o,_,_,e,_⟩:=x;exact Yal e
 | dT kvs=>obtain ⟨_,_,_,_,o,_,_,e,_⟩:=x;exact Yal e
 | set S n=>obtain ⟨o,_,_,_,e,_⟩:=x;exact Yal e
 | ins C dx fs=>obtain ⟨_,_,_,e,_⟩:=x;exact Yal e
 | own y=>obtain ⟨_,e⟩:=x;exact Yal e
 | xd fs=>obtain ⟨_,⟨_,_,_,e,_⟩,_⟩:=x;exact Yal e
 | rng lo hi=>obtain ⟨_,_,_,e⟩:=x;exact Yal e
 | frz ob u=>obtain ⟨e,_⟩:=x;exact Yal e
 | tbl ps=>exact Yal (show h.get? a=some _ from x)
 | met f y=>exact Yal (show h.get? a=some _ from x)
 | ext φ=>obtain ⟨_,⟨_,e⟩,_⟩:=x;exact Yal e
theorem Paired.mapP {α β:Type}{F G:α->β->Prop}{l₁:List α}{l₂:List β}(h:Paired F l₁ l₂)(f:∀a b,F a b->G a b):Paired G l₁ l₂:=by
 induction h with
 | nil=>exact .nil
 | cons r _ ih=>exact .cons (f _ _ r) ih
theorem ObjOk.stay (x:ObjOk P w H h a o)(k:∀b u,(b=a\/H b=some (.own a))->h.get? b=some u->h'.get? b=some u)(D:∀b,H b=some (.own a)->H' b=some (.own a))(L:∀b xs,H b=some (.tup xs)->H' b=some (.tup xs)):ObjOk P w H' h' a o:=by
 induction o with
 | lst xs=>obtain ⟨z,its,n,r,e⟩:=x;exact ⟨z,its,n,r,k _ _ (.inl rfl) e⟩
 | tup xs=>obtain ⟨z,its,r,j,e,c⟩:=x;exact ⟨z,its,r,j,k _ _ (.inl rfl) e,c⟩
 | dK kvs=>obtain ⟨z,y,vs,r,j,es,ep,e,c⟩:=x;exact ⟨z,y,vs,r,j,es,ep,k _ _ (.inl rfl) e,c⟩
 | dT kvs=>
  obtain ⟨z,y,xs,r,j,es,ep,e,c⟩:=x;exact ⟨z,y,xs,Paired.mapP r λp q z=>⟨z.1,L _ _ z.2.1,z.2.2⟩,j,es,ep,k _ _ (.inl rfl) e,c⟩
 | set S n=>obtain ⟨j,es,ep,t,e,c⟩:=x;exact ⟨j,es,ep,t,k _ _ (.inl rfl) e,c⟩
 | ins C dx fs=>
  obtain ⟨d,z,ne,e,mA,⟨B,es,ep,O,c⟩,r⟩:=x;exact ⟨D _ d,z,ne,k _ _ (.inl rfl) e,mA,⟨B,es,ep,k _ _ (.inr d) O,c⟩,r⟩
 | own y=>obtain ⟨j,e⟩:=x;exact ⟨j,k _ _ (.inl rfl) e⟩
 | xd fs=>obtain ⟨mA,⟨B,es,ep,e,c⟩,r⟩:=x;exact ⟨mA,⟨B,es,ep,k _ _ (.inl rfl) e,c⟩,r⟩
 | rng lo hi=>obtain ⟨t,u,v,e⟩:=x;exact ⟨t,u,v,k _ _ (.inl rfl) e⟩
 | frz j u ih=>obtain ⟨e,q⟩:=x;exact ⟨k _ _ (.inl rfl) e,ih q⟩
 | tbl ps=>
  have e:h.get? a=some { cls:=.none,data:=.fields ps }:=x;show h'.get? a=some { cls:=.none,data:=.fields ps };exact k a _ (.inl rfl) e
 | met f y=>
  have e:h.get? a=some (W.methodObj (.ref f) (.ref y)):=x;show h'.get? a=some (W.methodObj (.ref f) (.ref y));exact k a _ (.inl rfl) e
 | ext φ=>obtain ⟨p,⟨o,e⟩,st⟩:=x;exact ⟨st _ _ p λo q=>k _ _ (.inl rfl) q,⟨o,k _ _ (.inl rfl) e⟩,st⟩
theorem HOk.lt (x:HOk P w H h)(e:H a=some o):a<h.objs.size:=(x a o e).lt
theorem HOk.fresh (x:HOk P w H h)(e:h.objs.size<=a):H a=none:=by
 cases q:H a with
 | none=>rfl
 | some u=>exact absurd (Yax (x.lt q) e) (Yce _)
theorem HOk.kept (x:HOk P w H h)(k:∀b u,h.get? b=some u->h'.get? b=some u):HOk P w H h':=λa o e=>
 (x a o e).stay (λb u _ q=>k b u q) (λ_ q=>q) λ_ _ q=>q
theorem HOk.laid (x:HOk P w H h)(k:∀b u,h.get? b=some u->h'.get? b=some u)(D:h.objs.size<=a)(new:ObjOk P w (upd H a o) h' a o):HOk P w (upd H a o) h':=λb u e=>by
 have j:=x.fresh D;by_cases B:b=a
 ·subst B;rw [Gb] at e;cases e;exact new
 ·rw [Go B] at e;exact (x b u e).stay (λc v _ q=>k c v q) (λc q=>by rw [Go (Gf q j)];exact q) λc xs q=>by rw [Go (Gf q j)];exact q
end
noncomputable def Rd (H:Hp)(a:Addr)(u:HO):Prop:=H a=some u\/∃o,H a=some (.frz o u)
theorem Rd.ok {P:Program}{w:World}{H:Hp}{h:Heap}{a:Addr}{u:HO}(r:Rd H a u)(x:HOk P w H h):ObjOk P w H h a u:=by
 rcases r with r | ⟨o,r⟩
 ·exact x a u r
 ·obtain ⟨_,q⟩:=x a _ r;exact q
noncomputable def Mut:Option HO->Prop
 | some (.lst _)=>True
 | some (.dK _)=>True
 | some (.dT _)=>True
 | some (.set _ _)=>True
 | some (.ins _ _ _)=>True
 | some (.ext _)=>True
 | _=>False
section
variable {P:Program}{w:World}{H:Hp}{h h':Heap}{x e:Addr}{o':HO}
theorem HOk.write (ok:HOk P w H h)(L:Mut (H x))(Z:e=x\/H e=some (.own x))(k:∀b u,b≠e->h.get? b=some u->h'.get? b=some u)(Y:∃u,h'.get? e=some u)(new:ObjOk P w (upd H x o') h' x o'):HOk P w (upd H x o') h':=λb u q=>by
 have B:∀c y,H c=some (.own y)->c≠x:=λc y r z=>by subst z;rw [r] at L;exact L
 have D:∀c xs,H c=some (.tup xs)->c≠x:=λc xs r z=>by subst z;rw [r] at L;exact L
 by_cases O:b=x
 ·subst O;rw [Gb] at q;cases q;exact new
 ·rw [Go O] at q;by_cases j:b=e
  ·have q':H b=some (.own x):=by
    rcases Z with z | z
    ·exact absurd (j.trans z) O
    ·rw [j];exact z
   rw [q] at q';cases q';obtain ⟨v,hv⟩:=Y;exact ⟨v,by rw [j];exact hv⟩
  ·refine (ok b u q).stay (λc v U r=>k c v ?_ r) (λc r=>by rw [Go (B c b r)];exact r) λc xs r=>by rw [Go (D c xs r)];exact r
   rcases U with rfl | U
   ·exact j
   ·rintro rfl;rcases Z with z | z
    ·exact B c b U z
    ·rw [U] at z;cases z;exact O rfl
end
structure Un (fs ex:List Addr)(H H':Hp)(h h':Heap):Prop where
 keep:∀b o,h.get? b=some o->H b=none->b ∉ fs->b ∉ ex->h'.get? b=some o
 slot:∀b o,h.get? b=some o->H b=none->b∈fs->b ∉ ex->∃sl,h'.get? b=some { o with slots:=sl }
 free:∀b o,h.get? b=some o->H b=none->b ∉ ex->H' b=none
 there:∀b o,h.get? b=some o->b ∉ ex->∃o',h'.get? b=some o'
 tups:∀b xs,H b=some (.tup xs)->H' b=some (.tup xs)
 frzs:∀b o u,H b=some (.frz o u)->H' b=some (.frz o u)
 tbls:∀b ps,H b=some (.tbl ps)->∃more,H' b=some (.tbl (ps++more))
section
variable {fs fs' ex ex':List Addr}{H H1 H2:Hp}{h h1 h2 h':Heap}{a x e:Addr}{o:HO}
theorem Un.any (u:Un fs ex H H1 h h1){b:Addr}{j:Obj}(q:h.get? b=some j)(n:H b=none)(B:b ∉ ex):∃sl,h1.get? b=some { j with slots:=sl }:=by
 by_cases D:b∈fs
 ·exact u.slot b j q n D B
 ·exact ⟨j.slots,u.keep b j q n D B⟩
theorem Un.trans (a:Un fs ex H H1 h h1)(b:Un fs ex H1 H2 h1 h2):Un fs ex H H2 h h2 where
 keep:=λc ob q n hc hx=>b.keep c ob (a.keep c ob q n hc hx) (a.free c ob q n hx) hc hx
 slot:=λc ob q n hc hx=>by
  obtain ⟨sl,e1⟩:=a.slot c ob q n hc hx;obtain ⟨sl',e2⟩:=b.slot c _ e1 (a.free c ob q n hx) hc hx;exact ⟨sl',e2⟩
 free:=λc ob q n hx=>by
  obtain ⟨o',e1⟩:=a.there c ob q hx;exact b.free c o' e1 (a.free c ob q n hx) hx
 there:=λc ob q hx=>by
  obtain ⟨o',e1⟩:=a.there c ob q hx;exact b.there c o' e1 hx
 tups:=λc xs q=>b.tups c xs (a.tups c xs q)
 frzs:=λc ob xs q=>b.frzs c ob xs (a.frzs c ob xs q)
 tbls:=λc ps q=>by
  obtain ⟨m1,e1⟩:=a.tbls c ps q;obtain ⟨m2,e2⟩:=b.tbls c _ e1;exact ⟨m1++m2,by rw [e2,Array.append_assoc]⟩
theorem Un.kept (k:∀b u,h.get? b=some u->h'.get? b=some u):Un fs ex H H h h':=
 ⟨λb j q _ _ _=>k b j q,λb j q _ _ _=>⟨j.slots,k b j q⟩,λ_ _ _ n _=>n,λb j q _=>⟨j,k b j q⟩,λ_ _ q=>q,λ_ _ _ q=>q,λ_ ps q=>⟨#[],by rw [q];simp⟩⟩
theorem Un.refl:Un fs ex H H h h:=Un.kept λ_ _ q=>q
theorem Un.laid (k:∀b u,h.get? b=some u->h'.get? b=some u)(hp:h.objs.size<=a)(hn:H a=none):Un fs ex H (upd H a o) h h' where
 keep:=λb u q _ _ _=>k b u q
 slot:=λb u q _ _ _=>⟨u.slots,k b u q⟩
 free:=λb u q n _=>by rw [Go (Yay (Yax (Yal q) hp))];exact n
 there:=λb u q _=>⟨u,k b u q⟩
 tups:=λb xs q=>by rw [Go (Gf q hn)];exact q
 frzs:=λb u xs q=>by rw [Go (Gf q hn)];exact q
 tbls:=λb ps q=>⟨#[],by rw [Go (Gf q hn),q];simp⟩
theorem Un.write (B:Mut (H x))(Y:e=x\/H e=some (.own x))(k:∀b u,b≠e->h.get? b=some u->h'.get? b=some u)(D:∃u,h'.get? e=some u):Un fs ex H (upd H x o) h h':=by
 have O:∀b,H b=none->b≠x:=λb n z=>by subst z;rw [n] at B;exact B
 have U:∀b,H b=none->b≠e:=λb n z=>by
  subst z;rcases Y with r | r
  ·exact O b n r
  ·rw [n] at r;cases r
 have L:∀b u,H b=some u->¬ Mut (some u)->b≠x:=λb u q nm z=>by subst z;rw [q] at B;exact nm B
 refine ⟨λb u q n _ _=>k b u (U b n) q,λb u q n _ _=>⟨u.slots,k b u (U b n) q⟩,λb u q n _=>by rw [Go (O b n)];exact n,λb u q _=>?_,
  λb xs q=>by rw [Go (L b _ q λz=>z)];exact q,λb u xs q=>by rw [Go (L b _ q λz=>z)];exact q,λb ps q=>⟨#[],by rw [Go (L b _ q λz=>z),q];simp⟩⟩
 by_cases j:b=e
 ·subst j;exact D
 ·exact ⟨u,k b u j q⟩
theorem Un.mono (u:Un fs ex H H1 h h1)(L:∀b∈fs,b∈fs')(D:∀b∈ex,b∈ex'):Un fs' ex' H H1 h h1:=
 ⟨λb B q n O j=>u.keep b B q n (λz=>O (L b z)) λz=>j (D b z),λ_ _ q n _ j=>u.any q n λz=>j (D _ z),λb B q n j=>u.free b B q n λz=>j (D b z),λb B q j=>u.there b B q λz=>j (D b z),u.tups,u.frzs,u.tbls⟩
end
noncomputable def trk (h:Heap)(H:Hp):List Addr:=(List.range h.objs.size).filter λa=>(H a).isSome
noncomputable def Zm (h:Heap)(H:Hp):Heap:=W.hideAll h (trk h H)
theorem Zn (h:Heap)(H:Hp):(Zm h H).objs.size=h.objs.size:=W.hideAll_size _ _
theorem Zbi {h:Heap}{H:Hp}{b:Addr}{o:Obj}(e:h.get? b=some o)(n:H b=none):(Zm h H).get? b=some o:=
 W.hideAll_get _ e λj=>by
  have q:(H b).isSome=true:=(Ybq.mp j).2;rw [n] at q;simp at q
theorem ZcX {h:Heap}{H:Hp}{b:Addr}{o:Obj}(e:(Zm h H).get? b=some o):h.get? b=some o/\H b=none:=by
 have j:h.get? b=some o:=W.of_hideAll (trk h H) e;refine ⟨j,?_⟩;cases q:H b with
 | none=>rfl
 | some x=>
  have B:b∈trk h H:=Ybq.mpr ⟨Ydn.mpr (Yal j),by simp [q]⟩;have z:(Zm h H).get? b=none:=W.hideAll_none (trk h H) B;rw [z] at e;cases e
structure Mod (K:W.Frag)(mg:Str->Option Value)(base:Heap):Prop where
 kin:K.In base
 glob:base.Ns mainGlobals mg
 blt:∃mb,base.Ns builtinsNs mb/\∀x:Str,x ≠ "__name__" -> mb x=bootBuiltins x
 nolimit:base.NoLimit
structure Cx where
 prog:Program
 w:World
 K:W.Frag
 mg:Str->Option Value
 base:Heap
 A:Around
 N:List Str
 s₀:Shared
 H₀:Hp
 env:Env
 outer:List Env
 stack:List Env
 ex:List Addr
 fn:Str->Bool
 calm:Bool
 pn:List (Addr×Obj)
 xe:EX
noncomputable def frs (l:List Env):List Addr:=l.filterMap (·.frame)
noncomputable abbrev Cx.fs (X:Cx):List Addr:=frs X.outer
noncomputable def Vis (j:Scope)(x:Str):Prop:=j.names.lookup x=some .local\/j.names.lookup x=some .cell\/j.names.lookup x=some .free
noncomputable def Loc (j:Scope)(x:Str):Prop:=j.names.lookup x=some .local\/j.names.lookup x=some .cell
noncomputable def ZhT (env:Env)(h:Heap)(m:Str->Option Value)(x:Str)(u:Value):Prop:=
 (env.kindOf x=some .local/\m x=some u)\/((env.kindOf x=some .cell\/env.kindOf x=some .free)/\∃c,env.cells.lookup x=some c/\h.IsCell c (some u))
structure Cx.Ok (X:Cx):Prop where
 mod:Mod X.K X.mg X.base
 kind:X.env.scope.kind=.function
 glob:X.env.globals=mainGlobals
 blt:X.env.builtins=builtinsNs
 above:X.s₀.heap.objs.size<=X.env.locals
 inj:∀x y c,X.env.cells.lookup x=some c->X.env.cells.lookup y=some c->x=y
 has:∀x,(X.env.kindOf x=some .cell\/X.env.kindOf x=some .free)->∃c,X.env.cells.lookup x=some c
 cab:∀x c,X.fn x=true->X.env.cells.lookup x=some c->X.s₀.heap.objs.size<=c
 hd:X.calm=true->X.A.handled=none
 frames:X.A.frames=some X.stack
 stk:X.stack=X.outer\/(X.stack=X.env::X.outer/\X.env.frame=some X.env.locals)
 exf:∀b∈X.ex,b≠X.env.locals/\∀x c,X.env.cells.lookup x=some c->c≠b
 bs:∀b o,X.base.get? b=some o->X.s₀.heap.get? b=some o/\X.H₀ b=none
 bsz:X.base.objs.size<=X.s₀.heap.objs.size
 noex:∀b o,X.base.get? b=some o->b ∉ X.ex
 exfs:∀b∈X.ex,b ∉ X.fs
 funs:X.s₀.heap.FunFrames X.base X.outer
 frf:∀b∈X.fs,X.H₀ b=none
structure Inv (X:Cx)(qQ:List (Addr×Obj))(σ:List (Option V))(H:Hp)(s:Shared):Prop where
 ok:X.Ok
 os:s.os=X.s₀.os
 bare:AllBare s.gens
 base:Un X.fs X.ex X.H₀ H X.s₀.heap s.heap
 loc:∃m,s.heap.Ns X.env.locals m/\∀(i:Nat)(x:Str)(v:V),X.N[i]?=some x->σ[i]?=some (some v)->Vis X.env.scope x->∃u,RelV v u/\ZhT X.env s.heap m x u
 cell:∀x c,X.env.cells.lookup x=some c->∃v,s.heap.IsCell c v
 free:H X.env.locals=none
 freeC:∀x c,X.env.cells.lookup x=some c->H c=none
 pin:∀p∈X.pn++qQ,s.heap.get? p.1=some p.2/\H p.1=none/\p.1≠X.env.locals/\p.1 ∉ X.fs/\∀v,p.2.data≠.cell v
 hok:HOk X.prog X.w H s.heap
 len:σ.length=X.N.length
section
variable {X:Cx}{qQ:List (Addr×Obj)}{σ:List (Option V)}{H H':Hp}{s:Shared}{h':Heap}
theorem Cx.Ok.nofr (ok:X.Ok){b:Addr}{o:Obj}(e:X.base.get? b=some o):b ∉ X.fs:=λj=>by
 have:=(ok.funs.mem j).1;rw [e] at this;cases this
theorem Inv.bs (I:Inv X qQ σ H s):∀b o,X.base.get? b=some o->s.heap.get? b=some o/\H b=none:=λb o e=>
 ⟨I.base.keep b o (I.ok.bs b o e).1 (I.ok.bs b o e).2 (I.ok.nofr e) (I.ok.noex b o e),I.base.free b o (I.ok.bs b o e).1 (I.ok.bs b o e).2 (I.ok.noex b o e)⟩
theorem Inv.bk (I:Inv X qQ σ H s):∀b o,X.base.get? b=some o->s.heap.get? b=some o:=λb o e=>(I.bs b o e).1
theorem Inv.mod (I:Inv X qQ σ H s):Mod X.K X.mg X.base:=I.ok.mod
theorem Inv.kIn (I:Inv X qQ σ H s):X.K.In s.heap:=I.ok.mod.kin.keeps I.bk
theorem Inv.lt (I:Inv X qQ σ H s):X.env.locals<s.heap.objs.size:=let ⟨_,hn,_⟩:=I.loc;hn.lt
theorem Inv.sz (I:Inv X qQ σ H s):X.s₀.heap.objs.size<=s.heap.objs.size:=Ycb I.ok.above (Ycs I.lt)
theorem Inv.nofs (I:Inv X qQ σ H s){a:Addr}(h:s.heap.objs.size<=a):a ∉ X.fs:=λj=>by
 obtain ⟨_,o,B,_⟩:=I.ok.funs.mem j;exact absurd (Yax (Yal B) (Ycb I.sz h)) (Yce _)
theorem Inv.cne (I:Inv X qQ σ H s):∀x c,X.env.cells.lookup x=some c->c≠X.env.locals:=λx c e z=>by
 obtain ⟨v,o,D,L⟩:=I.cell x c e;obtain ⟨m,⟨o',es,ep,j,B,_⟩,_⟩:=I.loc;rw [z,j] at D;cases D;rw [B] at L;cases L
theorem Inv.funs (I:Inv X qQ σ H s):s.heap.FunFrames X.base X.outer:=by
 have all:∀(l:List Env),(∀b∈frs l,b∈X.fs)->X.s₀.heap.FunFrames X.base l->s.heap.FunFrames X.base l:=by
  intro l
  induction l with
  | nil=>intro _ _;trivial
  | cons env r ih=>
   intro O U;obtain ⟨Y,⟨L,o,j,Z,ho,hd⟩,hr⟩:=U;have B:L∈X.fs:=O L (by unfold frs;rw [List.filterMap_cons,j];exact Yaw);obtain ⟨sl,e⟩:=I.base.slot L o ho (I.ok.frf L B) B λz=>I.ok.exfs L z B;exact ⟨Y,⟨L,_,j,Z,e,hd⟩,ih (λb D=>O b (by unfold frs;rw [List.filterMap_cons,j];exact Ybc _ D)) hr⟩
 exact all X.outer (λ_ D=>D) I.ok.funs
theorem Inv.stack (I:Inv X qQ σ H s):s.heap.FunFrames X.base X.stack:=by
 rcases I.ok.stk with e | ⟨e,j⟩
 ·rw [e];exact I.funs
 ·rw [e];obtain ⟨m,B,_⟩:=I.loc;refine .cons (by rw [I.ok.kind];decide) j B ?_ I.funs;exact Heap.get?_none_of_le (Ycb I.ok.bsz I.ok.above)
theorem Inv.stkSub (I:Inv X qQ σ H s):∀b∈frs X.stack,b∈X.env.locals::X.fs:=λb j=>by
 rcases I.ok.stk with e | ⟨e,B⟩
 ·rw [e] at j;exact Ybc _ j
 ·rw [e] at j;unfold frs at j;rw [List.filterMap_cons,B] at j;exact j
theorem Inv.stkFree (I:Inv X qQ σ H s):∀b∈frs X.stack,H b=none:=λb j=>by
 rcases Yaz.mp (I.stkSub b j) with e | j
 ·rw [e];exact I.free
 ·obtain ⟨_,o,B,_⟩:=I.ok.funs.mem j;exact I.base.free b o B (I.ok.frf b j) λz=>I.ok.exfs b z j
theorem Inv.step {g':Array GenState}{t':Nat}{d':Drawn}{ch:List Addr}(I:Inv X qQ σ H s)(B:∀b∈ch,(b∈X.ex\/X.s₀.heap.objs.size<=b)/\b≠X.env.locals/\(∀x c,X.env.cells.lookup x=some c->c≠b)/\∀p∈X.pn++qQ,p.1≠b)(keep:∀b o,b≠X.env.locals->b ∉ X.fs->b ∉ ch->s.heap.get? b=some o->H b=none->h'.get? b=some o)(Y:∀b o,b≠X.env.locals->b∈X.fs->b ∉ ch->s.heap.get? b=some o->H b=none->∃sl,h'.get? b=some { o with slots:=sl })(free:∀b o,b ∉ ch->s.heap.get? b=some o->H b=none->H' b=none)(there:∀b o,b ∉ ch->s.heap.get? b=some o->∃o',h'.get? b=some o')(aa:∀b xs,H b=some (.tup xs)->H' b=some (.tup xs))(ab:∀b o u,H b=some (.frz o u)->H' b=some (.frz o u))(ac:∀b ps,H b=some (.tbl ps)->∃more,H' b=some (.tbl (ps++more)))(ns:∀m,s.heap.Ns X.env.locals m->h'.Ns X.env.locals m)(ae:HOk X.prog X.w H' h')(hg:AllBare g') :
  Inv X qQ σ H' { s with heap:=h',gens:=g',drawn:=d',toks:=t' }:=by
 have ad:∀b o,X.s₀.heap.get? b=some o->b≠X.env.locals:=λb o e=>Yay (Yax (Yal e) I.ok.above);have O:∀b o,X.s₀.heap.get? b=some o->b ∉ X.ex->b ∉ ch:=λb o e j Z=>by
  rcases (B b Z).1 with z | z
  ·exact j z
  ·exact absurd (Yax (Yal e) z) (Yce _)
 have D:∀x c,X.env.cells.lookup x=some c->∀v,s.heap.IsCell c v->h'.IsCell c v:=λx c e v ⟨o,ho,hd⟩=>by
  have L:c ∉ ch:=λz=>(B c z).2.2.1 x c e rfl;by_cases hc:c∈X.fs
  ·obtain ⟨sl,q⟩:=Y c o (I.cne x c e) hc L ho (I.freeC x c e);exact ⟨_,q,hd⟩
  ·exact ⟨o,keep c o (I.cne x c e) hc L ho (I.freeC x c e),hd⟩
 refine ⟨I.ok,I.os,hg,⟨λb o e n Z j=>?_,λb o e n Z j=>?_,λb o e n j=>?_,λb o e j=>?_,λb xs e=>aa b xs (I.base.tups b xs e),λb o xs e=>ab b o xs (I.base.frzs b o xs e),λb ps e=>?_⟩,?_,λx c e=>?_,?_,λx c e=>?_,λp hp=>?_,ae,I.len⟩
 ·exact keep b o (ad b o e) Z (O b o e j) (I.base.keep b o e n Z j) (I.base.free b o e n j)
 ·obtain ⟨sl,U⟩:=I.base.slot b o e n Z j;obtain ⟨ag,e2⟩:=Y b _ (ad b o e) Z (O b o e j) U (I.base.free b o e n j);exact ⟨ag,e2⟩
 ·obtain ⟨o',U⟩:=I.base.there b o e j;exact free b o' (O b o e j) U (I.base.free b o e n j)
 ·obtain ⟨o',U⟩:=I.base.there b o e j;exact there b o' (O b o e j) U
 ·obtain ⟨m1,U⟩:=I.base.tbls b ps e;obtain ⟨m2,e2⟩:=ac b _ U;exact ⟨m1++m2,by rw [e2,Array.append_assoc]⟩
 ·obtain ⟨m,hn,hl⟩:=I.loc;refine ⟨m,ns m hn,λi x v U e2 e3=>?_⟩;obtain ⟨u,r,l⟩:=hl i x v U e2 e3;refine ⟨u,r,?_⟩;rcases l with l | ⟨k,c,e,z⟩
  ·exact .inl l
  ·exact .inr ⟨k,c,e,D x c e _ z⟩
 ·obtain ⟨v,z⟩:=I.cell x c e;exact ⟨v,D x c e v z⟩
 ·obtain ⟨m,⟨o,_,_,ho,_⟩,_⟩:=I.loc;exact free _ o (λz=>(B _ z).2.1 rfl) ho I.free
 ·obtain ⟨v,o,ho,hd⟩:=I.cell x c e;exact free c o (λz=>(B c z).2.2.1 x c e rfl) ho (I.freeC x c e)
 ·obtain ⟨e,n,ne,nf,d⟩:=I.pin p hp;have L:p.1 ∉ ch:=λz=>(B p.1 z).2.2.2 p hp rfl;exact ⟨keep p.1 p.2 ne nf L e n,free p.1 p.2 L e n,ne,nf,d⟩
theorem Inv.un {t':Nat}(I:Inv X qQ σ H s)(u:Un X.fs [] H H' s.heap h')(B:HOk X.prog X.w H' h'):Inv X qQ σ H' { s with heap:=h',toks:=t' }:=by
 obtain ⟨m,⟨o,es,ep,U,r⟩,_⟩:=id I.loc;obtain ⟨sl,Y⟩:=u.any U I.free (by simp);exact I.step (g':=s.gens) (d':=s.drawn) (ch:=[]) (λ_ z=>nomatch z) (λb o _ D _ e n=>u.keep b o e n D (by simp)) (λb o _ D _ e n=>u.slot b o e n D (by simp)) (λb o _ e n=>u.free b o e n (by simp)) (λb o _ e=>u.there b o e (by simp)) u.tups u.frzs u.tbls (λm' Z=>by
  obtain ⟨o',L,O,j,r'⟩:=Z;rw [U] at j;cases j;exact ⟨_,L,O,Y,r'⟩) B I.bare
theorem Inv.call {g':Array GenState}{t':Nat}{d':Drawn}{ch:List Addr}(I:Inv X qQ σ H s)(u:Un (frs X.stack) ch H H' s.heap h')(L:HOk X.prog X.w H' h')(hg:AllBare g')(B:∀b∈ch,(b∈X.ex\/X.s₀.heap.objs.size<=b)/\b≠X.env.locals/\(∀x c,X.env.cells.lookup x=some c->c≠b)/\∀p∈X.pn++qQ,p.1≠b) :
  Inv X qQ σ H' { s with heap:=h',gens:=g',drawn:=d',toks:=t' }:=by
 obtain ⟨m,⟨o,es,ep,Z,r⟩,_⟩:=id I.loc;obtain ⟨sl,O⟩:=u.any Z I.free λz=>(B _ z).2.1 rfl;exact I.step (ch:=ch) B (λb o O hb j e n=>u.keep b o e n (λz=>(Yaz.mp (I.stkSub b z)).elim O hb) j) (λb o _ _ j e n=>u.any e n j) (λb o j e n=>u.free b o e n j) (λb o j e=>u.there b o e j) u.tups u.frzs u.tbls (λm' hm=>by
  obtain ⟨o',U,Y,D,r'⟩:=hm;rw [Z] at D;cases D;exact ⟨_,U,Y,O,r'⟩) L hg
theorem Inv.turned {t':Nat}{j:Addr}(I:Inv X qQ σ H s)(k:∀b o,b≠j->s.heap.get? b=some o->h'.get? b=some o)(O:H j=none)(L:j≠X.env.locals)(h1:j∈X.ex\/X.s₀.heap.objs.size<=j)(h2:∀x c,X.env.cells.lookup x=some c->c≠j)(U:∀p∈X.pn++qQ,p.1≠j):Inv X qQ σ H { s with heap:=h',toks:=t' }:=by
 have D:∀b u,H b=some u->b≠j:=λb u e z=>by rw [z,O] at e;cases e
 refine I.step (g':=s.gens) (d':=s.drawn) (ch:=[j]) (λb Y=>?_) (λb o _ _ B e _=>k b o (λz=>B (by simp [z])) e) (λb o _ _ B e _=>⟨o.slots,k b o (λz=>B (by simp [z])) e⟩) (λ_ _ _ _ n=>n)
  (λb o B e=>⟨o,k b o (λz=>B (by simp [z])) e⟩) (λ_ _ e=>e) (λ_ _ _ e=>e) (λb ps e=>⟨#[],by rw [e];simp⟩) (λm Z=>?_) (λb u e=>?_) I.bare
 ·have e:b=j:=by simpa using Y
  subst e;exact ⟨h1,L,h2,U⟩
 ·obtain ⟨o,es,ep,ho,r⟩:=Z;exact ⟨o,es,ep,k _ o (Ne.symm L) ho,r⟩
 ·refine (I.hok b u e).stay (λc v B q=>k c v ?_ q) (λ_ q=>q) λ_ _ q=>q;rcases B with z | z
  ·rw [z];exact D b u e
  ·exact D c _ z
theorem Inv.tok (I:Inv X qQ σ H s)(t:Nat):Inv X qQ σ H { s with toks:=t }:=I.un (h':=s.heap) (t':=t) Un.refl I.hok
theorem Inv.kept {t':Nat}(I:Inv X qQ σ H s)(k:∀b u,s.heap.get? b=some u->h'.get? b=some u):Inv X qQ σ H { s with heap:=h',toks:=t' }:=I.un (Un.kept k) (I.hok.kept k)
theorem Inv.laid {a:Addr}{o:HO}{t':Nat}(I:Inv X qQ σ H s)(k:∀b u,s.heap.get? b=some u->h'.get? b=some u)(j:s.heap.objs.size<=a)(new:ObjOk X.prog X.w (upd H a o) h' a o) :
  Inv X qQ σ (upd H a o) { s with heap:=h',toks:=t' }:=I.un (Un.laid k j (I.hok.fresh j)) (I.hok.laid k j new)
theorem Inv.write {x e:Addr}{o:HO}{t':Nat}(I:Inv X qQ σ H s)(B:Mut (H x))(D:e=x\/H e=some (.own x))(k:∀b u,b≠e->s.heap.get? b=some u->h'.get? b=some u)(j:∃u,h'.get? e=some u)(new:ObjOk X.prog X.w (upd H x o) h' x o):Inv X qQ σ (upd H x o) { s with heap:=h',toks:=t' }:=I.un (Un.write B D k j) (I.hok.write B D k j new)
theorem Inv.weak {j:List (Option V)}(I:Inv X qQ σ H s)(B:j.length=σ.length)(w:∀(i:Nat) v,j[i]?=some (some v)->σ[i]?=some (some v)):Inv X qQ j H s:=
 ⟨I.ok,I.os,I.bare,I.base,let ⟨m,hn,hl'⟩:=I.loc;⟨m,hn,λi x v D L O=>hl' i x v D (w i v L) O⟩,I.cell,I.free,I.freeC,I.pin,I.hok,B.trans I.len⟩
theorem Inv.pins_of {j:List (Addr×Obj)}(I:Inv X qQ σ H s)(h:∀p∈j,s.heap.get? p.1=some p.2/\H p.1=none/\p.1≠X.env.locals/\p.1 ∉ X.fs/\∀v,p.2.data≠.cell v):Inv X j σ H s:=
 ⟨I.ok,I.os,I.bare,I.base,I.loc,I.cell,I.free,I.freeC,λp B=>(Yah.mp B).elim (λz=>I.pin p (Ydb _ z)) (h p),I.hok,I.len⟩
theorem XX {N:List Str}(B:N.Nodup){i j:Nat}{x:Str}(a:N[i]?=some x)(b:N[j]?=some x):i=j:=by
 obtain ⟨h1,D⟩:=Yaj.mp a;obtain ⟨h2,L⟩:=Yaj.mp b;exact (List.getElem_inj B).mp (D.trans L.symm)
theorem Wp {M:Model}{A:Around}{E:EX}{i:Nat}{x:Str}{v:V}{u:Value}{Q:Unit->Shared->Prop}(I:Inv X qQ σ H s)(hN:X.N.Nodup)(hi:X.N[i]?=some x)(U:Loc X.env.scope x)(r:RelV v u)(h:∀s',Inv X qQ (σ.set i (some v)) H s'->(∃a,Heap.SameBut a s.heap s'.heap/\(a=X.env.locals\/X.env.cells.lookup x=some a))->Q () s')(hf:X.fn x=true\/X.env.scope.names.lookup x=some .local:=by first | exact .inl rfl | exact .inr rfl | assumption):wpAny M A (storeName X.env x u) Q E s:=by
 obtain ⟨m,hn,hl⟩:=id I.loc;have ab:(X.env.scope.kind == .class || (X.env.scope.kind == .module && X.env.locals != X.env.globals))=false:=by rw [I.ok.kind];rfl
 have ac:i<σ.length:=by rw [I.len];exact (Yaj.mp hi).1
 have cne:=I.cne;have D:∀{a:Addr}{h':Heap},(∃o,s.heap.get? a=some o/\H a=none)->Heap.SameBut a s.heap h'->HOk X.prog X.w H h':=λ{a h'} ha B b ob e=>by
  obtain ⟨_,_,Y⟩:=ha;refine (I.hok b ob e).stay (λc w' O q=>(B.2 c ?_).trans q) (λ_ q=>q) λ_ _ q=>q;rintro rfl;rcases O with rfl | O
  ·rw [Y] at e;cases e
  ·rw [Y] at O;cases O
 rcases U with hk | hk
 ·refine wpAny_storeName_local hk hn (λh' ai B=>?_) ab;obtain ⟨oL,_,_,aj,_⟩:=id hn;refine h _ ⟨I.ok,I.os,I.bare,⟨λb o e n hb U=>?_,λb o e n hb U=>?_,I.base.free,λb o e U=>?_,I.base.tups,I.base.frzs,I.base.tbls⟩,⟨_,ai,λj y v' L Z e3=>?_⟩,λy c e=>?_,I.free,I.freeC,λp hp=>?_,D ⟨oL,aj,I.free⟩ B,by simpa using I.len⟩ ⟨_,B,.inl rfl⟩
  ·exact (B.2 b (Yay (Yax (Yal e) I.ok.above))).trans (I.base.keep b o e n hb U)
  ·obtain ⟨sl,L⟩:=I.base.slot b o e n hb U;exact ⟨sl,(B.2 b (Yay (Yax (Yal e) I.ok.above))).trans L⟩
  ·obtain ⟨o',L⟩:=I.base.there b o e U;exact ⟨o',(B.2 b (Yay (Yax (Yal e) I.ok.above))).trans L⟩
  ·by_cases hj:j=i
   ·subst hj;rw [hi] at L;cases L;rw [List.getElem?_set_self ac] at Z;cases Z;exact ⟨u,r,.inl ⟨hk,by simp⟩⟩
   ·rw [List.getElem?_set_ne (Ne.symm hj)] at Z;obtain ⟨u',r',q⟩:=hl j y v' L Z e3;refine ⟨u',r',?_⟩;rcases q with ⟨k,e⟩ | ⟨k,c,e,z⟩
    ·refine .inl ⟨k,?_⟩;have:y≠x:=λe=>hj (XX hN L (e▸hi));simp [this,e]
    ·exact .inr ⟨k,c,e,z.sameBut B (cne y c e)⟩
  ·obtain ⟨w',z⟩:=I.cell y c e;exact ⟨w',z.sameBut B (cne y c e)⟩
  ·obtain ⟨e,n,ne,nf,d⟩:=I.pin p hp;exact ⟨(B.2 p.1 ne).trans e,n,ne,nf,d⟩
 ·have aa:X.fn x=true:=by
   rcases hf with z | z
   ·exact z
   ·rw [z] at hk;cases hk
  obtain ⟨c,O⟩:=I.ok.has x (.inl hk);obtain ⟨w',z⟩:=I.cell x c O;refine wpAny_storeName_cell I.ok.kind hk O z (λh' ad B=>?_);obtain ⟨oc,ae,ag⟩:=id z;refine h { s with heap:=h' } ⟨I.ok,I.os,I.bare,⟨λb o e n hb U=>?_,λb o e n hb U=>?_,I.base.free,λb o e U=>?_,I.base.tups,I.base.frzs,I.base.tbls⟩,⟨m,hn.sameBut B (Ne.symm (cne x c O)),λj y v' L Z e3=>?_⟩,λy c' e=>?_,I.free,I.freeC,λp hp=>?_,D ⟨oc,ae,I.freeC x c O⟩ B,by simpa using I.len⟩ ⟨c,B,.inr O⟩
  ·exact (B.2 b (Yay (Yax (Yal e) (I.ok.cab x c aa O)))).trans (I.base.keep b o e n hb U)
  ·obtain ⟨sl,L⟩:=I.base.slot b o e n hb U;exact ⟨sl,(B.2 b (Yay (Yax (Yal e) (I.ok.cab x c aa O)))).trans L⟩
  ·obtain ⟨o',L⟩:=I.base.there b o e U;exact ⟨o',(B.2 b (Yay (Yax (Yal e) (I.ok.cab x c aa O)))).trans L⟩
  ·by_cases hj:j=i
   ·subst hj;rw [hi] at L;cases L;rw [List.getElem?_set_self ac] at Z;cases Z;exact ⟨u,r,.inr ⟨.inl hk,c,O,ad⟩⟩
   ·rw [List.getElem?_set_ne (Ne.symm hj)] at Z;obtain ⟨u',r',q⟩:=hl j y v' L Z e3;refine ⟨u',r',?_⟩;rcases q with q | ⟨k,c',e,z'⟩
    ·exact .inl q
    ·refine .inr ⟨k,c',e,z'.sameBut B ?_⟩;rintro rfl;exact hj (XX hN L (I.ok.inj _ _ _ e O▸hi))
  ·by_cases ah:c'=c
   ·subst ah;exact ⟨_,ad⟩
   ·obtain ⟨w2,z2⟩:=I.cell y c' e;exact ⟨w2,z2.sameBut B ah⟩
  ·obtain ⟨e,n,ne,nf,d⟩:=I.pin p hp;refine ⟨(B.2 p.1 ?_).trans e,n,ne,nf,d⟩;intro q;rw [q,ae] at e;have q':oc=p.2:=Ybo e;exact d w' (by rw [<-q'];exact ag)
theorem Up {M:Model}{A:Around}{E:EX}{i:Nat}{x:Str}{v:V}{u:Value}{Q:Unit->Shared->Prop}(I:Inv X qQ σ H s)(j:X.N.Nodup)(hi:X.N[i]?=some x)(B:Loc X.env.scope x)(r:RelV v u)(h:∀s',Inv X qQ (σ.set i (some v)) H s'->Q () s')(D:X.fn x=true\/X.env.scope.names.lookup x=some .local:=by first | exact .inl rfl | exact .inr rfl | assumption):wpAny M A (storeName X.env x u) Q E s:=
 Wp I j hi B r (λs' L _=>h s' L) D
theorem Inv.call' {s':Shared}{ch:List Addr}(I:Inv X qQ σ H s)(D:s'.os=s.os)(u:Un (frs X.stack) ch H H' s.heap s'.heap)(j:HOk X.prog X.w H' s'.heap)(L:AllBare s'.gens)(B:∀b∈ch,(b∈X.ex\/X.s₀.heap.objs.size<=b)/\b≠X.env.locals/\(∀x c,X.env.cells.lookup x=some c->c≠b)/\∀p∈X.pn++qQ,p.1≠b):Inv X qQ σ H' s':=by
 obtain ⟨h',g',d',t',o'⟩:=s';have e:o'=s.os:=D;subst e;exact I.call (g':=g') (t':=t') (d':=d') u j L B
end
noncomputable abbrev XK:=Value->Option Addr->Hp->Prop
noncomputable abbrev St:=List (Option V)
noncomputable abbrev VK:=V->Hp->Prop
noncomputable abbrev TE:=St->Hp->VK->Prop
noncomputable abbrev TT:=St->Hp->(Bool->Hp->Prop)->Prop
noncomputable abbrev TA:=St->Hp->(List V->Hp->Prop)->Prop
structure Zi where
 nx:St->Hp->Prop
 rt:VK
 bk:St->Hp->Prop:=λ_ _=>False
 ct:St->Hp->Prop:=λ_ _=>False
noncomputable abbrev TS:=Zi->St->Hp->Prop
noncomputable def EP (X:Cx)(qQ:List (Addr×Obj))(σ:St)(Q:VK)(u:Value)(s':Shared):Prop:=∃v H',Inv X qQ σ H' s'/\RelV v u/\Q v H'
noncomputable def TP (X:Cx)(qQ:List (Addr×Obj))(σ:St)(Q:Bool->Hp->Prop)(b:Bool)(s':Shared):Prop:=∃H',Inv X qQ σ H' s'/\Q b H'
noncomputable def AP (X:Cx)(qQ:List (Addr×Obj))(σ:St)(Q:List V->Hp->Prop)(us:List Value)(s':Shared):Prop:=∃vs H',Inv X qQ σ H' s'/\Vals vs us/\Q vs H'
noncomputable def SP (X:Cx)(qQ:List (Addr×Obj))(D:Zi)(f:Flow)(s':Shared):Prop:=
 match f with
 | .next=>∃ j H',Inv X qQ j H' s'/\D.nx j H'
 | .brk=>∃ j H',Inv X qQ j H' s'/\D.bk j H'
 | .cont=>∃ j H',Inv X qQ j H' s'/\D.ct j H'
 | .ret u=>∃v j H',Inv X qQ j H' s'/\RelV v u/\D.rt v H'
noncomputable def PE (X:Cx)(e:Expr)(t:TE):Prop:=
 ∀(qQ:List (Addr×Obj))(s:Shared)(σ:St)(H:Hp)(Q:VK),Inv X qQ σ H s->t σ H Q->wpAny (model X.prog X.w) X.A (eval e X.env) (EP X qQ σ Q) X.xe s
noncomputable def PT (X:Cx)(e:Expr)(t:TT):Prop:=
 ∀(qQ:List (Addr×Obj))(s:Shared)(σ:St)(H:Hp)(Q:Bool->Hp->Prop),Inv X qQ σ H s->t σ H Q->wpAny (model X.prog X.w) X.A (isTrue e X.env (eval e X.env)) (TP X qQ σ Q) X.xe s
noncomputable def PW (X:Cx)(e:Expr)(t:TT):Prop:=
 ∀(j:Sem Value)(qQ:List (Addr×Obj))(s:Shared)(σ:St)(H:Hp)(Q:Bool->Hp->Prop),Inv X qQ σ H s->t σ H Q->wpAny (model X.prog X.w) X.A (isTrue e X.env j) (TP X qQ σ Q) X.xe s
theorem PW.pt {X:Cx}{e:Expr}{t:TT}(h:PW X e t):PT X e t:=h _
noncomputable def PA (X:Cx)(es:List Expr)(t:TA):Prop:=
 ∀(pos:Pos)(qQ:List (Addr×Obj))(s:Shared)(σ:St)(H:Hp)(Q:List V->Hp->Prop),Inv X qQ σ H s->t σ H Q->wpAny (model X.prog X.w) X.A (spliced (backTo pos (starEach es X.env))) (AP X qQ σ Q) X.xe s
noncomputable def PS (X:Cx)(st:Stmt)(t:TS):Prop:=
 ∀(qQ:List (Addr×Obj))(s:Shared)(σ:St)(H:Hp)(D:Zi),Inv X qQ σ H s->t D σ H->wpAny (model X.prog X.w) X.A (exec st X.env) (SP X qQ D) X.xe s
noncomputable def PSs (X:Cx)(st:List Stmt)(t:TS):Prop:=
 ∀(qQ:List (Addr×Obj))(s:Shared)(σ:St)(H:Hp)(D:Zi),Inv X qQ σ H s->t D σ H->wpAny (model X.prog X.w) X.A (execs st X.env) (SP X qQ D) X.xe s
theorem thn {α:Type}{t:Sem α}{Q j:α->Shared->Prop}{M:Model}{A:Around}{E:EX}{s:Shared}(h:wpAny M A t Q E s)(B:∀a s,Q a s->j a s):wpAny M A t j E s:=Ybr h B λ_ _ x=>x
theorem thG {α β:Type}{t:Sem α}{J:Hp->Shared->Prop}{R:β->α->Prop}{C:β->Hp->Prop}{j:α->Shared->Prop}{M:Model}{A:Around}{E:EX}{s:Shared}(h:wpAny M A t (λa s'=>∃v H',J H' s'/\R v a/\C v H') E s)(k:∀a s' v H',J H' s'->R v a->C v H'->j a s'):wpAny M A t j E s:=thn h λa s' h=>by
 obtain ⟨v,H',h1,h2,B⟩:=h;exact k a s' v H' h1 h2 B
theorem thT {α:Type}{t:Sem α}{J:Hp->Shared->Prop}{C:α->Hp->Prop}{j:α->Shared->Prop}{M:Model}{A:Around}{E:EX}{s:Shared}(h:wpAny M A t (λa s'=>∃H',J H' s'/\C a H') E s)(k:∀a s' H',J H' s'->C a H'->j a s'):wpAny M A t j E s:=thn h λa s' h=>by
 obtain ⟨H',h1,B⟩:=h;exact k a s' H' h1 B
section
variable {X:Cx}
noncomputable def Zei (i:Nat):TE:=λσ H Q=>∃v,σ[i]?=some (some v)/\Q v H
noncomputable def tC (v:V):TE:=λ_ H Q=>Q v H
theorem Zej {i:Nat}{x:Str}{pos:Pos}(U:X.N[i]?=some x)(Y:Vis X.env.scope x)(B:(x == ("__debug__" : Str))=false:=by decide)(D:(x == ("__classdict__" : Str))=false:=by decide):PE X (.Name x pos) (Zei i):=by
 intro qQ s σ H Q I h;obtain ⟨v,e,h⟩:=h;obtain ⟨m,Z,hl⟩:=I.loc;obtain ⟨u,r,l⟩:=hl i x v U e Y;have fin:EP X qQ σ Q u s:=⟨v,H,I,r,h⟩;rcases l with ⟨j,hm⟩ | ⟨j,c,L,O⟩
 ·exact wpAny_Name (wpAny_loadName_local I.ok.kind j Z hm fin) B
 ·rcases j with j | j
  ·exact wpAny_Name (wpAny_loadName_cell I.ok.kind j L O fin) B
  ·exact wpAny_Name (wpAny_loadName_free I.ok.kind j L O fin D) B
theorem Gh {i j pos}:PE X (.Constant (.int i) j pos) (tC (.int i)):=λ_ _ _ H _ I h=>wpAny_Constant_int ⟨.int i,H,I.tok _,⟨_,rfl⟩,h⟩
theorem Ow {b j pos}:PE X (.Constant (.bool b) j pos) (tC (.bl b)):=λ_ _ _ H _ I h=>Constant_bool ⟨.bl b,H,I,rfl,h⟩
theorem Zo {j pos}:PE X (.Constant .none j pos) (tC .non):=λ_ _ _ H _ I h=>Constant_none ⟨.non,H,I,rfl,h⟩
theorem Zek {x j pos}:PE X (.Constant (.str x) j pos) (tC (.str x)):=λ_ _ _ H _ I h=>Calls.Constant_str ⟨.str x,H,I.tok _,⟨_,rfl⟩,h⟩
noncomputable def Gl (X:Cx)(x:Str):Prop:=X.env.kindOf x=some .globalImplicit
theorem Uz {E:EX}{qQ:List (Addr×Obj)}{s:Shared}{σ:St}{H:Hp}{x:Str}{u:Value}{pos:Pos}{Q:EX}(I:Inv X qQ σ H s)(j:Gl X x)(B:X.mg x=some u)(h:Q u s)(D:(x == ("__debug__" : Str))=false:=by decide):wpAny (model X.prog X.w) X.A (eval (.Name x pos) X.env) Q E s:=
 Calls.Name_function_global I.ok.kind j (Calls.loadGlobal_global (by rw [I.ok.glob];exact I.mod.glob.keeps I.bk) B h) D
theorem U6 {E:EX}{qQ:List (Addr×Obj)}{s:Shared}{σ:St}{H:Hp}{x:Str}{u:Value}{pos:Pos}{Q:EX}(I:Inv X qQ σ H s)(j:Gl X x)(B:X.mg x=none)(D:bootBuiltins x=some u)(h:Q u s)(L:x ≠ "__name__" := by decide)(O:(x == ("__debug__" : Str))=false:=by decide):wpAny (model X.prog X.w) X.A (eval (.Name x pos) X.env) Q E s:=by
 obtain ⟨U,h1,h2⟩:=I.mod.blt;exact Calls.Name_function_global I.ok.kind j (Calls.loadGlobal_builtin (by rw [I.ok.glob];exact I.mod.glob.keeps I.bk) B (by rw [I.ok.blt];exact h1.keeps I.bk) ((h2 x L).trans D) h) O
theorem Xo {x:Str}{v:V}{u:Value}{pos:Pos}(j:Gl X x)(B:X.mg x=some u)(r:RelV v u)(D:(x == ("__debug__" : Str))=false:=by decide):PE X (.Name x pos) (tC v):=
 λ_ _ _ H _ I h=>Uz I j B ⟨v,H,I,r,h⟩ D
theorem ZcY {x:Str}{v:V}{u:Value}{pos:Pos}(j:Gl X x)(B:X.mg x=none)(D:bootBuiltins x=some u)(r:RelV v u)(L:x ≠ "__name__" := by decide)(O:(x == ("__debug__" : Str))=false:=by decide):PE X (.Name x pos) (tC v):=
 λ_ _ _ H _ I h=>U6 I j B D ⟨v,H,I,r,h⟩ L O
variable {a b:Expr}{ta tb:TE}{pos:Pos}
noncomputable def PC (X:Cx)(j:CmpOp)(a b:Expr)(t:TE):Prop:=
 ∀(qQ:List (Addr×Obj))(s:Shared)(σ:St)(H:Hp)(Q:VK),Inv X qQ σ H s->t σ H Q ->
  wpAny (model X.prog X.w) X.A (eval a X.env) (λv B=>wpAny (model X.prog X.w) X.A (eval b X.env) (λu D=>wpAny (model X.prog X.w) X.A (compareOp j v u) (EP X qQ σ Q) X.xe D) X.xe B) X.xe s
noncomputable def tB (t:TE):TT:=λσ H Q=>t σ H λx H1=>∃c,x=.bl c/\Q c H1
theorem XY {j:CmpOp}{t:TE}(h:PC X j a b t)(h1:behindInMarks j b=false:=by first | exact nobehind _ (by decide) (by decide) | rfl):PT X (.Compare a [j] [b] pos) (tB t):=by
 intro qQ s σ H Q I B;refine wpAny_isTrue_Compare1 (thn (h qQ s σ H _ I B) λv U h1=>thn h1 λu Y h2=>thn h2 λc Z ⟨x,H1,D,L,O⟩=>?_) h1;obtain ⟨d,rfl,q⟩:=O;cases L;exact Ydo ⟨H1,D,q⟩
theorem Jh {e:Expr}{t:TE}(h:PE X e t)(B:∀j,isTrue e X.env j=(do let v <- j;standAt e.pos;holding [v] (truthy v)):=by intro _;rfl):PT X e (tB t):=by
 intro qQ s σ H Q I D;refine isTrue_plain (thG (h qQ s σ H _ I D) λv Y x H1 L O U=>?_) (B _);obtain ⟨d,rfl,q⟩:=U;cases O;exact Ydo ⟨H1,L,q⟩
variable {tA tB':TT}{rest:List Expr}
noncomputable def ZhU (t u:TT):TT:=λσ H Q=>t σ H λc H1=>if c=true then u σ H1 Q else Q false H1
noncomputable def tOr (t u:TT):TT:=λσ H Q=>t σ H λc H1=>if c=true then Q true H1 else u σ H1 Q
noncomputable def ZhV (t:TT):TT:=λσ H Q=>t σ H λc H1=>Q (!c) H1
theorem Xp (ha:PT X a tA):PW X (.BoolOp .And [a] pos) tA:=by
 intro j qQ s σ H Q I h;refine isTrue_and (thn (ha qQ s σ H Q I h) λc B e=>?_);cases c with
 | true=>exact isTrue_and_nil e
 | false=>exact e
theorem OJ (ha:PT X a tA):PW X (.BoolOp .Or [a] pos) tA:=by
 intro j qQ s σ H Q I h;refine isTrue_or (thn (ha qQ s σ H Q I h) λc B e=>?_);cases c with
 | false=>exact isTrue_or_nil e
 | true=>exact e
theorem XZ (ha:PT X a tA)(D:PW X (.BoolOp .And (b::rest) pos) tB'):PW X (.BoolOp .And (a::b::rest) pos) (ZhU tA tB'):=by
 intro L qQ s σ H Q I h;refine isTrue_and (thT (ha qQ s σ H _ I h) λc O H1 j B=>?_);cases c with
 | true=>exact D L qQ O σ H1 Q j B
 | false=>exact ⟨H1,j,B⟩
theorem U1 (ha:PT X a tA)(D:PW X (.BoolOp .Or (b::rest) pos) tB'):PW X (.BoolOp .Or (a::b::rest) pos) (tOr tA tB'):=by
 intro L qQ s σ H Q I h;refine isTrue_or (thT (ha qQ s σ H _ I h) λc O H1 j B=>?_);cases c with
 | true=>exact ⟨H1,j,B⟩
 | false=>exact D L qQ O σ H1 Q j B
theorem Oa (ha:PT X a tA):PT X (.UnaryOp .Not a pos) (ZhV tA):=by
 intro qQ s σ H Q I h;exact isTrue_not (ha qQ s σ H (λc H1=>Q (!c) H1) I h)
noncomputable def ZgL (ta tb:TE):TE:=λσ H Q=>ta σ H λx H1=>∃c,x=.bl c/\if c=true then tb σ H1 Q else Q (.bl false) H1
noncomputable def ZhW (ta tb:TE):TE:=λσ H Q=>ta σ H λx H1=>∃c,x=.bl c/\if c=true then Q (.bl true) H1 else tb σ H1 Q
theorem Zcy {op}{t:TE}(h:PE X a t):PE X (.BoolOp op [a] pos) t:=λqQ s σ H Q I j=>BoolOp_one (h qQ s σ H Q I j)
theorem Zel (ha:PE X a ta)(D:PE X (.BoolOp .And (b::rest) pos) tb):PE X (.BoolOp .And (a::b::rest) pos) (ZgL ta tb):=by
 intro qQ s σ H Q I h;refine BoolOp_and (thG (ha qQ s σ H _ I h) λv L x H1 B O j=>?_);obtain ⟨c,rfl,j⟩:=j;cases O;refine Ydo ?_;cases c with
 | true=>exact D qQ L σ H1 Q B j
 | false=>exact ⟨.bl false,H1,B,rfl,j⟩
theorem ZgM (ha:PE X a ta)(D:PE X (.BoolOp .Or (b::rest) pos) tb):PE X (.BoolOp .Or (a::b::rest) pos) (ZhW ta tb):=by
 intro qQ s σ H Q I h;refine BoolOp_or (thG (ha qQ s σ H _ I h) λv L x H1 B O j=>?_);obtain ⟨c,rfl,j⟩:=j;cases O;refine Ydo ?_;cases c with
 | false=>exact D qQ L σ H1 Q B j
 | true=>exact ⟨.bl true,H1,B,rfl,j⟩
noncomputable def tIf (t:TT)(ta tb:TE):TE:=λσ H Q=>t σ H λc H1=>if c=true then ta σ H1 Q else tb σ H1 Q
theorem X0 {c:Expr}(L:PT X c tA)(ha:PE X a ta)(O:PE X b tb):PE X (.IfExp c a b pos) (tIf tA ta tb):=by
 intro qQ s σ H Q I h;refine wpAny_IfExp (thT (L qQ s σ H _ I h) λd j H1 B D=>?_);cases d with
 | true=>exact ha qQ j σ H1 Q B D
 | false=>exact O qQ j σ H1 Q B D
end
noncomputable def SqL (K:W.Frag)(H:Hp)(a:Addr)(xs:List V):Prop:=
 Rd H a (.lst xs) \/
  ∃(o:Obj)(its:Array Value)(n:Nat),K.lookup a=some o/\o.cls=.type "list" /\ o.dict=none/\o.data=.seq its n/\its.size<=sizeLine/\Vals xs its.toList
noncomputable def SqT (K:W.Frag)(H:Hp)(a:Addr)(xs:List V):Prop:=
 Rd H a (.tup xs) \/
  ∃(o:Obj)(its:Array Value)(n:Nat),K.lookup a=some o/\o.cls=.type "tuple" /\ o.data=.seq its n/\its.size<=sizeLine/\Vals xs its.toList
noncomputable def ZhX:Value->Option V
 | .none=>some .non
 | .bool b=>some (.bl b)
 | .int i _=>some (.int i)
 | .str x _=>some (.str x)
 | .bytes b _=>some (.byt b)
 | .float b _=>some (.flt b)
 | .ref a=>some (.ref a)
 | .type n=>some (.ty n)
 | _=>none
theorem RelV.abs {x:V}{u:Value}(r:RelV x u):ZhX u=some x:=by
 cases x with
 | non=>cases r;rfl
 | bl _=>cases r;rfl
 | int _=>obtain ⟨t,rfl⟩:=r;rfl
 | str _=>obtain ⟨t,rfl⟩:=r;rfl
 | byt _=>obtain ⟨t,rfl⟩:=r;rfl
 | flt _=>obtain ⟨t,rfl⟩:=r;rfl
 | ref _=>cases r;rfl
 | ty _=>cases r;rfl
theorem RelV.inj {x y:V}{u:Value}(r:RelV x u)(q:RelV y u):x=y:=Ybo (r.abs.symm.trans q.abs)
theorem Vals.inj {xs ys:List V}{us:List Value}(h:Vals xs us)(g:Vals ys us):xs=ys:=by
 induction h generalizing ys with
 | nil=>cases g;rfl
 | cons r t ih=>cases g with
  | cons r' t'=>rw [r.inj r',ih t']
section
variable {X:Cx}{qQ:List (Addr×Obj)}{σ:St}{H:Hp}{s:Shared}{a:Addr}{xs ys:List V}
theorem SqL.of {K:W.Frag}(h:H a=some (.lst xs)):SqL K H a xs:=.inl (.inl h)
theorem SqT.of {K:W.Frag}(h:H a=some (.tup xs)):SqT K H a xs:=.inl (.inl h)
theorem Inv.list (I:Inv X qQ σ H s)(h:SqL X.K H a xs):∃its:List Value,Vals xs its/\PlainL s.heap a its.toArray/\xs.length<=sizeLine:=by
 rcases h with h | ⟨o,its,n,j,B,D,L,O,r⟩
 ·obtain ⟨z,its,n,r,e⟩:=h.ok I.hok;exact ⟨its,r,⟨_,n,e,rfl,rfl,rfl⟩,z⟩
 ·refine ⟨its.toList,r,⟨o,n,I.kIn a o j,B,D,by simpa using L⟩,?_⟩;have e:=r.length;simp only [Ybd] at e
  lia
theorem Inv.tuple (I:Inv X qQ σ H s)(h:SqT X.K H a xs):∃its:List Value,Vals xs its/\IsTup s.heap a its.toArray/\xs.length<=sizeLine:=by
 rcases h with h | ⟨o,its,n,j,B,D,L,r⟩
 ·obtain ⟨z,its,r,p⟩:=h.ok I.hok;exact ⟨its,r,p,z⟩
 ·refine ⟨its.toList,r,⟨o,I.kIn a o j,B,n,by simpa using D⟩,?_⟩;have e:=r.length;simp only [Ybd] at e
  lia
theorem Inv.list_inj (I:Inv X qQ σ H s)(h:SqL X.K H a xs)(h':SqL X.K H a ys):xs=ys:=by
 obtain ⟨its,r,⟨o,n,e,_,_,d⟩,_⟩:=I.list h;obtain ⟨j,r',⟨o',L,B,_,_,D⟩,_⟩:=I.list h';rw [e] at B;cases B;rw [d] at D;injection D with d1 _
 have:its=j:=by simpa using Ybi Array.toList d1
 subst this;exact r.inj r'
end
noncomputable abbrev Cx.wish (X:Cx)(E:EX):Cx:={ X with xe:=E }
noncomputable abbrev Cx.nox (X:Cx):Cx:=X.wish λ_ _=>False
theorem Cx.Ok.wish {X:Cx}(ok:X.Ok)(E:EX):(X.wish E).Ok:=
 ⟨ok.mod,ok.kind,ok.glob,ok.blt,ok.above,ok.inj,ok.has,ok.cab,ok.hd,ok.frames,ok.stk,ok.exf,ok.bs,ok.bsz,ok.noex,ok.exfs,ok.funs,ok.frf⟩
theorem Cx.Ok.unwish {X:Cx}{E:EX}(ok:(X.wish E).Ok):X.Ok:=
 ⟨ok.mod,ok.kind,ok.glob,ok.blt,ok.above,ok.inj,ok.has,ok.cab,ok.hd,ok.frames,ok.stk,ok.exf,ok.bs,ok.bsz,ok.noex,ok.exfs,ok.funs,ok.frf⟩
section
variable {X:Cx}{qQ:List (Addr×Obj)}{σ:St}{H:Hp}{s:Shared}{E:EX}
theorem Inv.wish (I:Inv X qQ σ H s)(E:EX):Inv (X.wish E) qQ σ H s:=⟨I.ok.wish E,I.os,I.bare,I.base,I.loc,I.cell,I.free,I.freeC,I.pin,I.hok,I.len⟩
theorem Inv.unwish (I:Inv (X.wish E) qQ σ H s):Inv X qQ σ H s:=⟨I.ok.unwish,I.os,I.bare,I.base,I.loc,I.cell,I.free,I.freeC,I.pin,I.hok,I.len⟩
theorem SP.unwish {D:Zi}{f:Flow}{s':Shared}(h:SP (X.wish E) qQ D f s'):SP X qQ D f s':=by
 cases f with
 | next=>obtain ⟨j,H',I,q⟩:=h;exact ⟨j,H',I.unwish,q⟩
 | brk=>obtain ⟨j,H',I,q⟩:=h;exact ⟨j,H',I.unwish,q⟩
 | cont=>obtain ⟨j,H',I,q⟩:=h;exact ⟨j,H',I.unwish,q⟩
 | ret u=>obtain ⟨v,j,H',I,r,q⟩:=h;exact ⟨v,j,H',I.unwish,r,q⟩
theorem PSs.nox {st:List Stmt}{t:TS}(h:PSs X.nox st t):PSs X st t:=λqQ s σ H D I j=>
 Ybr (h qQ s σ H D (I.wish _) j) (λ_ _ q=>q.unwish) λ_ _ z=>False.elim z
end
section
variable {X:Cx}{st:Stmt}{rest:List Stmt}{t u:TS}{e:Expr}{te:TE}{pos:Pos}
noncomputable def JV:TS:=λD σ H=>D.nx σ H
noncomputable def Zgm (t u:TS):TS:=λD σ H=>t { D with nx:=u D } σ H
theorem GC:PSs X [] JV:=λ_ _ σ H _ I h=>wpAny_execs_nil ⟨σ,H,I,h⟩
theorem Ge (h1:PS X st t)(h2:PSs X rest u):PSs X (st::rest) (Zgm t u):=by
 intro qQ s σ H D I h;refine wpAny_execs_cons (thn (h1 qQ s σ H { D with nx:=u D } I h) λf j q=>?_);cases f with
 | next=>
  obtain ⟨B,H',L,q⟩:=q;exact h2 qQ j B H' D L q
 | ret v=>exact q
 | brk=>exact q
 | cont=>exact q
theorem Gi (h1:PS X st t):PSs X [st] t:=by
 intro qQ s σ H D I h;refine wpAny_execs_cons (thn (h1 qQ s σ H D I h) λf j q=>?_);cases f with
 | next=>exact wpAny_execs_nil q
 | ret v=>exact q
 | brk=>exact q
 | cont=>exact q
theorem Inv.quiet {qQ:List (Addr×Obj)}{σ:St}{H:Hp}{s:Shared}(I:Inv X qQ σ H s):interactive X.env=false:=by simp [interactive,I.ok.kind]
noncomputable def ZgN (te:TE):TS:=λD σ H=>te σ H λ_ H1=>D.nx σ H1
theorem Jn (j:PE X e te)(B:swapsWith e none pos.line X.env=pure false:=by rfl):PS X (.Expr e pos) (ZgN te):=by
 intro qQ s σ H D I h;exact wpAny_Expr_any (thG (j qQ s σ H _ I h) λv U x H1 L Y O=>⟨σ,H1,L,O⟩) I.quiet B
noncomputable def ZhY (te:TE):TS:=λD σ H=>te σ H D.rt
theorem Gv (j:PE X e te):PS X (.Return (some e) pos) (ZhY te):=by
 intro qQ s σ H D I h;exact wpAny_Return_some (thG (j qQ s σ H _ I h) λv U x H1 B L O=>⟨x,σ,H1,B,L,O⟩)
noncomputable def ZhD (c:TT)(t u:TS):TS:=λD σ H=>c σ H λb H1=>if b=true then t D σ H1 else u D σ H1
theorem Jl {c:Expr}{a b:List Stmt}{tc:TT}(O:PT X c tc)(ha:PSs X a t)(U:PSs X b u):PS X (.If c a b pos) (ZhD tc t u):=by
 intro qQ s σ H D I h;refine wpAny_If (thT (O qQ s σ H _ I h) λd j H1 B L=>?_);cases d with
 | true=>exact ha qQ j σ H1 D B L
 | false=>exact U qQ j σ H1 D B L
noncomputable def Zem:TS:=λ_ _ _=>False
theorem Zp {j:List Stmt}:PSs X j Zem:=λ_ _ _ _ _ _ h=>h.elim
end
noncomputable abbrev TG:=V->St->Hp->(St->Hp->Prop)->Prop
noncomputable abbrev TGs:=List V->St->Hp->(St->Hp->Prop)->Prop
noncomputable def PG (X:Cx)(qU:Expr)(t:TG):Prop:=
 ∀(qQ:List (Addr×Obj))(s:Shared)(σ:St)(H:Hp)(v:V)(u:Value)(Q:St->Hp->Prop),Inv X qQ σ H s->RelV v u->t v σ H Q ->
  wpAny (model X.prog X.w) X.A (assign qU X.env u) (λ_ s'=>∃ j H',Inv X qQ j H' s'/\Q j H') X.xe s
noncomputable def PGs (X:Cx)(ts:List Expr)(t:TGs):Prop:=
 ∀(qQ:List (Addr×Obj))(s:Shared)(σ:St)(H:Hp)(vs:List V)(us:List Value)(Q:St->Hp->Prop),Inv X qQ σ H s->Vals vs us->t vs σ H Q ->
  wpAny (model X.prog X.w) X.A (assignInOrder ((assignEach ts X.env).map (·.2)) us) (λ_ s'=>∃ j H',Inv X qQ j H' s'/\Q j H') X.xe s
noncomputable abbrev ZgO:=V->V->V->Hp->(Hp->Prop)->Prop
noncomputable def ZhE (X:Cx)(t:ZgO):Prop:=
 ∀(qQ:List (Addr×Obj))(s:Shared)(σ:St)(H:Hp)(o i v:V)(ov iv u:Value)(Q:Hp->Prop),Inv X qQ σ H s->RelV o ov->RelV i iv->RelV v u->t o i v H Q ->
  wpAny (model X.prog X.w) X.A (setItem ov iv u) (λ_ s'=>∃H',Inv X qQ σ H' s'/\Q H') X.xe s
section
variable {X:Cx}{pos:Pos}
noncomputable def GY (i:Nat):TG:=λv σ H Q=>Q (σ.set i (some v)) H
theorem Gn {i:Nat}{x:Str}(j:X.N.Nodup)(hi:X.N[i]?=some x)(B:Loc X.env.scope x)(D:X.fn x=true\/X.env.scope.names.lookup x=some .local:=by first | exact .inl rfl | exact .inr rfl | assumption):PG X (.Name x pos) (GY i):=by
 intro qQ s σ H v u Q I r h;exact wpAny_assign_Name (Up I j hi B r (λs' L=>⟨_,H,L,h⟩) D)
noncomputable def ZhZ:TGs:=λvs σ H Q=>vs=[]/\Q σ H
noncomputable def ZgP (t:TG)(u:TGs):TGs:=λvs σ H Q=>∃v r,vs=v::r/\t v σ H λj H'=>u r j H' Q
theorem UA:PGs X [] ZhZ:=by
 intro qQ s σ H vs us Q I r h;obtain ⟨e,h⟩:=h;subst e;cases r;exact assignInOrder_nil ⟨σ,H,I,h⟩
theorem Jb {e:Expr}{es:List Expr}{t:TG}{u:TGs}(h1:PG X e t)(h2:PGs X es u)(j:(assignEach (e::es) X.env).map (·.2)=assign e X.env::(assignEach es X.env).map (·.2):=by rfl):PGs X (e::es) (ZgP t u):=by
 intro qQ s σ H vs us Q I r h;obtain ⟨v,Y,B,h⟩:=h;subst B;cases r with
 | cons r rr=>
  rw [j];refine assignInOrder_cons (thn (h1 qQ s σ H _ _ _ I r h) λ_ D ⟨L,H1,O,U⟩=>?_);exact h2 qQ D L H1 _ _ Q O rr U
noncomputable def ZhF (K:W.Frag)(n:Nat)(t:TGs):TG:=λv σ H Q=>∃a xs,v=.ref a/\SqT K H a xs/\xs.length=n/\t xs σ H Q
theorem Zen {es:List Expr}{k:Nat}{t:TGs}{n:Nat}(L:X.calm=true)(h:PGs X es t)(O:(assignEach es X.env).length=n:=by rfl)(j:(assignEach es X.env).findIdx? (·.1)=none:=by rfl):PG X (.Tuple es k pos) (ZhF X.K n t):=by
 intro qQ s σ H v u Q I r B;obtain ⟨a,xs,U,Y,Z,B⟩:=B;subst U;cases r;obtain ⟨its,D,ht,hz⟩:=I.tuple Y;refine assign_Tuple_tuple (I.ok.hd L) ht (by simp [O,<-Z,D.length]) j λh' hx=>?_;have I1:Inv X qQ σ H { s with heap:=h' }:=I.kept (t':=s.toks) λb o e=>hx b o (Yay (Yal e)) e;exact h qQ _ σ H xs _ Q I1 (by simpa using D) B
noncomputable def Zh0 (to j:TE)(t:ZgO):TG:=λv σ H Q=>to σ H λo H1=>j σ H1 λi H2=>t o i v H2 λB=>Q σ B
theorem Zcz {o i:Expr}{to j:TE}{t:ZgO}(B:PE X o to)(hi:PE X i j)(D:ZhE X t)(ha:∀v,assign (.Subscript o i pos) X.env v=(do
   let ov <- holding [v] (eval o X.env)
   let iv <- holding [v,ov] (eval i X.env)
   standAt pos
   holding [v,ov,iv] (setItem ov iv v)
   release [v,ov,iv] []):=by intro _;rfl):PG X (.Subscript o i pos) (Zh0 to j t):=by
 intro qQ s σ H v u Q I r h;rw [ha];refine Yaa (Ydc (thG (B qQ s σ H _ I h) λov L x H1 O U Y=>?_));refine Yaa (Ydc (thG (hi qQ L σ H1 _ O Y) λiv Z y H2 I2 r2 q2=>?_));refine Yaa (wpAny_standAt (Yaa (Ydc (thT (D qQ Z σ H2 x y v ov iv u _ I2 U r2 r q2) λ_ s3 H3 I3 q3=>?_))));exact wpAny_release ⟨σ,H3,I3,q3⟩
noncomputable def ZgQ (te:TE)(g:TG):TS:=λD σ H=>te σ H λx H1=>g x σ H1 D.nx
theorem Ws {tg e:Expr}{te:TE}{g:TG}(j:PE X e te)(B:PG X tg g)(L:swapsWithSole [tg] e pos.line X.env=pure false:=by rfl)(O:swappedStores [tg] e X.env=pure none:=by rfl)(h1:(assignEach [tg] X.env).map (·.2)=[assign tg X.env]:=by rfl):PS X (.Assign [tg] e pos) (ZgQ te g):=by
 intro qQ s σ H D I h;refine wpAny_Assign_stores (thG (j qQ s σ H _ I h) λv U x H1 Y Z q1=>?_) L O;rw [h1];exact thn (B qQ U σ H1 x v _ Y Z q1) λ_ s2 q=>q
theorem Gp {i:Nat}{x:Str}{e:Expr}{te:TE}{pos':Pos}(j:X.N.Nodup)(hi:X.N[i]?=some x)(B:Loc X.env.scope x)(L:PE X e te)(O:swapsWith e (some (.Name x pos')) pos.line X.env=pure false:=by rfl)(U:X.fn x=true\/X.env.scope.names.lookup x=some .local:=by first | exact .inl rfl | exact .inr rfl | assumption) :
  PS X (.Assign [.Name x pos'] e pos) (ZgQ te (GY i)):=by
 intro qQ s σ H D I h;refine wpAny_Assign_Name (thG (L qQ s σ H _ I h) λv s1 y H1 Y Z q1=>?_) O;exact Up Y j hi B Z (λs2 I2=>⟨_,H1,I2,q1⟩) U
noncomputable def Zeo (c:TT)(tb:TS):TS:=λD σ H=>∃W:Nat->St->Hp->Prop,(∃m,W m σ H)/\∀m σ H,W m σ H ->
 c σ H λb H1=>if b=true then ∃N:St->Hp->Prop,(∀ j H',N j H'->∃B,B<m/\W B j H')/\tb { D with nx:=N,ct:=N,bk:=D.nx } σ H1 else D.nx σ H1
theorem Vs {c:Expr}{body:List Stmt}{tc:TT}{tb:TS}(hp:PassesOwn (model X.prog X.w) X.A X.env X.xe)(hc:PT X c tc)(hb:PSs X body tb):PS X (.While c body [] pos) (Zeo tc tb):=by
 intro qQ s σ H D I h;obtain ⟨W,⟨m0,w0⟩,j⟩:=h;refine wpAny_While (codeAny_whileLoop (λn s'=>∃ σ' H',Inv X qQ σ' H' s'/\W n σ' H') ?_ m0 ⟨σ,H,I,w0⟩);rintro n s1 ⟨O,H1,I1,w1⟩;refine Ydp hp (thT (hc qQ s1 O H1 _ I1 (j n O H1 w1)) λb s2 H2 I2 U=>?_);cases b with
 | true=>
  obtain ⟨N,hN,U⟩:=U;rw [if_pos rfl];refine Ydp hp (thn (hb qQ s2 O H2 _ I2 U) λf s3 Y=>?_);cases f with
  | next=>
   obtain ⟨B,L,Z,n3⟩:=Y;obtain ⟨m',hm,w3⟩:=hN B L n3;exact ⟨m',hm,B,L,Z,w3⟩
  | cont=>
   obtain ⟨B,L,Z,n3⟩:=Y;obtain ⟨m',hm,w3⟩:=hN B L n3;exact ⟨m',hm,B,L,Z,w3⟩
  | brk=>exact Y
  | ret v=>exact Y
 | false=>
  rw [if_neg Yas];exact wpAny_execs_nil ⟨O,H2,I2,U⟩
end
structure It where
 go:Nat->Hp->Prop
 yld:Nat->Hp->V->Hp->Prop
 stop:Nat->Hp->Prop
noncomputable def Za6 (X:Cx)(qQ:List (Addr×Obj))(H:Hp)(b:Addr):Prop:=
 H b=none/\b≠X.env.locals/\b ∉ X.fs/\(b∈X.ex\/X.s₀.heap.objs.size<=b)/\(∀x c,X.env.cells.lookup x=some c->c≠b)/\∀p∈X.pn++qQ,p.1≠b
theorem Inv.fpOk {X:Cx}{qQ:List (Addr×Obj)}{σ:St}{H H':Hp}{s:Shared}{b:Addr}(I:Inv X qQ σ H s)(j:s.heap.objs.size<=b)(B:H' b=none):Za6 X qQ H' b:=by
 refine ⟨B,Nat.ne_of_gt (Yax I.lt j),I.nofs j,.inr (Ycb I.sz j),λx c e z=>?_,λp D z=>?_⟩
 ·obtain ⟨v,q⟩:=I.cell x c e;exact absurd (Yax q.lt (by rw [z];exact j)) (Yce _)
 ·exact absurd (Yax (Yal (I.pin p D).1) (by rw [z];exact j)) (Yce _)
structure Zd8 (P:Program)(w:World)(K:W.Frag)(tg:Expr)(J:It)(fp:List Addr)(it:Addr)(tn:Nat->Heap->Prop):Prop where
 mem:it∈fp
 obj:∀i h,tn i h->∀b∈fp,∃o,h.get? b=some o/\∀v,o.data≠.cell v
 keep:∀i h h',tn i h->(∀b∈fp,∀o,h.get? b=some o->h'.get? b=some o)->tn i h'
 item:∀(X:Cx),X.prog=P->X.w=w->X.K=K->X.calm=true->∀(i:Nat)(qQ:List (Addr×Obj))(s:Shared)(σ:St)(H:Hp)(E:EX),Inv X qQ σ H s->(∀b∈fp,Za6 X qQ H b)->tn i s.heap->J.go i H ->
  wpAny (model P w) X.A (pyNext (.ref it)) (λr s1=>∃u,r=some u /\
   wpAny (model P w) X.A (letOwnedTupleGo tg (.ref it) u) (λ_ s2=>∃x H',Inv X qQ σ H' s2/\RelV x u/\J.yld i H x H'/\tn (i+1) s2.heap/\∀b∈fp,H' b=none) E s1) E s
 done:∀(X:Cx),X.prog=P->X.w=w->X.K=K->X.calm=true->∀(i:Nat)(qQ:List (Addr×Obj))(s:Shared)(σ:St)(H:Hp)(E:EX),Inv X qQ σ H s->(∀b∈fp,Za6 X qQ H b)->tn i s.heap->J.stop i H ->
  wpAny (model P w) X.A (pyNext (.ref it)) (λr s1=>r=none/\Inv X qQ σ H s1) E s
 self:∀(A:Around)(i:Nat)(s:Shared)(Q:EX)(E:EX),tn i s.heap->Q (.ref it) s->wpAny (model P w) A (pyIter (.ref it)) Q E s
noncomputable abbrev TI:=St->Hp->(It->Hp->Prop)->Prop
noncomputable def PIE (X:Cx)(qQ:List (Addr×Obj))(σ:St)(tg:Expr)(R:It->Hp->Prop)(j:Value)(B:Shared):Prop:=
 ∃(D:Addr)(fp:List Addr)(tn:Nat->Heap->Prop)(J:It)(H':Hp),j=.ref D/\Inv X qQ σ H' B/\Zd8 X.prog X.w X.K tg J fp D tn/\tn 0 B.heap/\(∀b∈fp,Za6 X qQ H' b)/\R J H'
noncomputable def PI (X:Cx)(tg iter:Expr)(wi:TI):Prop:=
 ∀(qQ:List (Addr×Obj))(s:Shared)(σ:St)(H:Hp)(R:It->Hp->Prop),Inv X qQ σ H s->wi σ H R ->
  wpAny (model X.prog X.w) X.A (eval iter X.env) (λv j=>wpAny (model X.prog X.w) X.A (pyIter v) (PIE X qQ σ tg R) X.xe j) X.xe s
theorem ZcZ {M:Model}{A:Around}{E:EX}{s:Shared}{tg:Expr}{B:Addr}{u:Value}{o:Obj}{n:String}{vs:Array Value}{Q:Unit->Shared->Prop}(D:s.heap.get? B=some o)(L:o.cls=.type n)(O:o.data=.fields vs)(U:["enumerate", "zip", "dict_itemiterator", "dict_reverseitemiterator", "odict_iterator", "itertools.zip_longest", "itertools.pairwise"].contains n=false)(j:Q () s):wpAny M A (letOwnedTupleGo tg (.ref B) u) Q E s:=by
 unfold letOwnedTupleGo;cases tg <;> first
  | exact Yaf j
  | (cases u <;> first
    | exact Yaf j
    | (refine Yaa (wpAny_load D ?_)
       rw [L,O];show wpAny M A (if (["enumerate", "zip", "dict_itemiterator", "dict_reverseitemiterator", "odict_iterator", "itertools.zip_longest", "itertools.pairwise"].contains n && vs[0]? == some (rawInt _))=true then _ else _) Q E s;rw [if_neg (by intro h;rw [U,Bool.false_and] at h;cases h)];exact Yaf j))
noncomputable def Itl (K:W.Frag)(a:Addr):It:=
 ⟨λi H=>∃xs x,SqL K H a xs/\xs[i]?=some x,λi H x H'=>H'=H/\∀xs,SqL K H a xs->xs[i]?=some x,λi H=>∃xs,SqL K H a xs/\xs.length<=i⟩
noncomputable def Itr (lo:Int)(n:Nat):It:=⟨λi _=>i<n,λi H x H'=>H'=H/\x=.int (lo+i),λi _=>n<=i⟩
theorem Zq {P:Program}{w:World}{K:W.Frag}{tg:Expr}(a it:Addr):Zd8 P w K tg (Itl K a) [it] it (λi h=>h.IsListIter it a i) where
 mem:=by simp
 obj:=λi h st b hb=>by
  have e:b=it:=by simpa using hb
  subst e;obtain ⟨o,e,c,d⟩:=st;exact ⟨o,e,λv z=>by rw [d] at z;cases z⟩
 keep:=λi h h' st k=>st.at λo e=>k it (by simp) o e
 item:=by
  intro X hP hw hK hc i qQ s σ H E I hf st hg;subst hP hw hK;obtain ⟨xs,x,hq,hx⟩:=hg;obtain ⟨its,rv,p,hz⟩:=I.list hq;obtain ⟨u,hu,ru⟩:=rv.get hx;obtain ⟨f0,f1,f2,f3,f4,f5⟩:=hf it (by simp);refine wpAny_pyNext_list_item st p.isList (x:=u) (by simpa using hu) λh' st' sb=>?_;have I1:Inv X qQ σ H { s with heap:=h' }:=I.turned (t':=s.toks) (λb o hb e=>(sb.2 b hb).trans e) f0 f1 f3 f4 f5;obtain ⟨o,e,c,d⟩:=id st';exact ⟨u,rfl,ZcZ (s:={ s with heap:=h' }) e c d (by decide) ⟨x,H,I1,ru,⟨rfl,λys hy=>by rw [I.list_inj hy hq];exact hx⟩,st',λb hb=>(hf b hb).1⟩⟩
 done:=by
  intro X hP hw hK hc i qQ s σ H E I hf st hg;subst hP hw hK;obtain ⟨xs,hq,hx⟩:=hg;obtain ⟨its,rv,p,hz⟩:=I.list hq;obtain ⟨f0,f1,f2,f3,f4,f5⟩:=hf it (by simp);have hl:=rv.length;exact wpAny_pyNext_list_end (I.ok.hd hc) st p.isList (by simp;lia) λh' eb=>⟨rfl,I.turned (t':=s.toks) (λb o hb e=>eb b o hb e) f0 f1 f3 f4 f5⟩
 self:=λ_ _ _ _ _ st h=>wpAny_pyIter_listiter st h
theorem YE {P:Program}{w:World}{K:PySem.W.Frag}{tg:Expr}(it:Addr)(lo:Int)(n:Nat):Zd8 P w K tg (Itr lo n) [it] it (λi h=>IsRangeIter h it (lo+(i:Nat) * 1) ((n:Int)-(i:Nat)) 1) where
 mem:=by simp
 obj:=λi h st b hb=>by
  have e:b=it:=by simpa using hb
  subst e;exact ⟨_,st,λv z=>by
   have z':Data.fields _=Data.cell v:=z;cases z'⟩
 keep:=λi h h' st k=>k it (by simp) _ st
 item:=by
  intro X hP hw hK hc i qQ s σ H E I hf st hg;subst hP hw hK;obtain ⟨f0,f1,f2,f3,f4,f5⟩:=hf it (by simp);have W:=Walks.range (prog:=X.prog) (w:=X.w) (I.ok.hd hc) it lo 1 n;refine W.item i s _ _ hg st λv h' tk hv st' kk=>?_;obtain ⟨t,rfl⟩:=hv;have I1:Inv X qQ σ H { s with heap:=h',toks:=tk }:=I.turned (λb o hb e=>kk b o (by simpa using hb) e) f0 f1 f3 f4 f5;refine ⟨_,rfl,ZcZ (s:={ s with heap:=h',toks:=tk }) (n := "range_iterator") st' rfl rfl (by decide) ⟨.int (lo+i),H,I1,⟨t,?_⟩,⟨rfl,rfl⟩,st',λb hb=>(hf b hb).1⟩⟩;rw [Int.mul_one]
 done:=by
  intro X hP hw hK hc i qQ s σ H E I hf st hg;subst hP hw hK;obtain ⟨f0,f1,f2,f3,f4,f5⟩:=hf it (by simp);exact wpAny_pyNext_range_end (I.ok.hd hc) st (by have:n<=i:=hg;lia) λh' eb=>⟨rfl,I.turned (t':=s.toks) (λb o hb e=>eb b o hb e) f0 f1 f3 f4 f5⟩
 self:=λ_ _ _ _ _ st h=>wpAny_pyIter_rangeiter st h
section
variable {X:Cx}{tg:Expr}
noncomputable def Zep (K:W.Frag)(tl:TE):TI:=λσ H R=>tl σ H λx H1=>∃a,x=.ref a/\(∃xs,SqL K H1 a xs)/\R (Itl K a) H1
theorem Zc0 {l:Expr}{tl:TE}(D:PE X l tl):PI X tg l (Zep X.K tl):=by
 intro qQ s σ H R I h;refine thG (D qQ s σ H _ I h) λv j x H1 B L O=>?_;obtain ⟨a,e,⟨xs,U⟩,q⟩:=O;subst e;cases L;obtain ⟨its,Z,p,hz⟩:=B.list U;refine wpAny_pyIter_list p.isList ?_;refine ⟨j.heap.objs.size,[j.heap.objs.size],_,_,H1,rfl,B.kept (t':=j.toks) λb o e=>Yao _ e,Zq a _,⟨_,Ybl _ rfl,rfl,rfl⟩,λb Y=>?_,q⟩;have e:b=j.heap.objs.size:=by simpa using Y
 subst e;exact B.fpOk (Yad _) (B.hok.fresh (Yad _))
theorem Zbj {qQ:List (Addr×Obj)}{σ:St}{H:Hp}{s:Shared}{R:It->Hp->Prop}{E:EX}{lo hi:Int}{t u v:Tok}{tk:Nat}(I:Inv X qQ σ H s)(h1:-(2 ^ 62)<=lo)(h2:lo<2 ^ 62)(B:-(2 ^ 62)<=hi)(D:hi<2 ^ 62)(q:R (Itr lo (hi-lo).toNat) H):wpAny (model X.prog X.w) X.A (pyIter (.ref s.heap.objs.size)) (PIE X qQ σ tg R) E { s with heap:=s.heap.push { cls:=.type "range", data:=.fields #[.int lo t,.int hi u,.int 1 v] },toks:=tk }:=by
 refine wpAny_pyIter_range (IsRange.new ..) (small_one h1 h2 B D) ?_;have j:Inv X qQ σ H { s with heap:=s.heap.push { cls:=.type "range", data:=.fields #[.int lo t,.int hi u,.int 1 v] },toks:=tk }:=I.kept λb o e=>Yao _ e;refine ⟨(s.heap.push { cls:=.type "range", data:=.fields #[.int lo t,.int hi u,.int 1 v] }).objs.size,[(s.heap.push { cls:=.type "range", data:=.fields #[.int lo t,.int hi u,.int 1 v] }).objs.size],_,_,H,rfl,
  j.kept (t':=tk) λb o e=>Yao _ e,YE _ lo (hi-lo).toNat,?_,λb L=>?_,q⟩
 ·have O:lo+((0:Nat):Int) * 1=lo:=by simp
  have U:(((hi-lo).toNat:Nat):Int)-((0:Nat):Int)=Builtin.Range.rangeSize lo hi 1:=by rw [rangeSize_one];split <;> lia
  show IsRangeIter _ _ (lo+((0:Nat):Int) * 1) ((((hi-lo).toNat:Nat):Int)-((0:Nat):Int)) 1;rw [O,U];exact Ybl _ rfl
 ·have e:b=(s.heap.push { cls:=.type "range", data:=.fields #[.int lo t,.int hi u,.int 1 v] }).objs.size:=by simpa using L
  subst e;exact j.fpOk (Yad _) (j.hok.fresh (Yad _))
noncomputable def ZgR (ta:TA):TI:=λσ H R=>ta σ H λvs H1=>∃j:Int,vs=[.int j]/\-(2 ^ 62)<=j/\j<2 ^ 62/\R (Itr 0 j.toNat) H1
theorem Jt {a:Expr}{ta:TA}{p pos:Pos}(D:Gl X "range")(L:X.mg "range" = none)(ha:PA X [a] ta)(O:starEach [a] X.env=[(false,eval a X.env)]:=by rfl):PI X tg (.Call (.Name "range" p) [a] [] pos) (ZgR ta):=by
 intro qQ s σ H R I h;refine Call_ (U6 I D L boot_range (PyProof.Rows.callWith_type1 (thG (ha pos qQ s σ H _ I h) λus s1 vs H1 U Y B=>?_) O rfl));obtain ⟨j,e,B,Z,q⟩:=B;subst e;cases Y with
 | cons r rr=>
  cases rr;obtain ⟨t,rfl⟩:=r;exact call_range_1 (Zbj U (by lia) (by lia) B Z (by simpa using q))
noncomputable def Zh1 (wi:TI)(g:TG)(tb:TS):TS:=λD σ H=>wi σ H λJ H1=>∃W:Nat->Nat->St->Hp->Prop,(∃m,W 0 m σ H1)/\∀i m σ H,W i m σ H ->
 (J.stop i H/\D.nx σ H)\/(J.go i H/\∃N:St->Hp->Prop,(∀ j H',N j H'->∃B,B<m/\W (i+1) B j H')/\∀x H',J.yld i H x H'->g x σ H' λL H2=>tb { D with nx:=N,ct:=N,bk:=D.nx } L H2)
noncomputable def Wv (fp:List Addr)(h:Heap):List (Addr×Obj):=fp.filterMap λb=>(h.get? b).map λo=>(b,o)
theorem Oi {fp:List Addr}{h:Heap}{b:Addr}{o:Obj}(j:b∈fp)(e:h.get? b=some o):(b,o)∈Wv fp h:=Ydj.mpr ⟨b,j,by rw [e];rfl⟩
theorem Zr {fp:List Addr}{h:Heap}{p:Addr×Obj}(j:p∈Wv fp h):p.1∈fp/\h.get? p.1=some p.2:=by
 obtain ⟨b,B,e⟩:=Ydj.mp j;cases q:h.get? b with
 | none=>rw [q] at e;cases e
 | some o=>
  rw [q] at e;have D:(b,o)=p:=Ybo e;subst D;exact ⟨B,q⟩
theorem Inv.pinned {qQ:List (Addr×Obj)}{σ:St}{H:Hp}{s:Shared}{fp:List Addr}(I:Inv X qQ σ H s)(D:∀b∈fp,Za6 X qQ H b)(L:∀b∈fp,∃o,s.heap.get? b=some o/\∀v,o.data≠.cell v):Inv X (qQ++Wv fp s.heap) σ H s:=
 I.pins_of λp O=>(Yah.mp O).elim (λz=>I.pin p (Ycc _ z)) λz=>by
  obtain ⟨j,e⟩:=Zr z;obtain ⟨U,Y,Z,_⟩:=D p.1 j;obtain ⟨o,B,d⟩:=L p.1 j;rw [e] at B;cases B;exact ⟨e,U,Y,Z,d⟩
theorem Inv.unpinned {qQ pl:List (Addr×Obj)}{σ:St}{H:Hp}{s:Shared}(I:Inv X (qQ++pl) σ H s):Inv X qQ σ H s:=I.pins_of λp j=>I.pin p (Ycc _ (Ydb _ j))
theorem JK {iter:Expr}{body:List Stmt}{wi:TI}{g:TG}{tb:TS}{pos:Pos}(hp:PassesOwn (model X.prog X.w) X.A X.env X.xe)(hc:X.calm=true)(hi:PI X tg iter wi)(hg:PG X tg g)(j:PSs X body tb)(hs:∀x,foldedSetIterable iter X.env x=pure x:=by intro _;rfl):PS X (.For tg iter body [] pos) (Zh1 wi g tb):=by
 intro qQ s σ H D I h;refine wpAny_For (thn (hi qQ s σ H _ I h) λv s1 h1=>thn h1 λaj s2 h2=>?_) hs;obtain ⟨it,fp,tn,J,H2,e,I2,T,ag,f2,W,⟨m0,w0⟩,ab⟩:=h2;subst e;have B:∀{H':Hp},(∀b∈fp,H' b=none)->∀b∈fp,Za6 X qQ H' b:=λhn b j=>⟨hn b j,(f2 b j).2⟩;refine codeAny_forLoop_any (λn s'=>∃i σ' H',Inv X qQ σ' H' s'/\tn i s'.heap/\(∀b∈fp,H' b=none)/\W i n σ' H') ?_ m0 ⟨0,σ,H2,I2,ag,λb j=>(f2 b j).1,w0⟩;rintro n s3 ⟨i,σ3,H3,I3,ac,ad,w3⟩;rcases ab i n σ3 H3 w3 with ⟨ae,qn⟩ | ⟨go,N,hN,step⟩
 ·refine Ydp hp (thn (T.done X rfl rfl rfl hc i qQ s3 σ3 H3 X.xe I3 (B ad) ac ae) λr s4 ⟨hr,I4⟩=>?_);subst hr;exact wpAny_execs_nil ⟨σ3,H3,I4,qn⟩
 ·refine Ydp hp (thn (T.item X rfl rfl rfl hc i qQ s3 σ3 H3 X.xe I3 (B ad) ac go) λr s4 ⟨u,hr,h4⟩=>?_);subst hr;refine Ydp hp (thn h4 λ_ s5 ⟨x,H5,I5,r5,y5,aa,ah⟩=>?_);have ai:=I5.pinned (B ah) (T.obj _ _ aa);refine Ydp hp (thn (hg _ s5 σ3 H5 x u _ ai r5 (step x H5 y5)) λ_ s6 ⟨σ6,H6,I6,q6⟩=>?_);refine Ydp hp (thn (j _ s6 σ6 H6 _ I6 q6) λf s7 Z=>?_);have L:∀{O:St}{U:Hp},Inv X (qQ++Wv fp s5.heap) O U s7->N O U->∃m,m<n/\∃i σ' H',Inv X qQ σ' H' s7/\tn i s7.heap/\(∀b∈fp,H' b=none)/\W i m σ' H':=λ{O U} Y n7=>by
   obtain ⟨m',hm,w7⟩:=hN O U n7;refine ⟨m',hm,i+1,O,U,Y.unpinned,T.keep _ _ _ aa λb j o e=>(Y.pin (b,o) (Ycc _ (Ycc _ (Oi j e)))).1,λb j=>?_,w7⟩;obtain ⟨o,e,d⟩:=T.obj _ _ aa b j;exact (Y.pin (b,o) (Ycc _ (Ycc _ (Oi j e)))).2.1
  cases f with
  | next=>obtain ⟨O,U,Y,n7⟩:=Z;exact L Y n7
  | cont=>obtain ⟨O,U,Y,n7⟩:=Z;exact L Y n7
  | brk=>obtain ⟨O,U,Y,Z⟩:=Z;exact ⟨O,U,Y.unpinned,Z⟩
  | ret v=>obtain ⟨x7,O,U,Y,r7,Z⟩:=Z;exact ⟨x7,O,U,Y.unpinned,r7,Z⟩
end
noncomputable abbrev Zs (J:It)(g:TG)(tb:TS)(D:Zi)(σ:St)(H:Hp):Prop:=∃W:Nat->Nat->St->Hp->Prop,(∃m,W 0 m σ H)/\∀i m σ H,W i m σ H ->
   (J.stop i H/\D.nx σ H)\/(J.go i H/\∃N:St->Hp->Prop,(∀ j H',N j H'->∃B,B<m/\W (i+1) B j H')/\∀x H',J.yld i H x H'->g x σ H' λL H2=>tb { D with nx:=N,ct:=N,bk:=D.nx } L H2)
theorem Vt {J:It}{n:Nat}{g:TG}{tb:TS}{D:Zi}{σ:St}{H:Hp}(j:Nat->St->Hp->Prop)(h0:j 0 σ H)(L:∀i σ H,i<=n->j i σ H->(i<n->J.go i H)/\(i=n->J.stop i H))(O:∀i σ H x H',i<n->j i σ H->J.yld i H x H'->g x σ H' λU H2=>tb { D with nx:=j (i+1),ct:=j (i+1),bk:=D.nx } U H2)(Y:∀ σ H,j n σ H->D.nx σ H):Zs J g tb D σ H:=by
 refine ⟨λi m σ H=>m=n-i/\i<=n/\j i σ H,⟨_,rfl,Yan _,h0⟩,?_⟩;rintro i m σ H ⟨rfl,hi,p⟩;have q:=L i σ H hi p;by_cases B:i<n
 ·exact .inr ⟨q.1 B,j (i+1),λσ' H' Z=>⟨n-(i+1),by lia,rfl,B,Z⟩,λx H' y=>O i σ H x H' B p y⟩
 ·have e:i=n:=by lia
  subst e;exact .inl ⟨q.2 rfl,Y σ H p⟩
theorem JW {K:W.Frag}{a:Addr}{xs:List V}{g:TG}{tb:TS}{D:Zi}{σ:St}{H:Hp}(j:Nat->St->Hp->Prop)(h0:j 0 σ H)(B:∀i σ H,i<=xs.length->j i σ H->SqL K H a xs)(L:∀i x σ H,xs[i]?=some x->j i σ H->g x σ H λO H2=>tb { D with nx:=j (i+1),ct:=j (i+1),bk:=D.nx } O H2)(U:∀ σ H,j xs.length σ H->D.nx σ H) :
  Zs (Itl K a) g tb D σ H:=Vt j h0 (λi s H hi p=>⟨λz=>⟨xs,xs[i],B i s H hi p,by simp [z]⟩,λe=>⟨xs,B i s H hi p,by lia⟩⟩) (λi s H x H' z p y=>by obtain ⟨rfl,y⟩:=y;exact L i x s _ (y xs (B i s _ (Ycs z) p)) p) U
theorem Ob {lo:Int}{n:Nat}{g:TG}{tb:TS}{D:Zi}{σ:St}{H:Hp}(j:Nat->St->Hp->Prop)(h0:j 0 σ H)(B:∀i σ H,i<n->j i σ H->g (.int (lo+i)) σ H λL H2=>tb { D with nx:=j (i+1),ct:=j (i+1),bk:=D.nx } L H2)(O:∀ σ H,j n σ H->D.nx σ H) :
  Zs (Itr lo n) g tb D σ H:=Vt j h0 (λi s H hi p=>⟨id,λe=>Nat.le_of_eq e.symm⟩) (λi s H x H' z p y=>by obtain ⟨rfl,rfl⟩:=y;exact B i s _ z p) O
noncomputable abbrev R2:=V->V->Hp->VK->Prop
noncomputable def OpR (X:Cx)(f:Value->Value->Sem Value)(r:R2):Prop:=
 ∀(qQ:List (Addr×Obj))(s:Shared)(σ:St)(H:Hp)(x y:V)(v u:Value)(Q:VK),Inv X qQ σ H s->RelV x v->RelV y u->r x y H Q ->
  wpAny (model X.prog X.w) X.A (f v u) (EP X qQ σ Q) X.xe s
noncomputable def UnR (X:Cx)(f:Value->Sem Value)(r:V->Hp->VK->Prop):Prop:=
 ∀(qQ:List (Addr×Obj))(s:Shared)(σ:St)(H:Hp)(x:V)(v:Value)(Q:VK),Inv X qQ σ H s->RelV x v->r x H Q ->
  wpAny (model X.prog X.w) X.A (f v) (EP X qQ σ Q) X.xe s
noncomputable def J6 (X:Cx)(f:Value)(r:List V->Hp->VK->Prop):Prop:=
 ∀(qQ:List (Addr×Obj))(s:Shared)(σ:St)(H:Hp)(xs:List V)(us:List Value)(Q:VK),Inv X qQ σ H s->Vals xs us->r xs H Q ->
  wpAny (model X.prog X.w) X.A (call f us) (EP X qQ σ Q) X.xe s
noncomputable def Zh2 (X:Cx)(r:V->Hp->(Bool->Hp->Prop)->Prop):Prop:=
 ∀(qQ:List (Addr×Obj))(s:Shared)(σ:St)(H:Hp)(x:V)(v:Value)(Q:Bool->Hp->Prop),Inv X qQ σ H s->RelV x v->r x H Q ->
  wpAny (model X.prog X.w) X.A (truthy v) (TP X qQ σ Q) X.xe s
noncomputable def tOp (r:R2)(ta tb:TE):TE:=λσ H Q=>ta σ H λx H1=>tb σ H1 λy H2=>r x y H2 Q
noncomputable def tUn (r:V->Hp->VK->Prop)(ta:TE):TE:=λσ H Q=>ta σ H λx H1=>r x H1 Q
noncomputable def rI (C:Int->Int->Prop)(g:Int->Int->V):R2:=λx y H Q=>∃i j,x=.int i/\y=.int j/\C i j/\Q (g i j) H
noncomputable def rI0 (g:Int->Int->V):R2:=λx y H Q=>∃i j,x=.int i/\y=.int j/\Q (g i j) H
noncomputable def rU (g:Int->V):V->Hp->VK->Prop:=λx H Q=>∃i,x=.int i/\Q (g i) H
section
variable {X:Cx}{a b c:Expr}{ta tb tc:TE}{pos:Pos}
theorem ZgS (ha:PE X a ta)(B:PE X b tb){qQ:List (Addr×Obj)}{s:Shared}{σ:St}{H:Hp}{R:V->V->Hp->Prop}(I:Inv X qQ σ H s)(h:ta σ H λx H1=>tb σ H1 λy H2=>R x y H2){Q:EX}{f:Value->Value->Sem Value}(D:∀v u j x y H2,Inv X qQ σ H2 j->RelV x v->RelV y u->R x y H2->wpAny (model X.prog X.w) X.A (f v u) Q X.xe j) :
  wpAny (model X.prog X.w) X.A (eval a X.env) (λv L=>wpAny (model X.prog X.w) X.A (eval b X.env) (λu O=>wpAny (model X.prog X.w) X.A (f v u) Q X.xe O) X.xe L) X.xe s:=by
 refine thG (ha qQ s σ H _ I h) λv U x H1 Y Z q1=>?_;refine thG (B qQ U σ H1 _ Y q1) λu j y H2 I2 r2 q2=>?_;exact D v u j x y H2 I2 Z r2 q2
theorem GW {j:Operator}{r:R2}(B:OpR X (binaryOp j) r)(ha:PE X a ta)(D:PE X b tb):PE X (.BinOp a j b pos) (tOp r ta tb):=by
 intro qQ s σ H Q I h;exact wpAny_BinOp (ZgS ha D I h λv u L x y H2 O U Y q=>B qQ L σ H2 x y v u Q O U Y q)
theorem ZgT {j:UnaryOp}{r:V->Hp->VK->Prop}(B:UnR X (unaryOp j) r)(ha:PE X a ta):PE X (.UnaryOp j a pos) (tUn r ta):=by
 intro qQ s σ H Q I h;exact UnaryOp_ (thG (ha qQ s σ H _ I h) λv D x H1 L O U=>B qQ D σ H1 x v Q L O U)
theorem opI {f:Value->Value->Sem Value}{C:Int->Int->Prop}{g:Int->Int->Int}(B:∀(i j:Int)(t u:Tok)(s:Shared)(Q:EX)(E:EX),C i j->Q (.int (g i j) s.toks) { s with toks:=s.toks+1 }->wpAny (model X.prog X.w) X.A (f (.int i t) (.int j u)) Q E s) :
  OpR X f (rI C λi j=>.int (g i j)):=by
 intro qQ s σ H x y v u Q I D L h;obtain ⟨i,j,rfl,rfl,O,q⟩:=h;obtain ⟨t,rfl⟩:=D;obtain ⟨U,rfl⟩:=L;exact B i j t U s _ _ O ⟨.int (g i j),H,I.tok _,⟨_,rfl⟩,q⟩
theorem ZhG {f:Value->Value->Sem Value}{g:Int->Int->Int}(B:∀(i j:Int)(t u:Tok)(s:Shared)(Q:EX)(E:EX),Q (.int (g i j) s.toks) { s with toks:=s.toks+1 }->wpAny (model X.prog X.w) X.A (f (.int i t) (.int j u)) Q E s) :
  OpR X f (rI0 λi j=>.int (g i j)):=by
 intro qQ s σ H x y v u Q I D L h;obtain ⟨i,j,rfl,rfl,q⟩:=h;obtain ⟨t,rfl⟩:=D;obtain ⟨O,rfl⟩:=L;exact B i j t O s _ _ ⟨.int (g i j),H,I.tok _,⟨_,rfl⟩,q⟩
theorem ZgU {f:Value->Value->Sem Value}{g:Int->Int->Bool}(B:∀(i j:Int)(t u:Tok)(s:Shared)(Q:EX)(E:EX),Q (.bool (g i j)) s->wpAny (model X.prog X.w) X.A (f (.int i t) (.int j u)) Q E s) :
  OpR X f (rI0 λi j=>.bl (g i j)):=by
 intro qQ s σ H x y v u Q I D L h;obtain ⟨i,j,rfl,rfl,q⟩:=h;obtain ⟨t,rfl⟩:=D;obtain ⟨O,rfl⟩:=L;exact B i j t O s _ _ ⟨.bl (g i j),H,I,rfl,q⟩
noncomputable def Zh3 (i j:Int):Prop:=0<=j/\j<=1000000/\i.natAbs<2 ^ 64
noncomputable def CMul (i j:Int):Prop:=(-(2 ^ 64)<i/\i<2 ^ 64)\/(-(2 ^ 64)<j/\j<2 ^ 64)
theorem CMul.ok {i j:Int}(h:CMul i j):IntMulOk i j:=by
 rcases h with ⟨h1,h2⟩ | ⟨h1,h2⟩
 ·exact .of_left (intBits_le_64 h1 h2)
 ·exact .of_right (intBits_le_64 h1 h2)
theorem JF:OpR X (binaryOp .Add) (rI0 λi j=>.int (i+j)):=ZhG λ_ _ _ _ _ _ _ q=>add_int q
theorem WA:OpR X (binaryOp .Sub) (rI0 λi j=>.int (i-j)):=ZhG λ_ _ _ _ _ _ _ q=>sub_int q
theorem Ud:OpR X (binaryOp .Mult) (rI CMul λi j=>.int (i * j)):=opI λ_ _ _ _ _ _ _ B q=>mul_int q B.ok
theorem WB:OpR X (binaryOp .Mod) (rI (λ_ j=>0<j) λi j=>.int (i % j)):=opI λi j _ _ _ _ _ B q=>by
 have h1:(0:Int)<j:=B;exact mod_int' (by lia) (by rw [Int.fmod_eq_emod_of_nonneg i (by lia)];exact q)
theorem ZcA:OpR X (binaryOp .Pow) (rI Zh3 λi j=>.int (i ^ j.toNat)):=opI λ_ _ _ _ _ _ _ B q=>pow_int_small B.1 B.2.1 B.2.2 q
noncomputable def ZhH:V->V->Bool
 | .non,.non=>true | .non,.int _=>true | .int _,.non=>true | .non,.bl _=>true | .bl _,.non=>true | .non,.str _=>true | .str _,.non=>true
 | .int _,.int _=>true | .bl _,.bl _=>true | .str _,.str _=>true | .byt _,.byt _=>true
 | .int _,.str _=>true | .str _,.int _=>true | .bl _,.str _=>true | .str _,.bl _=>true
 | _,_=>false
noncomputable def rEq:R2:=λx y H Q=>ZhH x y=true/\Q (.bl (decide (x=y))) H
noncomputable def rNe:R2:=λx y H Q=>ZhH x y=true/\Q (.bl (!decide (x=y))) H
theorem Zt {i j:Int}:decide (V.int i=V.int j)=(i == j):=by
 rw [Bool.eq_iff_iff];simp
theorem ZcB {i j:Bool}:decide (V.bl i=V.bl j)=(i == j):=by
 rw [Bool.eq_iff_iff];simp
theorem Zu {i j:Str}:decide (V.str i=V.str j)=(i == j):=by
 rw [Bool.eq_iff_iff];simp
theorem Zv {i j:Array UInt8}:decide (V.byt i=V.byt j)=(i.toList == j.toList):=by
 rw [Bool.eq_iff_iff];cases i;cases j;simp
theorem GL {qQ:List (Addr×Obj)}{σ:St}{H:Hp}{s:Shared}{Q:VK}{k j:Bool}(I:Inv X qQ σ H s)(q:Q (.bl k) H)(e:k=j):EP X qQ σ Q (.bool j) s:=by
 subst e;exact ⟨.bl k,H,I,rfl,q⟩
theorem U2:OpR X (compareOp .Eq) rEq:=by
 intro qQ s σ H x y v u Q I O B h;obtain ⟨L,q⟩:=h;cases x with
 | non=>
  cases O;cases y with
  | non=>cases B;exact PySem.EqNone.eq_none_none (GL I q (by simp))
  | bl j=>cases B;exact PySem.EqNone.eq_none_bool (GL I q (by simp))
  | int j=>obtain ⟨D,rfl⟩:=B;exact PySem.EqNone.eq_none_int (GL I q (by simp))
  | str j=>obtain ⟨D,rfl⟩:=B;exact PySem.EqNone.eq_none_str (GL I q (by simp))
  | _=>exact absurd (show false=true from L) Yas
 | bl i=>
  cases O;cases y with
  | non=>cases B;exact PySem.EqNone.eq_bool_none (GL I q (by simp))
  | bl j=>cases B;exact eq_bool (GL I q ZcB)
  | str j=>obtain ⟨D,rfl⟩:=B;exact PySem.EqMixed.eq_bool_str (GL I q (by simp))
  | _=>exact absurd (show false=true from L) Yas
 | int i=>
  obtain ⟨t,rfl⟩:=O;cases y with
  | non=>cases B;exact PySem.EqNone.eq_int_none (GL I q (by simp))
  | int j=>obtain ⟨D,rfl⟩:=B;exact eq_int (GL I q Zt)
  | str j=>obtain ⟨D,rfl⟩:=B;exact PySem.EqMixed.eq_int_str (GL I q (by simp))
  | _=>exact absurd (show false=true from L) Yas
 | str i=>
  obtain ⟨t,rfl⟩:=O;cases y with
  | non=>cases B;exact PySem.EqNone.eq_str_none (GL I q (by simp))
  | bl j=>cases B;exact PySem.EqMixed.eq_str_bool (GL I q (by simp))
  | int j=>obtain ⟨D,rfl⟩:=B;exact PySem.EqMixed.eq_str_int (GL I q (by simp))
  | str j=>obtain ⟨D,rfl⟩:=B;exact eq_str (GL I q Zu)
  | _=>exact absurd (show false=true from L) Yas
 | byt i=>
  obtain ⟨t,rfl⟩:=O;cases y with
  | byt j=>obtain ⟨D,rfl⟩:=B;exact W.eq_bytes (GL I q Zv)
  | _=>exact absurd (show false=true from L) Yas
 | _=>cases y <;> exact absurd (show false=true from L) Yas
theorem Zeq:OpR X (compareOp .NotEq) rNe:=by
 intro qQ s σ H x y v u Q I O B h;obtain ⟨L,q⟩:=h;cases x with
 | non=>
  cases O;cases y with
  | non=>cases B;exact PySem.EqNone.ne_none_none (GL I q (by simp))
  | bl j=>cases B;exact PySem.EqNone.ne_none_bool (GL I q (by simp))
  | int j=>obtain ⟨D,rfl⟩:=B;exact PySem.EqNone.ne_none_int (GL I q (by simp))
  | str j=>obtain ⟨D,rfl⟩:=B;exact PySem.EqNone.ne_none_str (GL I q (by simp))
  | _=>exact absurd (show false=true from L) Yas
 | bl i=>
  cases O;cases y with
  | non=>cases B;exact PySem.EqNone.ne_bool_none (GL I q (by simp))
  | bl j=>cases B;exact ne_bool (GL I q (Ybi not ZcB))
  | str j=>obtain ⟨D,rfl⟩:=B;exact PySem.EqMixed.ne_bool_str (GL I q (by simp))
  | _=>exact absurd (show false=true from L) Yas
 | int i=>
  obtain ⟨t,rfl⟩:=O;cases y with
  | non=>cases B;exact PySem.EqNone.ne_int_none (GL I q (by simp))
  | int j=>obtain ⟨D,rfl⟩:=B;exact ne_int (GL I q (Ybi not Zt))
  | str j=>obtain ⟨D,rfl⟩:=B;exact PySem.EqMixed.ne_int_str (GL I q (by simp))
  | _=>exact absurd (show false=true from L) Yas
 | str i=>
  obtain ⟨t,rfl⟩:=O;cases y with
  | non=>cases B;exact PySem.EqNone.ne_str_none (GL I q (by simp))
  | bl j=>cases B;exact PySem.EqMixed.ne_str_bool (GL I q (by simp))
  | int j=>obtain ⟨D,rfl⟩:=B;exact PySem.EqMixed.ne_str_int (GL I q (by simp))
  | str j=>obtain ⟨D,rfl⟩:=B;exact ne_str (GL I q (Ybi not Zu))
  | _=>exact absurd (show false=true from L) Yas
 | byt i=>
  obtain ⟨t,rfl⟩:=O;cases y with
  | byt j=>obtain ⟨D,rfl⟩:=B;exact W.ne_bytes (GL I q (Ybi not Zv))
  | _=>exact absurd (show false=true from L) Yas
 | _=>cases y <;> exact absurd (show false=true from L) Yas
theorem Zer:OpR X (compareOp .Lt) (rI0 λi j=>.bl (decide (i<j))):=ZgU λ_ _ _ _ _ _ _ q=>lt_int q
theorem ZgV:OpR X (compareOp .Gt) (rI0 λi j=>.bl (decide (j<i))):=ZgU λ_ _ _ _ _ _ _ q=>gt_int q
theorem Zes:OpR X (compareOp .GtE) (rI0 λi j=>.bl (decide (j<=i))):=ZgU λ_ _ _ _ _ _ _ q=>ge_int q
theorem Zet:OpR X (compareOp .Is) (λx y H Q=>y=.non/\Q (.bl (decide (x=.non))) H):=by
 intro qQ s σ H x y v u Q I j B h;obtain ⟨rfl,q⟩:=h;cases B;refine is_none_gen (GL I q ?_);cases x <;> first
  | (cases j;rfl)
  | (obtain ⟨t,rfl⟩:=j;rfl)
theorem Zc1:OpR X (compareOp .IsNot) (λx y H Q=>y=.non/\Q (.bl (!decide (x=.non))) H):=by
 intro qQ s σ H x y v u Q I j B h;obtain ⟨rfl,q⟩:=h;cases B;refine isnot_none_gen (GL I q ?_);cases x <;> first
  | (cases j;rfl)
  | (obtain ⟨t,rfl⟩:=j;rfl)
theorem GH (b:Expr){j:CmpOp}(h:j≠.In:=by decide)(h2:j≠.NotIn:=by decide):behindInMarks j b=false:=by
 have B:(j == CmpOp.In)=false:=by cases j <;> first | rfl | exact absurd rfl h
 have D:(j == CmpOp.NotIn)=false:=by cases j <;> first | rfl | exact absurd rfl h2
 cases b <;> simp [behindInMarks,B,D]
theorem OD {j:CmpOp}{r:R2}(B:OpR X (compareOp j) r)(ha:PE X a ta)(D:PE X b tb)(L:behindInMarks j b=false):PE X (.Compare a [j] [b] pos) (tOp r ta tb):=by
 intro qQ s σ H Q I h;exact wpAny_Compare1 (ZgS ha D I h λv u O x y H2 U Y Z q=>B qQ O σ H2 x y v u Q U Y Z q) L
noncomputable def ZgW (t:TE):TT:=λσ H Q=>t σ H λx H'=>∃k,x=.bl k/\Q k H'
theorem Gs {j:CmpOp}{r:R2}(B:OpR X (compareOp j) r)(ha:PE X a ta)(D:PE X b tb)(L:behindInMarks j b=false):PT X (.Compare a [j] [b] pos) (ZgW (tOp r ta tb)):=by
 intro qQ s σ H Q I h;refine wpAny_isTrue_Compare1 (thG (ha qQ s σ H _ I h) λv O x H1 U Y Z=>thG (D qQ O σ H1 _ U Z) λu s2 y H2 I2 r2 q2=>
  thG (B qQ s2 σ H2 x y v u _ I2 Y r2 q2) λc s3 z H3 I3 r3 ⟨k,e,q3⟩=>?_) L
 subst e;cases r3;exact Ydo ⟨H3,I3,q3⟩
noncomputable def ZhI (K:W.Frag)(x:V)(H:Hp)(k:Bool):Prop:=
 match x with
 | .non=>k=false
 | .bl b=>k=b
 | .int i=>k=(i != 0)
 | .str y=>y.length<=sizeLine/\k=((y.length:Int) != 0)
 | .byt y=>y.size<=sizeLine/\k=((y.size:Int) != 0)
 | .ref p=>(∃xs,SqL K H p xs/\k=!xs.isEmpty)\/(∃xs,SqT K H p xs/\k=!xs.isEmpty)\/∃kvs,H p=some (.dK kvs)/\k=!kvs.isEmpty
 | _=>False
theorem YF {κ:Type}{kvs:List (κ×V)}{vs:List (κ×Value)}(r:KV kvs vs):(!vs.isEmpty)=!kvs.isEmpty:=by
 cases r <;> rfl
theorem U7 {xs:List V}{its:List Value}(r:Vals xs its):(!its.toArray.isEmpty)=!xs.isEmpty:=by
 cases r <;> simp
theorem WC:(sizeLine:Nat)<2 ^ 63:=by rw [Ybe];decide
theorem Zeu:Zh2 X (λx H Q=>∃k,ZhI X.K x H k/\Q k H):=by
 intro qQ s σ H x v Q I B h;obtain ⟨k,e,q⟩:=h;have Z:=WC;have hs:sizeLine=16777216:=Ybe;cases x with
 | non=>
  cases B;have j:k=false:=e;subst j;exact truthy_none ⟨H,I,q⟩
 | bl b=>
  cases B;have j:k=b:=e;subst j;exact Ydo ⟨H,I,q⟩
 | int i=>
  obtain ⟨t,rfl⟩:=B;have j:k=(i != 0):=e;subst j;exact PySem.P.truthy_int ⟨H,I,q⟩
 | str y=>
  obtain ⟨t,rfl⟩:=B;obtain ⟨U,j⟩:y.length<=sizeLine/\k=((y.length:Int) != 0):=e;subst j;exact PySem.P.truthy_str (by lia) ⟨H,I.tok _,q⟩
 | byt y=>
  obtain ⟨t,rfl⟩:=B;obtain ⟨U,j⟩:y.size<=sizeLine/\k=((y.size:Int) != 0):=e;subst j;exact W.truthy_bytes (by lia) ⟨H,I.tok _,q⟩
 | ref p=>
  cases B;have j:(∃xs,SqL X.K H p xs/\k=!xs.isEmpty)\/(∃xs,SqT X.K H p xs/\k=!xs.isEmpty)\/∃kvs,H p=some (.dK kvs)/\k=!kvs.isEmpty:=e;rcases j with ⟨xs,D,j⟩ | ⟨xs,D,j⟩ | ⟨kvs,D,j⟩
  ·subst j;obtain ⟨its,r,pl,L⟩:=I.list D;have O:=r.length;exact wpAny_truthy_list pl.isList (by simp only [Yar];lia) ⟨H,I.tok _,by rw [U7 r];exact q⟩
  ·subst j;obtain ⟨its,r,pl,L⟩:=I.tuple D;have O:=r.length;exact truthy_tuple pl (by simp only [Yar];lia) ⟨H,I.tok _,by rw [U7 r];exact q⟩
  ·subst j;obtain ⟨L,Y,vs,r,m⟩:kvs.length<=sizeLine/\(p == sysModules)=false/\∃vs,KV kvs vs/\s.heap.DictOf (Jd X.prog X.w) p vs:=I.hok p _ D;have O:kvs.length=vs.length:=Ydi r;exact wpAny_truthy_dict Y m (by lia) ⟨H,I.tok _,by rw [YF r];exact q⟩
 | _=>exact (show False from e).elim
theorem X2 (ha:PE X a ta)(B:∀j,isTrue a X.env j=(do let v <- j;standAt a.pos;holding [v] (truthy v))) :
  PT X a (λσ H Q=>ta σ H λx H'=>∃k,ZhI X.K x H' k/\Q k H'):=by
 intro qQ s σ H Q I h;exact isTrue_plain (thG (ha qQ s σ H _ I h) λv D x H1 L O U=>Zeu qQ D σ H1 x v Q L O U) (B _)
theorem Zw {x:V}{us:List Value}(r:Vals [x] us):∃u,us=[u]/\RelV x u:=by
 cases r with
 | cons r1 r2=>cases r2;exact ⟨_,rfl,r1⟩
theorem Zev {x y:V}{us:List Value}(r:Vals [x,y] us):∃u j,us=[u,j]/\RelV x u/\RelV y j:=by
 cases r with
 | cons r1 r2=>
  cases r2 with
  | cons r3 r4=>cases r4;exact ⟨_,_,rfl,r1,r3⟩
theorem Zx (D:X.calm=true):J6 X (.builtin "max") (λxs H Q=>∃i j,xs=[.int i,.int j]/\Q (.int (if j > i then j else i)) H):=by
 intro qQ s σ H xs us Q I r h;obtain ⟨i,j,rfl,q⟩:=h;obtain ⟨u,L,rfl,⟨t,rfl⟩,⟨O,rfl⟩⟩:=Zev r;refine max_two_ints (I.ok.hd D) λh' tk k=>⟨_,H,I.kept k,?_,q⟩;by_cases B:j > i
 ·rw [if_pos B,if_pos B];exact ⟨_,rfl⟩
 ·rw [if_neg B,if_neg B];exact ⟨_,rfl⟩
theorem Zy (D:X.calm=true):J6 X (.builtin "min") (λxs H Q=>∃i j,xs=[.int i,.int j]/\Q (.int (if j<i then j else i)) H):=by
 intro qQ s σ H xs us Q I r h;obtain ⟨i,j,rfl,q⟩:=h;obtain ⟨u,L,rfl,⟨t,rfl⟩,⟨O,rfl⟩⟩:=Zev r;refine min_two_ints (I.ok.hd D) λh' tk k=>⟨_,H,I.kept k,?_,q⟩;by_cases B:j<i
 ·rw [if_pos B,if_pos B];exact ⟨_,rfl⟩
 ·rw [if_neg B,if_neg B];exact ⟨_,rfl⟩
theorem Zz:J6 X (.type "int") (λxs H Q=>(∃i,xs=[.int i]/\Q (.int i) H)\/∃k,xs=[.bl k]/\Q (.int (if k then 1 else 0)) H):=by
 intro qQ s σ H xs us Q I r h;rcases h with ⟨i,rfl,q⟩ | ⟨k,rfl,q⟩
 ·obtain ⟨u,rfl,t,rfl⟩:=Zw r;exact call_int_int ⟨.int i,H,I,⟨_,rfl⟩,q⟩
 ·obtain ⟨u,rfl,j⟩:=Zw r;cases j;exact call_int_bool ⟨.int (if k then 1 else 0),H,I.tok _,⟨_,rfl⟩,q⟩
end
structure ObjM (h:Heap)(x dx C:Addr)(mA:Str->Option Value):Prop where
 obj:h.get? x=some (W.instObj C dx)
 ns:h.Ns1 dx mA
 ne:dx≠x
theorem ZA {h:Heap}{dx:Addr}{mA:Str->Option Value}(n:h.Ns1 dx mA):∃B,h.get? dx=some B/\∀name,W.lookIn name B=some (mA name):=by
 obtain ⟨o,es,ep,D,L,O,_,U⟩:=n;refine ⟨o,D,λname=>?_⟩;have e:=U name;unfold nsFind findBy at e;rw [<-Array.find?_toList] at e;unfold W.lookIn;rw [L];dsimp only;split
 ·rename_i y q;rw [q] at e;exact Ybi some e
 ·rename_i q;rw [q] at e;have a:es.toList.any (·.refKey)=false:=by
   rw [List.any_eq_false];intro y Y;obtain ⟨z,t,j⟩:=O y (Array.mem_toList_iff.mp Y);simp [DictEntry.refKey,j]
  have Z:¬ es.toList.any (·.refKey)=true:=by rw [a];exact Yas
  rw [if_neg Z];exact Ybi some e
theorem ObjM.look {h:Heap}{x dx C:Addr}{mA:Str->Option Value}(I:ObjM h x dx C mA):∃j,W.InstAt h x (W.instObj C dx) C (some j)/\∀name,W.lookIn name j=some (mA name):=
 let ⟨j,ho,hl⟩:=ZA I.ns
 ⟨j,⟨I.obj,rfl,rfl,ho⟩,hl⟩
section
variable {prog:Program}{w:World}{A:Around}{E:EX}{s:Shared}{K:W.Frag}{x dx C f:Addr}{mA:Str->Option Value}{name:Str}{v:Value}
theorem Zc2 {j:Bool}{Q:EX}(X:K.In s.heap)(I:ObjM s.heap x dx C mA)(D:W.plainGet K C name=true)(L:W.hasDictIn K C=true)(ha:W.findIn K (.ref C) name=some none)(O:mA name=some v)(B:W.handedIn v=true)(h:Q v { s with toks:=s.toks+1 }) :
  wpAny (model prog w) A (getAttr (.ref x) name j) Q E s:=by
 obtain ⟨Y,J,U⟩:=I.look;exact W.get_value X J (W.plainGet_of D).1 (W.findObj_own L ha rfl (by rw [U,O])) B h
theorem Zbk {pl:Sem Bool}{Q:Value×List Value->Shared->Prop}(X:K.In s.heap)(I:ObjM s.heap x dx C mA)(j:W.plainGet K C name=true)(B:W.findIn K (.ref C) name=some (some (.ref f)))(D:W.isFn K (.ref f)=true)(L:mA name=none)(h:Q (.ref f,[.ref x]) s) :
  wpAny (model prog w) A (getMethod (.ref x) name pl) Q E s:=by
 obtain ⟨O,J,U⟩:=I.look;exact W.method_fn X J (W.plainGet_of j).1 (W.plainGet_of j).2 B (Ybf.mp D) (by show (W.lookIn name O).map (·.isSome)=some false;rw [U,L];rfl) h
theorem Zc3 {ns:List Str}{Q:Unit->Shared->Prop}(X:K.In s.heap)(I:ObjM s.heap x dx C mA)(Y:W.findIn K (.ref C) "__setattr__" = some (some (.builtin "object.__setattr__")))(Z:W.plainOver K C=true)(ht:W.takerIn K C name=some none)(hh:W.hasDictIn K C=true)(hw:PySem.Within mA ns)(hsz:ns.length<=sizeLine)(h:∀h',ObjM h' x dx C (λy=>if y=name then some v else mA y)->Heap.SameBut dx s.heap h'->Q () { s with heap:=h',toks:=s.toks+2 }) :
  wpAny (model prog w) A (setAttr (.ref x) name v) Q E s:=by
 obtain ⟨od,J,hl⟩:=I.look;refine W.set_plain X J Y (W.osa_open (s:={ s with toks:=s.toks+1 }) (r:=none) X J Z ht λb=>?_);obtain ⟨cd,hc,D⟩:=W.any_some hh;have hx:s.heap.get? x=some ⟨.ref C,some dx,.plain,#[]⟩:=I.obj;refine Yaa (Yaf (Yaa (Yaa (wpAny_loadPart hx (Yaa (W.Looks.here (s:={ s with toks:=s.toks+1 }) (W.looks_clsIn X hc) ?_))))));rw [D];refine Yaf (a:=some dx) (Yaa (Yaf (Yaa ?_)));refine wpAny_nsSet1 (s:={ s with toks:=s.toks+1 }) I.ns λh' j B=>?_;obtain ⟨oD,aa,ab,L,O,U⟩:=j.count (PySem.Within.cons name v hw);refine Yaa (wpAny_lookBehind L (by rw [O];exact pastItsLine_dict (Ycb U (by rw [Ybm];lia))) ?_);exact Yaf (h _ ⟨(B.2 _ (Ne.symm I.ne)).trans I.obj,j,I.ne⟩ B)
theorem Zbl {R:Result->Shared->Prop}{vs:List Value}{kw:List (Str×Value)}(X:K.In s.heap)(B:W.makesIn K C=true)(hi:W.findIn K (.ref C) "__init__" = some (some (.ref f)))(D:W.typeIn K (.ref f)=some (.type "function"))(h:codeAny (model prog w) (A.under (.builtin "type.__call__" ⟨.ref C::vs,kw⟩)) (.call (.ref f) ⟨.ref (s.heap.objs.size+1)::vs,kw⟩) (W.InitBack (s.heap.objs.size+1) R)
   { s with heap:=(s.heap.push W.emptyDict).push (W.instObj C s.heap.objs.size) }) :
  codeAny (model prog w) A (.call (.ref C) ⟨vs,kw⟩) R s:=by
 obtain ⟨L,g,d,t,O⟩:=s;exact W.make_core (W.makes_of X B) (W.looks_findIn X hi) (λj=>W.bind_fn X j D) (.inl rfl) h
end
noncomputable def Ue (f:Str)(v:V):List (Str×V)->List (Str×V)
 | []=>[(f,v)]
 | (g,x)::r=>if g=f then (g,v)::r else (g,x)::Ue f v r
theorem GM (f g:Str)(v:V):∀fs:List (Str×V),(Ue f v fs).lookup g=if g=f then some v else fs.lookup g
 | []=>by
  show List.lookup g [(f,v)]=_;by_cases h:g=f
  ·have hb:(g == f)=true:=Ybf.mpr h;simp only [List.lookup,hb,if_pos h]
  ·have hb:(g == f)=false:=Yda.mpr h;simp only [List.lookup,hb,if_neg h]
 | (k,x)::r=>by
  have B:=GM f g v r;rw [show Ue f v ((k,x)::r)=(if k=f then (k,v)::r else (k,x)::Ue f v r) from rfl];by_cases j:k=f
  ·rw [if_pos j];by_cases h:g=k
   ·have hb:(g == k)=true:=Ybf.mpr h;simp only [List.lookup,hb,if_pos (h.trans j)]
   ·have hb:(g == k)=false:=Yda.mpr h;simp only [List.lookup,hb,if_neg (λe:g=f=>h (e.trans j.symm))]
  ·rw [if_neg j];by_cases h:g=k
   ·have hb:(g == k)=true:=Ybf.mpr h;simp only [List.lookup,hb,if_neg (λe:g=f=>j (h.symm.trans e))]
   ·have hb:(g == k)=false:=Yda.mpr h;simp only [List.lookup,hb];exact B
theorem UB (f:Str)(v:V):∀fs:List (Str×V),f∈(Ue f v fs).map (·.1)/\∀g,g∈fs.map (·.1)->g∈(Ue f v fs).map (·.1)
 | []=>⟨by simp [Ue],λg h=>by simp at h⟩
 | (k,x)::r=>by
  obtain ⟨i1,i2⟩:=UB f v r;rw [show Ue f v ((k,x)::r)=(if k=f then (k,v)::r else (k,x)::Ue f v r) from rfl];by_cases j:k=f
  ·rw [if_pos j];subst j;exact ⟨by simp,λg h=>by simpa using h⟩
  ·rw [if_neg j];refine ⟨?_,λg h=>?_⟩
   ·rw [Yaq];exact Ybc _ i1
   ·rw [Yaq] at h ⊢;rcases Yaz.mp h with e | e
    ·exact Yaz.mpr (.inl e)
    ·exact Ybc _ (i2 g e)
theorem UC (f:Str)(v:V):∀fs:List (Str×V),(Ue f v fs).length<=fs.length+1
 | []=>by simp [Ue]
 | (k,x)::r=>by
  have ih:=UC f v r;rw [show Ue f v ((k,x)::r)=(if k=f then (k,v)::r else (k,x)::Ue f v r) from rfl];by_cases j:k=f
  ·rw [if_pos j,Ybm,Ybm];lia
  ·rw [if_neg j,Ybm,Ybm];lia
theorem RelO.some_of {v:V}{o:Option Value}(r:RelO (some v) o):∃u,o=some u/\RelV v u:=by
 cases o with
 | none=>exact (show False from r).elim
 | some u=>exact ⟨u,rfl,r⟩
theorem RelO.none_of {o:Option Value}(r:RelO none o):o=none:=by
 cases o with
 | none=>rfl
 | some u=>exact (show False from r).elim
theorem ZB {v:V}{u:Value}(r:RelV v u):W.handedIn u=true:=by
 cases v with
 | non=>cases (show u=Value.none from r);rfl
 | bl b=>cases (show u=Value.bool b from r);rfl
 | int i=>obtain ⟨t,e⟩:=(show ∃t,u=Value.int i t from r);cases e;rfl
 | str x=>obtain ⟨t,e⟩:=(show ∃t,u=Value.str x t from r);cases e;rfl
 | byt b=>obtain ⟨t,e⟩:=(show ∃t,u=Value.bytes b t from r);cases e;rfl
 | flt b=>obtain ⟨t,e⟩:=(show ∃t,u=Value.float b t from r);cases e;rfl
 | ref a=>cases (show u=Value.ref a from r);rfl
 | ty n=>cases (show u=Value.type n from r);rfl
section
variable {P:Program}{w:World}{H H':Hp}{h h':Heap}{a C dx:Addr}{fs fs':List (Str×V)}
theorem Vu (j:HOk P w H h)(e:H a=some (.ins C dx fs)):∃mA,ObjM h a dx C mA/\(∀f,RelO (fs.lookup f) (mA f))/\PySem.Within mA (fs.map (·.1))/\fs.length<=1000/\H dx=some (.own a):=by
 obtain ⟨d,z,ne,B,mA,n,r,q⟩:=(show ObjOk P w H h a (.ins C dx fs) from j a _ e);exact ⟨mA,⟨B,n,ne⟩,r,q,z,d⟩
end
structure Cls (K:W.Frag)(C:Addr):Prop where
 pg:W.plainGet K C Str.empty=true
 hd:W.hasDictIn K C=true
 po:W.plainOver K C=true
 sa:W.findIn K (.ref C) "__setattr__" = some (some (.builtin "object.__setattr__"))
theorem Cls.get {K:W.Frag}{C:Addr}(c:Cls K C)(f:Str):W.plainGet K C f=true:=c.pg
noncomputable def NoAttr (K:W.Frag)(C:Addr)(f:Str):Prop:=W.findIn K (.ref C) f=some none
theorem NoAttr.taker {K:W.Frag}{C:Addr}{f:Str}(n:NoAttr K C f):W.takerIn K C f=some none:=by
 unfold W.takerIn;rw [show W.findIn K (.ref C) f=some none from n]
 rfl
structure ZgX (K:W.Frag)(C:Addr)(m:Str)(f:Addr):Prop where
 at_:W.findIn K (.ref C) m=some (some (.ref f))
 fn:W.isFn K (.ref f)=true
 kp:W.keepIn K (.ref f)=true
section
variable {X:Cx}{qQ:List (Addr×Obj)}{σ:St}{H:Hp}{s:Shared}{a C dx:Addr}{fs:List (Str×V)}{f:Str}{v:V}{A:Around}{E:EX}
theorem YG {b:Bool}{Q:EX}(I:Inv X qQ σ H s)(e:H a=some (.ins C dx fs))(c:Cls X.K C)(n:NoAttr X.K C f)(l:fs.lookup f=some v)(h:∀u s',Inv X qQ σ H s'->RelV v u->Q u s'):wpAny (model X.prog X.w) A (getAttr (.ref a) f b) Q E s:=by
 obtain ⟨mA,O,r,_,_,_⟩:=Vu I.hok e;obtain ⟨u,B,j⟩:=RelO.some_of (v:=v) (o:=mA f) (by rw [<-l];exact r f);exact Zc2 I.kIn O (c.get f) c.hd n B (ZB j) (h u _ (I.tok _) j)
theorem YH {m:Str}{g:Addr}{pl:Sem Bool}{Q:Value×List Value->Shared->Prop}(I:Inv X qQ σ H s)(e:H a=some (.ins C dx fs))(c:Cls X.K C)(k:ZgX X.K C m g)(l:fs.lookup m=none)(h:Q (.ref g,[.ref a]) s):wpAny (model X.prog X.w) A (getMethod (.ref a) m pl) Q E s:=by
 obtain ⟨mA,O,r,_,_,_⟩:=Vu I.hok e;have j:mA m=none:=RelO.none_of (by rw [<-l];exact r m);exact Zbk I.kIn O (c.get m) k.at_ k.fn j h
theorem YI {y:V}{u:Value}{Q:Unit->Shared->Prop}(I:Inv X qQ σ H s)(e:H a=some (.ins C dx fs))(c:Cls X.K C)(n:NoAttr X.K C f)(hl:fs.length<1000)(D:RelV y u)(h:∀s',Inv X qQ σ (upd H a (.ins C dx (Ue f y fs))) s'->Q () s'):wpAny (model X.prog X.w) A (setAttr (.ref a) f u) Q E s:=by
 obtain ⟨mA,O,r,wi,_,B⟩:=Vu I.hok e;have L:(fs.map (·.1)).length<=sizeLine:=by rw [Yab,Ybe];lia
 refine Zc3 I.kIn O c.sa c.po n.taker c.hd wi L λh' j U=>h _ ?_;have Y:∃o,h'.get? dx=some o:=let ⟨o,_,_,e',_⟩:=j.ns;⟨o,e'⟩;refine I.write (x:=a) (e:=dx) (by rw [e];exact True.intro) (.inr B) (λb q Z z=>(U.2 b Z).trans z) Y ?_;refine ⟨by rw [Go O.ne];exact B,?_,O.ne,j.obj,_,j.ns,λg=>?_,λg hg=>?_⟩
 ·have:=UC f y fs;lia
 ·show RelO ((Ue f y fs).lookup g) (if g=f then some u else mA g);rw [GM];by_cases q:g=f
  ·rw [if_pos q,if_pos q];exact D
  ·rw [if_neg q,if_neg q];exact r g
 ·by_cases q:g=f
  ·rw [q];exact (UB f y fs).1
  ·refine (UB f y fs).2 g (wi g λz=>hg ?_);show (if g=f then some u else mA g)=none;rw [if_neg q];exact z
theorem Inv.made (I:Inv X qQ σ H s):Inv X qQ σ (upd (upd H s.heap.objs.size (.own (s.heap.objs.size+1))) (s.heap.objs.size+1) (.ins C s.heap.objs.size []))
  { s with heap:=(s.heap.push W.emptyDict).push (W.instObj C s.heap.objs.size) }:=by
 have j:(s.heap.push W.emptyDict).get? s.heap.objs.size=some W.emptyDict:=Ybl s.heap rfl;have B:((s.heap.push W.emptyDict).push (W.instObj C s.heap.objs.size)).get? (s.heap.objs.size+1)=some (W.instObj C s.heap.objs.size):=by
  have:=Ybl (s.heap.push W.emptyDict) (o:=W.instObj C s.heap.objs.size) rfl
  rwa [Ycu] at this
 have D:(s.heap.push W.emptyDict).Ns s.heap.objs.size (λ_=>none):=⟨W.emptyDict,#[],_,j,rfl,(λe L=>absurd L (by simp)),λ_=>rfl⟩;have O:=I.laid (a:=s.heap.objs.size) (o:=.own (s.heap.objs.size+1)) (h':=s.heap.push W.emptyDict) (t':=s.toks) (λb u q=>Yao _ q) (Yad _) ⟨_,j⟩;refine O.laid (a:=s.heap.objs.size+1) (o:=.ins C s.heap.objs.size []) (t':=s.toks) (λb u q=>Yao _ q) (Nat.le_of_eq (Ycu _ _)) ?_;have ne:s.heap.objs.size≠s.heap.objs.size+1:=Yay (Nat.lt_succ_self _);refine ⟨by rw [Go ne,Gb],Yan _,ne,B,λ_=>none,(Heap.Ns1.of_empty D).at λo q=>Yao _ q,λ_=>True.intro,λy U=>absurd rfl U⟩
theorem Zc4 {prog:Program}{w:World}{env:Env}{e:Expr}{f:Str}{pos:Pos}{s:Shared}{Q:EX}(j:attributeBase e f env (eval e env)=eval e env)(h:wpAny (model prog w) A (eval e env) (λo B=>wpAny (model prog w) A (getAttr o f true) Q E B) E s):wpAny (model prog w) A (eval (.Attribute e f pos) env) Q E s:=
 Attribute_any_ h (by rw [arm_eval_Attribute,j])
end
noncomputable def Zh4 (K:W.Frag)(ta:TE)(f:Str):TE:=λσ H Q=>ta σ H λx H1=>∃a C dx fs v,x=.ref a/\H1 a=some (.ins C dx fs)/\Cls K C/\NoAttr K C f/\fs.lookup f=some v/\Q v H1
noncomputable def Zh5 (K:W.Frag)(ta tv:TE)(f:Str):TS:=λD σ H=>tv σ H λy H1=>ta σ H1 λx H2=>∃a C dx fs,x=.ref a/\H2 a=some (.ins C dx fs)/\Cls K C/\NoAttr K C f/\fs.length<1000 /\
 D.nx σ (upd H2 a (.ins C dx (Ue f y fs)))
section
variable {X:Cx}{o e value:Expr}{f:Str}{pos pos' tpos:Pos}{ta tv:TE}
theorem OK (j:PE X e ta)(B:attributeBase e f X.env (eval e X.env)=eval e X.env):PE X (.Attribute e f pos) (Zh4 X.K ta f):=by
 intro qQ s σ H Q I h;refine Zc4 B (thG (j qQ s σ H _ I h) λu Z x H1 D L ⟨a,C,dx,fs,v,ex,O,c,n,l,q⟩=>?_);subst ex;obtain rfl:u=Value.ref a:=L;exact YG D O c n l λu' s2 U Y=>⟨v,H1,U,Y,q⟩
theorem ZC (ha:PE X o ta)(j:PE X value tv)(B:swapsWith value (some (.Attribute o f pos')) pos.line X.env=pure false):PS X (.Assign [.Attribute o f pos'] value pos) (Zh5 X.K ta tv f):=by
 intro qQ s σ H D I h;refine plainObj_wpAny_Assign_Attribute (thG (j qQ s σ H _ I h) λu L y H1 O U q=>thG (ha qQ L σ H1 _ O q) λY s2 x H2 Z rx ⟨a,C,dx,fs,ex,ea,c,n,l,q2⟩=>?_) B;subst ex;obtain rfl:Y=Value.ref a:=rx;exact YI Z ea c n l U λs3 I3=>⟨σ,_,I3,q2⟩
end
section
variable {X:Cx}{qQ:List (Addr×Obj)}{σ:St}{H:Hp}{s:Shared}{A:Around}{E:EX}{Q:EX}{c:Value}{b:Bool}
inductive YJ (K:W.Frag)(H:Hp):V->Value->Prop where
 | non:YJ K H .non (.type "NoneType")
 | bl (x:Bool):YJ K H (.bl x) (.type "bool")
 | int (i:Int):YJ K H (.int i) (.type "int")
 | str (x:Str):YJ K H (.str x) (.type "str")
 | flt (x:UInt64):YJ K H (.flt x) (.type "float")
 | lst {a:Addr} {xs:List V} (e:H a=some (.lst xs)):YJ K H (.ref a) (.type "list")
 | frz {a:Addr} {o:Obj} {xs:List V} (e:H a=some (.frz o (.lst xs))):YJ K H (.ref a) (.type "list")
 | tup {a:Addr} {xs:List V} (e:H a=some (.tup xs)):YJ K H (.ref a) (.type "tuple")
 | dK {a:Addr} {kvs:List (Key×V)} (e:H a=some (.dK kvs)):YJ K H (.ref a) (.type "dict")
 | dT {a:Addr} {kvs:List (List Key×V)} (e:H a=some (.dT kvs)):YJ K H (.ref a) (.type "dict")
 | ins {a C dx:Addr} {fs:List (Str×V)} (e:H a=some (.ins C dx fs)) (cl:Cls K C) (ha:W.findIn K (.ref C) "__class__" = some (some (.builtin "object.__class__")))
   (hn:W.specialIn K (.builtin "object.__class__") "__get__" = some (some (.builtin "getset_descriptor.__get__"))) (htk:W.takesIn K (.builtin "object.__class__")=some true)
   (hm:W.mroIn K C (.type "object")=some true):YJ K H (.ref a) (.ref C)
theorem ZD {x:V}{u t:Value}(I:Inv X qQ σ H s)(j:RelV x u)(ty:YJ X.K H x t)(e:W.kitOne X.K t c=some b)(h:∀tk,Q (.bool b) { s with toks:=tk }) :
  wpAny (model X.prog X.w) A (call (.builtin "isinstance") [u,c]) Q E s:=by
 cases ty with
 | non=>cases (show u=Value.none from j);exact Ycp W.kitx_none I.kIn True.intro e (λz=>nomatch z) h
 | bl y=>cases (show u=Value.bool y from j);exact Ycp W.kitx_bool I.kIn True.intro e (λz=>nomatch z) h
 | int i=>obtain ⟨t,q⟩:=(show ∃t,u=Value.int i t from j);cases q;exact Ycp W.kitx_int I.kIn True.intro e (λz=>nomatch z) h
 | str y=>obtain ⟨t,q⟩:=(show ∃t,u=Value.str y t from j);cases q;exact Ycp W.kitx_str I.kIn True.intro e (λz=>nomatch z) h
 | flt y=>obtain ⟨t,q⟩:=(show ∃t,u=Value.float y t from j);cases q;exact Ycp W.kitx_float I.kIn True.intro e (λz=>nomatch z) h
 | @lst a xs ea=>
  cases (show u=Value.ref a from j);obtain ⟨_,_,n,_,h1⟩:=(show ObjOk X.prog X.w H s.heap a (.lst xs) from I.hok a _ ea);exact Ycp W.kitx_list I.kIn ⟨_,h1,rfl⟩ e (λz=>nomatch z) h
 | @frz a ob xs ea=>
  cases (show u=Value.ref a from j);obtain ⟨_,_,_,n,_,h1⟩:=(show ObjOk X.prog X.w H s.heap a (.frz ob (.lst xs)) from I.hok a _ ea);exact Ycp W.kitx_list I.kIn ⟨_,h1,rfl⟩ e (λz=>nomatch z) h
 | @tup a xs ea=>
  cases (show u=Value.ref a from j);obtain ⟨_,_,_,p⟩:=(show ObjOk X.prog X.w H s.heap a (.tup xs) from I.hok a _ ea);obtain ⟨o,h1,h2,_⟩:=p;exact Ycp W.kitx_tuple I.kIn ⟨o,h1,h2⟩ e (λz=>nomatch z) h
 | @dK a kvs ea=>
  cases (show u=Value.ref a from j);obtain ⟨_,_,vs,_,p⟩:=(show ObjOk X.prog X.w H s.heap a (.dK kvs) from I.hok a _ ea);obtain ⟨o,es,ep,h1,h2,_⟩:=p;exact Ycp W.kitx_dict I.kIn ⟨o,h1,h2.1⟩ e (λz=>nomatch z) h
 | @dT a kvs ea=>
  cases (show u=Value.ref a from j);obtain ⟨_,_,xs,_,o,es,ep,h1,h2,_⟩:=(show ObjOk X.prog X.w H s.heap a (.dT kvs) from I.hok a _ ea);exact Ycp W.kitx_dict I.kIn ⟨o,h1,h2.1⟩ e (λz=>nomatch z) h
 | @ins a C dx fs ea cl ha hn htk hm=>
  cases (show u=Value.ref a from j);obtain ⟨mA,O,_⟩:=Vu I.hok ea;obtain ⟨B,J,_⟩:=O.look;exact Ycp (W.kitx_own (cl.get _) cl.hd ha hn htk hm) I.kIn J e (λz=>nomatch z) h
end
structure Room (k:Nat)(A:Around):Prop where
 hd:A.handled=none
 dp:A.depth+3 * k+5<recursionLimit
 un:A.units+16 * k+200<cLine
theorem Room.mono {j k:Nat}{A:Around}(r:Room k A)(h:j<=k):Room j A:=⟨r.hd,by have:=r.dp;lia,by have:=r.un;lia⟩
theorem Room.deeper {k:Nat}{A:Around}(r:Room (k+1) A)(env:Env):Room k (A.deeper env):=
 ⟨r.hd,by have:=r.dp;show A.depth+1+3 * k+5<_;lia,by have:=r.un;show A.units+3+16 * k+200<_;lia⟩
theorem YK {A:Around}{C:Addr}{us:List Value}{kw:List (Str×Value)}:(A.under (.builtin "type.__call__" ⟨.ref C::us,kw⟩)).depth=A.depth+1:=by
 first | rfl | simp [Around.under,Code.weight,Code.isCreation,Code.isGuard,Code.isCaller,Code.frames,Code.isFrame,guardIds]
theorem YL {A:Around}{C:Addr}{us:List Value}{kw:List (Str×Value)}:(A.under (.builtin "type.__call__" ⟨.ref C::us,kw⟩)).units=A.units+1:=by
 first | rfl | simp [Around.under,Code.cUnits,Code.frames,Code.isFrame]
theorem Room.make {k:Nat}{A:Around}(r:Room (k+1) A)(C:Addr)(us:List Value)(kw:List (Str×Value)):Room k (A.under (.builtin "type.__call__" ⟨.ref C::us,kw⟩)):=
 ⟨r.hd,by have:=r.dp;rw [YK];lia,by have:=r.un;rw [YL];lia⟩
theorem Room.depth {k:Nat}{A:Around}(r:Room k A):A.depth<recursionLimit:=by have:=r.dp;lia
theorem Room.units {k:Nat}{A:Around}(r:Room k A):A.units+64<cLine:=by have:=r.un;lia
noncomputable def Zgn:TA:=λ_ H Q=>Q [] H
noncomputable def Zbm (ta:TE)(j:TA):TA:=λσ H Q=>ta σ H λx H1=>j σ H1 λxs H2=>Q (x::xs) H2
section
variable {X:Cx}{e:Expr}{es:List Expr}{te:TE}{t:TA}{pos:Pos}
theorem Gc:PA X [] Zgn:=λ_ _ _ _ H Q I h=>Calls.spliced_nil ⟨[],H,I,.nil,h⟩
theorem Ga (ha:PE X e te)(j:PA X es t)(B:starEach (e::es) X.env=(false,eval e X.env)::starEach es X.env:=by rfl):PA X (e::es) (Zbm te t):=by
 intro pos qQ s σ H Q I h;rw [B];show wpAny _ _ (spliced ((false,eval e X.env)::backTo pos (starEach es X.env))) _ _ s;refine Calls.spliced_cons (thG (ha qQ s σ H _ I h) λu D x H1 L O U=>?_);exact thG (j pos qQ D σ H1 _ L U) λus s2 xs H2 Y Z q2=>⟨x::xs,H2,Y,.cons O Z,q2⟩
noncomputable def Zh6 (t:TA):TE:=λσ H Q=>t σ H λxs H1=>xs.length<=sizeLine/\∀p,H1 p=none->Q (.ref p) (upd H1 p (.tup xs))
noncomputable def Zh7 (t:TA):TE:=λσ H Q=>t σ H λxs H1=>xs.length<=sizeLine/\∀p,H1 p=none->Q (.ref p) (upd H1 p (.lst xs))
theorem Jf {x1}(h:PA X es t):PE X (.Tuple es x1 pos) (Zh6 t):=by
 intro qQ s σ H Q I D;refine wpAny_Tuple_spliced (thG (h pos qQ s σ H _ I D) λus j xs H1 B r ⟨z,q⟩=>⟨by rw [<-r.length];exact z,?_⟩);have L:H1 j.heap.objs.size=none:=B.hok.fresh (Yad _);refine ⟨.ref j.heap.objs.size,upd H1 j.heap.objs.size (.tup xs),B.laid (t':=j.toks) (λb u e=>Yao _ e) (Yad _) ?_,rfl,q _ L⟩;exact ⟨z,us,r,⟨_,Ybl _ rfl,rfl,_,rfl⟩⟩
theorem Gr (h:PA X es t):PE X (.List es pos) (Zh7 t):=by
 intro qQ s σ H Q I D;refine wpAny_List_spliced (thG (h pos qQ s σ H _ I D) λus j xs H1 B r ⟨z,q⟩=>⟨by rw [<-r.length];exact z,?_⟩);have L:H1 j.heap.objs.size=none:=B.hok.fresh (Yad _);refine ⟨.ref j.heap.objs.size,upd H1 j.heap.objs.size (.lst xs),B.laid (t':=j.toks) (λb u e=>Yao _ e) (Yad _) ?_,rfl,q _ L⟩;exact ⟨z,us,0,r,Ybl _ rfl⟩
end
noncomputable abbrev Sp:=List V->Hp->VK->XK->Prop
noncomputable abbrev CXT:=List Env->Hp->Shared->XK->Value->Shared->Prop
structure Env0 (P:Program)(w:World)(K:W.Frag)(mg:Str->Option Value)(base:Heap)(A:Around)(outer:List Env)(s:Shared)(H:Hp):Prop where
 frames:A.frames=some outer
 mod:Mod K mg base
 bs:∀b o,base.get? b=some o->s.heap.get? b=some o/\H b=none
 bsz:base.objs.size<=s.heap.objs.size
 funs:s.heap.FunFrames base outer
 frf:∀b∈frs outer,H b=none
 hok:HOk P w H s.heap
 bare:AllBare s.gens
noncomputable def CE (outer:List Env)(P:Program)(w:World)(H:Hp)(s:Shared)(Q:VK)(u:Value)(s':Shared):Prop:=
 ∃v H',s'.os=s.os/\AllBare s'.gens/\Un (frs outer) [] H H' s.heap s'.heap/\HOk P w H' s'.heap/\RelV v u/\Q v H'
noncomputable def CR (CX:CXT)(outer:List Env)(P:Program)(w:World)(H:Hp)(s:Shared)(Q:VK)(E:XK)(r:Result)(s':Shared):Prop:=
 match r with
 | .ok (.ret u)=>CE outer P w H s Q u s'
 | .ok _=>False
 | .error e=>CX outer H s E e s'
structure FnOk (P:Program)(w:World)(K:W.Frag)(mg:Str->Option Value)(base:Heap)(CX:CXT)(k:Nat)(f:Addr)(fd:FuncData)(ps:List Str)(sp:Sp):Prop where
 len:∀vs H Q E,sp vs H Q E->vs.length=ps.length
 run:∀(A:Around)(outer:List Env)(s:Shared)(H:Hp)(args:Args)(us:List Value)(vs:List V)(Q:VK)(E:XK),Room k A->Env0 P w K mg base A outer s H->BindsTo s fd args (ps.zip us)->Vals vs us->sp vs H Q E ->
  codeAny (model P w) A (.call (.ref f) args) (CR CX outer P w H s Q E) s
theorem Env0.make {P:Program}{w:World}{K:W.Frag}{mg:Str->Option Value}{base:Heap}{A:Around}{outer:List Env}{s:Shared}{H:Hp}(e:Env0 P w K mg base A outer s H)(C:Addr)(us:List Value)(kw:List (Str×Value)) :
  Env0 P w K mg base (A.under (.builtin "type.__call__" ⟨.ref C::us,kw⟩)) outer s H:=⟨by first | exact e.frames | (simpa [Around.under,Code.envs,Code.isFrame,pushEnvs] using e.frames),e.mod,e.bs,e.bsz,e.funs,e.frf,e.hok,e.bare⟩
section
variable {X:Cx}{qQ:List (Addr×Obj)}{σ:St}{H:Hp}{s s':Shared}
theorem Inv.env0 (I:Inv X qQ σ H s):Env0 X.prog X.w X.K X.mg X.base X.A X.stack s H:=
 ⟨I.ok.frames,I.ok.mod,I.bs,Ycb I.ok.bsz I.sz,I.stack,I.stkFree,I.hok,I.bare⟩
theorem Inv.after {Q:VK}{u:Value}(I:Inv X qQ σ H s)(h:CE X.stack X.prog X.w H s Q u s'):EP X qQ σ Q u s':=by
 obtain ⟨v,H',L,j,un,B,r,q⟩:=h;obtain ⟨O,g,d,t,D⟩:=s';obtain rfl:D=s.os:=L;exact ⟨v,H',I.call (h':=O) (g':=g) (d':=d) (t':=t) (ch:=[]) un B j (λb z=>absurd z (by simp)),r,q⟩
end
noncomputable def ZgY (sp:Sp)(dvs:List V)(E:XK)(t:TA):TE:=λσ H Q=>t σ H λvs H1=>sp (vs++dvs) H1 Q E
noncomputable def ZgZ (C:Addr)(m:Str)(sp:Sp)(dvs:List V)(E:XK)(ta:TE)(t:TA):TE:=λσ H Q=>ta σ H λx H1=>∃a dx fs,x=.ref a/\H1 a=some (.ins C dx fs)/\fs.lookup m=none /\
 t σ H1 λvs H2=>sp (x::(vs++dvs)) H2 Q E
noncomputable def Zg0 (C:Addr)(sp:Sp)(dvs:List V)(E:XK)(t:TA):TE:=λσ H Q=>t σ H λvs H1=>∀x dx,H1 x=none->H1 dx=none->dx≠x ->
 sp (.ref x::(vs++dvs)) (upd (upd H1 dx (.own x)) x (.ins C dx [])) (λv H2=>v=.non/\Q (.ref x) H2) E
noncomputable def Binds (K:W.Frag)(fd:FuncData)(ps:List Str)(ds:List Value):Prop:=
 ∀(s:Shared)(us:List Value),K.In s.heap->(us++ds).length=ps.length->BindsTo s fd ⟨us,[]⟩ (ps.zip (us++ds))
theorem Binds.all {K:W.Frag}{fd:FuncData}{ps:List Str}(h:∀us:List Value,us.length=ps.length->bindArgs fd ⟨us,[]⟩=pure (ps.zip us)):Binds K fd ps []:=λs us _ j=>by
 rw [Ybt] at j ⊢;exact .of_eq (h us j)
noncomputable def Uf (CX:CXT)(X:Cx)(E:XK):Prop:=∀(qQ:List (Addr×Obj))(σ:St)(H:Hp)(s:Shared)(e:Value)(s':Shared),Inv X qQ σ H s->CX X.stack H s E e s'->X.xe e s'
section
variable {X:Cx}{CX:CXT}{k:Nat}{f C:Addr}{fd:FuncData}{ps:List Str}{sp:Sp}{dvs:List V}{ds:List Value}{E:XK}{x m:Str}{p pos apos:Pos}{e o:Expr}{es:List Expr}{ta:TE}{t:TA}
theorem ZE {qQ:List (Addr×Obj)}{σ:St}{H:Hp}{s:Shared}{Q:VK}{us:List Value}{vs:List V}(F:FnOk X.prog X.w X.K X.mg X.base CX k f fd ps sp)(D:Room k X.A)(L:Binds X.K fd ps ds)(O:Vals dvs ds)(U:Uf CX X E)(I:Inv X qQ σ H s)(r:Vals vs us)(h:sp (vs++dvs) H Q E):wpAny (model X.prog X.w) X.A (call (.ref f) us) (EP X qQ σ Q) X.xe s:=by
 have B:Vals (vs++dvs) (us++ds):=r.append O;have Y:(us++ds).length=ps.length:=by rw [<-B.length];exact F.len _ _ _ _ h
 refine wpAny_call (codeAny_mono (F.run X.A X.stack s H ⟨us,[]⟩ (us++ds) (vs++dvs) Q E D I.env0 (L s us I.kIn Y) B h) λr s' j=>?_);cases r with
 | error e=>exact U qQ σ H s e s' I j
 | ok fl=>
  cases fl with
  | ret u=>exact I.after j
  | next=>exact False.elim j
  | brk=>exact False.elim j
  | cont=>exact False.elim j
theorem Gk (F:FnOk X.prog X.w X.K X.mg X.base CX k f fd ps sp)(L:Room k X.A)(O:Gl X x)(U:X.mg x=some (.ref f))(Y:W.keepIn X.K (.ref f)=true)(Z:Binds X.K fd ps ds)(hd:Vals dvs ds)(hx:Uf CX X E)(ha:PA X (e::es) t)(j:(x == ("__debug__" : Str))=false:=by decide)(he:starEach (e::es) X.env=(false,eval e X.env)::starEach es X.env:=by rfl)(B:(backTo pos (starEach es X.env)).any (·.1)=false:=by rfl) :
  PE X (.Call (.Name x p) (e::es) [] pos) (ZgY sp dvs E t):=by
 intro qQ s σ H Q I h;refine Ydq (Uz I O U ?_ j);refine W.callWith_K (h₀:=X.base) I.ok.mod.kin Y (thG (ha pos qQ s σ H _ I h) λus s1 vs H1 D r q=>⟨D.kIn,?_⟩) he B;exact ZE F L Z hd hx D r q
theorem Zc5 {pl:Sem Bool}(U:PE X o ta)(c:Cls X.K C)(D:ZgX X.K C m f)(F:FnOk X.prog X.w X.K X.mg X.base CX k f fd ps sp)(Y:Room k X.A)(Z:Binds X.K fd ps ds)(hd:Vals dvs ds)(hx:Uf CX X E)(ha:PA X (e::es) t)(j:starEach (e::es) X.env=(false,eval e X.env)::starEach es X.env:=by rfl)(B:(backTo pos (starEach es X.env)).any (·.1)=false:=by rfl)(ht:eval (.Call (.Attribute o m apos) (e::es) [] pos) X.env=(do
   let ov <- eval o X.env
   standAt apos.atName
   let (f,first) <- holding [ov] (getMethod ov m pl)
   callWith pos f first (backTo pos (starEach (e::es) X.env)) (backToKw pos (keywordEach [] X.env))):=by rfl) :
  PE X (.Call (.Attribute o m apos) (e::es) [] pos) (ZgZ C m sp dvs E ta t):=by
 intro qQ s σ H Q I h;refine W.methodCall_KW (pl:=pl) (thG (U qQ s σ H _ I h) λu s1 x H1 L rx ⟨a,dx,fs,ex,ea,l,q⟩=>?_) ht;subst ex;obtain rfl:u=Value.ref a:=rx;refine YH L ea c D l ?_;refine W.callWith_K (first:=[.ref a]) (h₀:=X.base) I.ok.mod.kin D.kp (thG (ha pos qQ s1 σ H1 _ L q) λus s2 vs H2 O r q2=>⟨O.kIn,?_⟩) j B;exact ZE (us:=.ref a::us) (vs:=.ref a::vs) F Y Z hd hx O (.cons rfl r) q2
structure Mk (K:W.Frag)(C f:Addr):Prop where
 makes:W.makesIn K C=true
 init:W.findIn K (.ref C) "__init__" = some (some (.ref f))
 fn:W.isFn K (.ref f)=true
 kp:W.keepIn K (.ref C)=true
theorem Zbn {qQ:List (Addr×Obj)}{σ:St}{H:Hp}{s:Shared}{Q:VK}{us:List Value}{vs:List V}(M:Mk X.K C f)(F:FnOk X.prog X.w X.K X.mg X.base CX k f fd ps sp)(O:Room (k+1) X.A)(U:Binds X.K fd ps ds)(Y:Vals dvs ds)(Z:Uf CX X E)(I:Inv X qQ σ H s)(r:Vals vs us)(h:∀x dx,H x=none->H dx=none->dx≠x->sp (.ref x::(vs++dvs)) (upd (upd H dx (.own x)) x (.ins C dx [])) (λv H2=>v=.non/\Q (.ref x) H2) E) :
  wpAny (model X.prog X.w) X.A (call (.ref C) us) (EP X qQ σ Q) X.xe s:=by
 have D:=h (s.heap.objs.size+1) s.heap.objs.size (I.hok.fresh (Ydd _)) (I.hok.fresh (Yad _)) (Yay (Nat.lt_succ_self _));have B:=Inv.made (C:=C) I;have L:Vals (V.ref (s.heap.objs.size+1)::(vs++dvs)) (Value.ref (s.heap.objs.size+1)::(us++ds)):=.cons rfl (r.append Y);have hl:(Value.ref (s.heap.objs.size+1)::us++ds).length=ps.length:=by
  have e:=L.length;rw [F.len _ _ _ _ D] at e;exact e.symm
 refine wpAny_call (Zbl (f:=f) I.kIn M.makes M.init (Ybf.mp M.fn) (codeAny_mono (F.run _ X.stack _ _ ⟨Value.ref (s.heap.objs.size+1)::us,[]⟩ (Value.ref (s.heap.objs.size+1)::(us++ds)) _ _ E (O.make C us [])
  (B.env0.make C us []) (U _ (Value.ref (s.heap.objs.size+1)::us) B.kIn hl) L D) λr s' j=>?_))
 cases r with
 | error e=>exact Z qQ σ _ _ e s' B j
 | ok fl=>
  cases fl with
  | ret u=>
   obtain ⟨v,H',I3,rv,ev,q3⟩:=B.after j;subst ev;exact ⟨rv,⟨V.ref (s.heap.objs.size+1),H',I3,rfl,q3⟩⟩
  | next=>exact False.elim j
  | brk=>exact False.elim j
  | cont=>exact False.elim j
theorem Zc6 (M:Mk X.K C f)(F:FnOk X.prog X.w X.K X.mg X.base CX k f fd ps sp)(L:Room (k+1) X.A)(O:Gl X x)(U:X.mg x=some (.ref C))(Y:Binds X.K fd ps ds)(Z:Vals dvs ds)(hx:Uf CX X E)(ha:PA X (e::es) t)(j:(x == ("__debug__" : Str))=false:=by decide)(he:starEach (e::es) X.env=(false,eval e X.env)::starEach es X.env:=by rfl)(B:(backTo pos (starEach es X.env)).any (·.1)=false:=by rfl) :
  PE X (.Call (.Name x p) (e::es) [] pos) (Zg0 C sp dvs E t):=by
 intro qQ s σ H Q I h;refine Ydq (Uz I O U ?_ j);refine W.callWith_K (h₀:=X.base) I.ok.mod.kin M.kp (thG (ha pos qQ s σ H _ I h) λus s1 vs H1 D r q=>⟨D.kIn,?_⟩) he B;exact Zbn M F L Y Z hx D r q
end
noncomputable def PK (X:Cx)(kws:List Keyword)(t:TA):Prop:=
 ∀(pos:Pos)(qQ:List (Addr×Obj))(s:Shared)(σ:St)(H:Hp)(Q:List V->Hp->Prop),Inv X qQ σ H s->t σ H Q->wpAny (model X.prog X.w) X.A (evalAll ((backToKw pos (keywordEach kws X.env)).map (·.2))) (AP X qQ σ Q) X.xe s
section
variable {X:Cx}{CX:CXT}{k:Nat}{f C:Addr}{fd:FuncData}{ps ks:List Str}{sp:Sp}{E:XK}{x m:Str}{p pos apos kpos:Pos}{e o:Expr}{es:List Expr}{kws:List Keyword}{te ta:TE}{t tk:TA}{nm:Option Str}
theorem Zew:PK X [] Zgn:=λ_ _ _ _ H Q I h=>wpAny_evalAll_nil ⟨[],H,I,.nil,h⟩
theorem ZG (ha:PE X e te)(j:PK X kws t):PK X (⟨nm,e,kpos⟩::kws) (Zbm te t):=by
 intro pos qQ s σ H Q I h;show wpAny _ _ (evalAll ((do let v <- eval e X.env;standAt pos;pure v)::(backToKw pos (keywordEach kws X.env)).map (·.2))) _ _ s;refine wpAny_evalAll_cons (Yaa (thG (ha qQ s σ H _ I h) λu B x H1 D L O=>Yaa (wpAny_standAt (Yaf ?_))));exact thG (j pos qQ B σ H1 _ D O) λus s2 xs H2 U Y Z=>⟨x::xs,H2,U,.cons L Y,Z⟩
variable {g:List Value->List Value->List Value}{gV:List V->List V->List V}
end
structure Gu (N P:List Str)(sc:Scope):Prop where
 kind:sc.kind=.function
 co:sc.isCoroutine=false
 gen:sc.isGenerator=false
 nd:N.Nodup
 pre:N.take P.length=P
 par:∀x∈P,sc.names.lookup x=some .local\/sc.names.lookup x=some .cell
 nofree:∀y∈sc.names,y.2≠.free
theorem WD {j:Str->Option NameKind}{x:Str}:∀{binds:List (Str×Value)}{m:Str->Option Value},(∀v,(x,v) ∉ binds)->bindL j binds m x=m x
 | [],_,_=>rfl
 | (n,v)::r,m,h=>by
  unfold bindL;rw [WD λw B=>h w (Ybc _ B)];split
  ·have:x≠n:=by rintro rfl;exact h v Yaw
   simp [this]
  ·rfl
theorem WE {j:Str->Option NameKind}{x:Str}:∀{binds:List (Str×Value)}{m:Str->Option Value},(∀v,(x,v) ∉ binds)->bindC j binds m x=m x
 | [],_,_=>rfl
 | (n,v)::r,m,h=>by
  unfold bindC;rw [WE λw B=>h w (Ybc _ B)];split
  ·rfl
  ·have:x≠n:=by rintro rfl;exact h v Yaw
   simp [this]
theorem WF {kindOf:Str->Option NameKind}{x:Str}{v:Value}:∀{P:List Str}{vs:List Value}{i:Nat}{m:Str->Option Value},P.Nodup->P[i]?=some x->vs[i]?=some v->kindOf x=some .local ->
  bindL kindOf (P.zip vs) m x=some v
 | [],_,_,_,_,h,_,_=>by simp at h
 | _::_,[],_,_,_,_,h,_=>by simp at h
 | p::P,w::vs,0,m,nd,h1,h2,hk=>by
  simp at h1 h2;subst h1;subst h2;show bindL kindOf ((p,w)::P.zip vs) m p=_;unfold bindL;rw [WD λv hv=>(List.nodup_cons.mp nd).1 (List.of_mem_zip hv).1,if_pos hk];simp
 | p::P,w::vs,i+1,m,nd,h1,h2,hk=>by
  show bindL kindOf ((p,w)::P.zip vs) m x=_;unfold bindL;exact WF (i:=i) (List.nodup_cons.mp nd).2 (by simpa using h1) (by simpa using h2) hk
theorem WG {kindOf:Str->Option NameKind}{x:Str}{v:Value}:∀{P:List Str}{vs:List Value}{i:Nat}{m:Str->Option Value},P.Nodup->P[i]?=some x->vs[i]?=some v->kindOf x≠some .local ->
  bindC kindOf (P.zip vs) m x=some v
 | [],_,_,_,_,h,_,_=>by simp at h
 | _::_,[],_,_,_,_,h,_=>by simp at h
 | p::P,w::vs,0,m,nd,h1,h2,hk=>by
  simp at h1 h2;subst h1;subst h2;show bindC kindOf ((p,w)::P.zip vs) m p=_;unfold bindC;rw [WE λv hv=>(List.nodup_cons.mp nd).1 (List.of_mem_zip hv).1,if_neg hk];simp
 | p::P,w::vs,i+1,m,nd,h1,h2,hk=>by
  show bindC kindOf ((p,w)::P.zip vs) m x=_;unfold bindC;exact WG (i:=i) (List.nodup_cons.mp nd).2 (by simpa using h1) (by simpa using h2) hk
noncomputable def start (N:List Str)(vs:List V):St:=vs.map some++List.replicate (N.length-vs.length) none
noncomputable def YM (CX:CXT)(P:Program)(w:World)(K:W.Frag)(mg:Str->Option Value)(base:Heap)(N:List Str)(qual:Str)(scope:Scope)(f:Addr)(cd:Value)(A:Around)(outer:List Env)(s:Shared)(H:Hp)(E:XK):Cx where
 prog:=P
 w:=w
 K:=K
 mg:=mg
 base:=base
 A:=A.deeper (envOfC qual scope s.heap.objs.size f cd)
 N:=N
 s₀:=s
 H₀:=H
 env:=envOfC qual scope s.heap.objs.size f cd
 outer:=outer
 stack:=envOfC qual scope s.heap.objs.size f cd::outer
 ex:=[]
 calm:=true
 fn:=λ_=>true
 pn:=[]
 xe:=λe s'=>wpAny (model P w) (A.deeper (envOfC qual scope s.heap.objs.size f cd)) (leaving (envOfC qual scope s.heap.objs.size f cd) e) (λ_ s''=>CX outer H s E e s'') (λe' s''=>CX outer H s E e' s'') s'
theorem X3 {j:Scope}{n:Nat}{x:Str}(h:j.names.lookup x=some .cell):∃c,(cellsFrom n j.names []).lookup x=some c:=by
 have q:=W.cellsFrom_some j.names n [] (.inl h);exact Option.isSome_iff_exists.mp q
theorem ZH {CX:CXT}{P:Program}{w:World}{K:W.Frag}{mg:Str->Option Value}{base:Heap}{N ps:List Str}{qual:Str}{scope:Scope}{f:Addr}{cd:Value}{A:Around}{outer:List Env}{s O:Shared}{H:Hp}{E:XK}{us:List Value}{vs:List V}(S:Gu N ps scope)(Z:A.handled=none)(j:Env0 P w K mg base A outer s H)(hl:vs.length=ps.length)(r:Vals vs us)(x:InCallC s s.heap.objs.size (bindL (envOfC qual scope s.heap.objs.size f cd).kindOf (ps.zip us) λ_=>none) (cellsFrom (s.heap.objs.size+1) scope.names []) (bindC (envOfC qual scope s.heap.objs.size f cd).kindOf (ps.zip us) λ_=>none) O) :
  Inv (YM CX P w K mg base N qual scope f cd A outer s H E) [] (start N vs) H O:=by
 have aa:ps.length<=N.length:=by have:=Ybi List.length S.pre;rw [Ybj] at this;lia
 obtain ⟨h1,tk,rfl,U⟩:=x.done;have noA:∀b:Addr,b ∉ (YM CX P w K mg base N qual scope f cd A outer s H E).ex:=λb z=>absurd (show b∈([]:List Addr) from z) (by simp);refine ⟨⟨j.mod,S.kind,rfl,rfl,Yad _,λy z c h1 h2=>?_,λy B=>?_,λy c _ h=>?_,λ_=>Z,Around.frames_deeper j.frames,.inr ⟨rfl,rfl⟩,λb z=>absurd z (noA b),j.bs,j.bsz,λb _ _=>noA b,λb z=>absurd z (noA b),j.funs,j.frf⟩,
  rfl,j.bare,Un.kept U,⟨_,x.toInCall.ns,λi y v h1 h2 h3=>?_⟩,λy c h=>⟨_,x.cell y c h⟩,j.hok.fresh (Yad _),λy c h=>?_,λp D=>absurd (show p∈([]:List (Addr×Obj)) from D) (by simp),j.hok.kept U,?_⟩
 ·exact name_of_addr x.apart (Ycd h1) (Ycd h2)
 ·have B:scope.names.lookup y=some .cell\/scope.names.lookup y=some .free:=B;rcases B with B | B
  ·exact X3 B
  ·exact absurd rfl (S.nofree _ (Ycd B))
 ·exact Ycs (x.above y c (Ycd h))
 ·have hi:i<vs.length:=by
   unfold start at h2;by_cases hi:i<vs.length
   ·exact hi
   ·rw [Ybw (by simpa using hi)] at h2;rw [List.getElem?_replicate] at h2;split at h2 <;> cases h2
  have ha:vs[i]?=some v:=by
   unfold start at h2;rw [Ybp (by simpa using hi),Yba] at h2;cases e:vs[i]? with
   | none=>rw [e] at h2;cases h2
   | some a=>rw [e] at h2;cases h2;rfl
  obtain ⟨u,Y,rv⟩:=r.get ha;have D:ps[i]?=some y:=by
   rw [<-S.pre,List.getElem?_take_of_lt (by lia)];exact h1
  have L:ps.Nodup:=by rw [<-S.pre];exact S.nd.sublist (List.take_sublist _ _)
  refine ⟨u,rv,?_⟩;rcases S.par y (Yau D) with k | k
  ·exact .inl ⟨k,WF L D Y k⟩
  ·obtain ⟨c,e⟩:=X3 (n:=s.heap.objs.size+1) k;refine .inr ⟨.inl k,c,e,?_⟩;have q:=x.cell y c e;rw [WG L D Y (by show scope.names.lookup y≠_;rw [k];decide)] at q;exact q
 ·exact j.hok.fresh (Ycs (x.above y c (Ycd h)))
 ·unfold start;show _=N.length;rw [Yag,Yab,List.length_replicate]
  lia
theorem ZI {CX:CXT}{P:Program}{w:World}{K:W.Frag}{mg:Str->Option Value}{base:Heap}{k:Nat}{f:Addr}{name qual:Str}{params:Arguments}{body:List Stmt}{scope:Scope}{dV kV L pm j ct oc:Value}{an od:Option Addr}{Z:Array (Option Value)}{N ps:List Str}{sp:Sp}(lk:K.lookup f=some ⟨oc,od,.func (W.fnOf name qual params body scope dV kV L pm an j ct),Z⟩)(aa:W.codeIn K j qual=true)(S:Gu N ps scope)(len:∀vs H Q E,sp vs H Q E->vs.length=ps.length)(jQ:∀(A:Around)(outer:List Env)(s:Shared)(H:Hp)(vs:List V)(Q:VK)(E:XK),Room k (A.deeper (envOfC qual scope s.heap.objs.size f j))->sp vs H Q E ->
   ∃t,PSs (YM CX P w K mg base N qual scope f j A outer s H E) body t/\t { nx:=λ_ H'=>Q .non H',rt:=Q } (start N vs) H) :
  FnOk P w K mg base CX (k+1) f (W.fnOf name qual params body scope dV kV L pm an j ct) ps sp:=by
 refine ⟨len,λA outer s H ac us vs Q E hr O hb r U=>?_⟩;have hl:=len _ _ _ _ U;have KX:K.In s.heap:=O.mod.kin.keeps λb o e=>(O.bs b o e).1;have ab:s.heap.NoLimit:=O.mod.nolimit.keeps λb o e=>(O.bs b o e).1;have B:∀y∈ps.zip us,scope.names.lookup y.1=some .local\/(scope.names.lookup y.1=some .cell/\((cellsFrom (s.heap.objs.size+1) scope.names []).lookup y.1).isSome=true):=λ⟨n,v⟩ hy=>by
  rcases S.par n (List.of_mem_zip hy).1 with q | q
  ·exact .inl q
  ·exact .inr ⟨q,W.cellsFrom_some _ _ _ (.inl q)⟩
 refine codeAny_call_function hr.depth (KX _ _ lk) rfl S.co S.gen rfl (W.codeRec_of KX aa) (hb _ _ _ _ ?_);refine wpAny_newFunctionEnv_cells S.kind B λad he s1 x=>?_;subst he;refine ⟨ab.keeps x.toInCall.keep,codeAny_func ?_⟩;obtain ⟨t,ht,hq⟩:=jQ A outer s H vs Q E (hr.deeper _) U;have I:Inv (YM CX P w K mg base N qual scope f j A outer s H E) [] (start N vs) H s1:=ZH S hr.hd O hl r x;refine Ybr (ht [] s1 (start N vs) H _ I hq) (λfl s' D=>?_) λe s' D=>D;have fin:∀{Y:St}{H':Hp}{v:V}{u:Value},Inv (YM CX P w K mg base N qual scope f j A outer s H E) [] Y H' s'->RelV v u->Q v H'->CE outer P w H s Q u s':=
  λ{Y H' v u} J rv q=>⟨v,H',J.os,J.bare,J.base,J.hok,rv,q⟩
 cases fl with
 | ret u=>
  obtain ⟨v,Y,H',J,rv,q⟩:=D;exact fin J rv q
 | next=>
  obtain ⟨Y,H',J,q⟩:=D;exact fin (v:=V.non) (u:=Value.none) J rfl q
 | brk=>
  obtain ⟨_,_,_,q⟩:=D;exact False.elim q
 | cont=>
  obtain ⟨_,_,_,q⟩:=D;exact False.elim q
section
variable {X:Cx}{x:Str}{p pos:Pos}{e:Expr}{es:List Expr}{t:TA}{id T:String}{r:List V->Hp->VK->Prop}
noncomputable def tCB (r:List V->Hp->VK->Prop)(t:TA):TE:=λσ H Q=>t σ H λvs H1=>r vs H1 Q
theorem Gw (D:J6 X (.builtin id) r)(L:Gl X x)(O:X.mg x=none)(U:bootBuiltins x=some (.builtin id))(ha:PA X (e::es) t)(Y:x ≠ "__name__" := by decide)(j:(x == ("__debug__" : Str))=false:=by decide)(Z:starEach (e::es) X.env=(false,eval e X.env)::starEach es X.env:=by rfl)(B:(backTo pos (starEach es X.env)).any (·.1)=false:=by rfl):PE X (.Call (.Name x p) (e::es) [] pos) (tCB r t):=by
 intro qQ s σ H Q I h;refine Ydq (U6 I L O U ?_ Y j);exact PyProof.Rows.callWith_builtin1 (thG (ha pos qQ s σ H _ I h) λus s1 vs H1 I1 r1 q1=>D qQ s1 σ H1 vs us Q I1 r1 q1) Z B
theorem G0 (D:J6 X (.type T) r)(L:Gl X x)(O:X.mg x=none)(U:bootBuiltins x=some (.type T))(ha:PA X (e::es) t)(Y:x ≠ "__name__" := by decide)(j:(x == ("__debug__" : Str))=false:=by decide)(Z:starEach (e::es) X.env=(false,eval e X.env)::starEach es X.env:=by rfl)(B:(backTo pos (starEach es X.env)).any (·.1)=false:=by rfl):PE X (.Call (.Name x p) (e::es) [] pos) (tCB r t):=by
 intro qQ s σ H Q I h;refine Ydq (U6 I L O U ?_ Y j);exact PyProof.Rows.callWith_type1 (thG (ha pos qQ s σ H _ I h) λus s1 vs H1 I1 r1 q1=>D qQ s1 σ H1 vs us Q I1 r1 q1) Z B
end
end L2
namespace HT
open PySem PyProof.Rows
section
variable {prog:Program}{w:World}{A:Around}{E:EX}{s:Shared}
noncomputable def sIx (n d:Nat):Option Int->Nat
 | none=>d
 | some v=>if v<0 then (v+(n:Int)).toNat else min v.toNat n
theorem sIx_none (n d:Nat):sIx n d none=d:=rfl
theorem sIx_nat (n d k:Nat):sIx n d (some (k:Int))=min k n:=by
 show (if (k:Int)<0 then ((k:Int)+(n:Int)).toNat else min (k:Int).toNat n)=min k n;rw [if_neg (by lia),Int.toNat_natCast]
theorem Zex (n d:Nat)(B:d<=n)(o:Option Int):sIx n d o<=n:=by
 cases o with
 | none=>exact B
 | some v=>
  show (if v<0 then (v+(n:Int)).toNat else min v.toNat n)<=n;by_cases j:v<0
  ·rw [if_pos j];lia
  ·rw [if_neg j];exact Nat.min_le_right _ _
theorem ZJ (v:Int)(n d:Nat):(if v<0 then max (v+(n:Int)) 0 else min v (n:Int))=((sIx n d (some v):Nat):Int):=by
 show (if v<0 then max (v+(n:Int)) 0 else min v (n:Int))=(((if v<0 then (v+(n:Int)).toNat else min v.toNat n):Nat):Int);by_cases j:v<0
 ·simp only [if_pos j];lia
 ·simp only [if_neg j];lia
theorem YN (lo hi:Option Int)(n:Nat):Builtin.Slice.sliceAdjust lo hi 1 (n:Int)=(((sIx n 0 lo:Nat):Int),((sIx n n hi:Nat):Int)):=by
 have h1:¬ ((1:Int)<0):=by lia
 unfold Builtin.Slice.sliceAdjust;simp only [h1,if_false];refine Prod.ext ?_ ?_
 ·cases lo with
  | none=>rfl
  | some v=>exact ZJ v n 0
 ·cases hi with
  | none=>rfl
  | some v=>exact ZJ v n n
theorem YO (i j:Nat):Builtin.Slice.slicePlaces (i:Int) (j:Int) 1=j-i:=by
 unfold Builtin.Slice.slicePlaces;have h1:(1:Int) > 0:=by lia
 simp only [h1,if_true,Int.ediv_one];split <;> lia
theorem U8 {v:Value}{o:Option Int}{Q:Option Int->Shared->Prop}(p:IsPart v o)(h:Q o s):wpAny (model prog w) A (Builtin.Slice.slicePartIndex v) Q E s:=by
 cases p with
 | none=>exact slicePart_none h
 | int i t=>exact slicePart_int h
theorem Ul {sl:Addr}{D L:Value}{lo hi:Option Int}{n:Nat}{Q:Int×Int×Nat->Shared->Prop}(O:s.heap.IsSliceOf sl D L .none)(pl:IsPart D lo)(U:IsPart L hi)(h:Q (((sIx n 0 lo:Nat):Int),1,sIx n n hi-sIx n 0 lo) s):wpAny (model prog w) A (Builtin.Slice.sliceApplied (.ref sl) (pure (n:Int))) Q E s:=by
 obtain ⟨Z,j,Y,B⟩:=id O;unfold Builtin.Slice.sliceApplied Builtin.Slice.sliceFields;refine Yaa (Yaa (wpAny_field j B (x:=D) rfl (Yaa (wpAny_field j B (x:=L) rfl (Yaa (wpAny_field j B (x:=.none) rfl (Yaf ?_)))))));refine Yaa (slicePart_none ?_);show wpAny _ _ (if ((1:Int) == 0)=true then _ else _) _ _ s;rw [if_neg (by decide)];refine Yaa (U8 pl (Yaa (U8 U (Yaa (Yaf ?_)))));show wpAny _ _ (match Builtin.Slice.sliceAdjust lo hi 1 (n:Int) with | (lo,hi)=>pure (lo,(1:Int),Builtin.Slice.slicePlaces lo hi 1)) _ _ s;rw [YN lo hi n];show wpAny _ _ (pure (((sIx n 0 lo:Nat):Int),(1:Int),Builtin.Slice.slicePlaces ((sIx n 0 lo:Nat):Int) ((sIx n n hi:Nat):Int) 1)) _ _ s;rw [YO];exact Yaf h
theorem Zbo (xs:Array Value)(i k:Nat):((List.range k).filterMap λ(m:Nat)=>xs[((i:Int)+(m:Int) * 1).toNat]?).toArray=((xs.toList.drop i).take k).toArray:=by
 have e:(λ(m:Nat)=>xs[((i:Int)+(m:Int) * 1).toNat]?)=λm=>xs[i+m]?:=by
  funext m
  have:((i:Int)+(m:Int) * 1).toNat=i+m:=by lia
  rw [this]
 rw [e];have:=pick_run xs i k;rw [List.filterMap_map] at this;have j:((λx=>xs[x]?)∘λx=>i+x)=λm=>xs[i+m]?:=rfl;rw [j] at this;rw [this]
theorem getItem_tuple_cut {t sl:Addr}{j:Array Value}{Z vu:Value}{lo hi:Option Int}{Q:EX}(D:IsTup s.heap t j)(hs:s.heap.IsSliceOf sl Z vu .none)(pl:IsPart Z lo)(pu:IsPart vu hi)(hw:¬ (sIx j.size 0 lo=0/\sIx j.size j.size hi=j.size))(h:Q (.ref s.heap.objs.size) { s with heap:=s.heap.push { cls:=.type "tuple", data:=.seq ((j.toList.drop (sIx j.size 0 lo)).take (sIx j.size j.size hi-sIx j.size 0 lo)).toArray } })(hsz:j.size<=sizeLine):wpAny (model prog w) A (getItem (.ref t) (.ref sl)) Q E s:=by
 have B:sizeOk (.seq ((j.toList.drop (sIx j.size 0 lo)).take (sIx j.size j.size hi-sIx j.size 0 lo)).toArray):=by
  show ((j.toList.drop (sIx j.size 0 lo)).take (sIx j.size j.size hi-sIx j.size 0 lo)).toArray.size<=sizeLine;rw [Yar,Ybj,Ydw,Ybd]
  lia
 have hj:sIx j.size j.size hi<=j.size:=Zex _ _ (Yad _) hi;obtain ⟨os,L,O,aa⟩:=id hs;have U:s.TypeIs (.ref sl) "slice" := ⟨os,L,O⟩;unfold getItem
 try with_reducible refine Ydc ?_
 first | refine Yaa (Yaf ?_) | skip
 refine Yaa (wpAny_sequenceKey D.typeIs (by decide) ?_);refine Yaa (wpAny_callSpecial?_slot (name:=Str.ofString "__getitem__") D.typeIs PyProof.Rows.slot_tuple_getitem
  (wpAny_call_entry PyProof.Rows.slot_tuple_getitem D.typeIs entry_tuple_getitem ?_ (args_tuple_getitem _ _)))
 show wpAny _ _ (Builtin.Tuple.tupleItemsOf (.ref t) >>= _) _ _ s;refine Yaa (tupleItemsOf_ D ?_);refine Yaa (wpAny_typeOf U ?_);rw [if_pos (by decide)];refine Yaa (Ul hs pl pu ?_);have Y:¬ ((((sIx j.size 0 lo:Nat):Int) == 0 && (1:Int) == 1 && (sIx j.size j.size hi-sIx j.size 0 lo) == j.size)=true):=by
  intro q;rw [Yby,Yby] at q;have q1:((sIx j.size 0 lo:Nat):Int)=0:=eq_of_beq q.1.1;have q2:sIx j.size j.size hi-sIx j.size 0 lo=j.size:=eq_of_beq q.2;exact hw ⟨by lia,by lia⟩
 show wpAny _ _ (if (((sIx j.size 0 lo:Nat):Int) == 0 && (1:Int) == 1 && (sIx j.size j.size hi-sIx j.size 0 lo) == j.size)=true then _ else _) _ _ s;rw [if_neg Y,Zbo]
 first
  | exact Yaa (m:=Builtin.Tuple.tupleExact _) (wpAny_newObj_type (Yaf ⟨_,rfl,Yaf h⟩) B)
  | exact Yaa (m:=Builtin.Tuple.tupleExact _) (wpAny_newObj_type (Yaa (Yaf (Yaf ⟨_,rfl,Yaf h⟩))) B)
  | exact Yaa (Yaa (m:=Builtin.Tuple.tupleExact _) (wpAny_newObj_type (Yaf (Yaf ⟨_,rfl,Yaf h⟩)) B))
  | exact Yaa (Yaa (m:=Builtin.Tuple.tupleExact _) (wpAny_newObj_type (Yaf ⟨_,rfl,Yaf h⟩) B))
end
end HT
namespace L2
open PySem PySem.Spec PyProof.Rows
noncomputable abbrev TO:=St->Hp->(Option Int->Hp->Prop)->Prop
noncomputable def PO (X:Cx)(e:Option Expr)(t:TO):Prop:=
 ∀(qQ:List (Addr×Obj))(s:Shared)(σ:St)(H:Hp)(Q:Option Int->Hp->Prop),Inv X qQ σ H s->t σ H Q ->
  wpAny (model X.prog X.w) X.A (evalPart e X.env) (λu s'=>∃o H',Inv X qQ σ H' s'/\IsPart u o/\Q o H') X.xe s
noncomputable def Zc7:TO:=λ_ H Q=>Q none H
noncomputable def Zg1 (t:TE):TO:=λσ H Q=>t σ H λx H1=>∃i,x=.int i/\Q (some i) H1
theorem O2 {ns:List Int}:∀{us:List Value},Vals (ns.map V.int) us->IntsAre us ns:=by
 induction ns with
 | nil=>intro us r;rw [List.map_nil] at r;cases r;exact .nil
 | cons n ns ih=>
  intro us r;rw [Yaq] at r;cases r with
  | cons r1 r2=>
   obtain ⟨t,e⟩:=r1;subst e;exact .cons n t (ih r2)
section
variable {X:Cx}{e:Expr}{te:TE}{lo hi:Option Expr}{tl th:TO}{pos p2:Pos}
theorem Vv:PO X none Zc7:=by
 intro qQ s σ H Q I h;rw [evalPart_none];exact Yaf ⟨none,H,I,.none,h⟩
theorem Vw (h:PE X e te):PO X (some e) (Zg1 te):=by
 intro qQ s σ H Q I j;rw [evalPart_some];refine thG (h qQ s σ H _ I j) λu O x H1 B D L=>?_;obtain ⟨i,rfl,q⟩:=L;obtain ⟨t,rfl⟩:=D;exact ⟨some i,H1,B,.int i t,q⟩
noncomputable def SlR (X:Cx)(r:V->Option Int->Option Int->Hp->VK->Prop):Prop:=
 ∀(qQ:List (Addr×Obj))(s:Shared)(σ:St)(H:Hp)(x:V)(v vl vu:Value)(lo hi:Option Int)(sl:Addr)(Q:VK),Inv X qQ σ H s->RelV x v->s.heap.IsSliceOf sl vl vu .none->IsPart vl lo->IsPart vu hi->r x lo hi H Q ->
  ∃T id,typeLookup (.type T) "__getitem__" = pure (some (.builtin id))/\s.TypeIs v T/\wpAny (model X.prog X.w) X.A (getItem v (.ref sl)) (EP X qQ σ Q) X.xe s
noncomputable def tSl (r:V->Option Int->Option Int->Hp->VK->Prop)(te:TE)(tl th:TO):TE:=λσ H Q=>te σ H λx H1=>tl σ H1 λl H2=>th σ H2 λu j=>r x l u j Q
theorem Uq {r:V->Option Int->Option Int->Hp->VK->Prop}(O:SlR X r)(U:PE X e te)(Y:PO X lo tl)(Z:PO X hi th):PE X (.Subscript e (.Slice lo hi none p2) pos) (tSl r te tl th):=by
 intro qQ s σ H Q I h;refine Subscript_ (thG (U qQ s σ H _ I h) λv s1 x H1 I1 r1 q1=>?_);refine wpAny_Slice (thG (Y qQ s1 σ H1 _ I1 q1) λB s2 l H2 I2 pl q2=>thG (Z qQ s2 σ H2 _ I2 q2) λD j u L I3 pu q3=>?_);rw [evalPart_none];refine Yaf ?_;have I4:Inv X qQ σ L { j with heap:=j.heap.push { cls:=.type "slice", data:=.fields #[B,D,.none] } }:=I3.kept (t':=j.toks) λb ob q=>Yao _ q;obtain ⟨T,id,hT,ht,hg⟩:=O qQ { j with heap:=j.heap.push { cls:=.type "slice", data:=.fields #[B,D,.none] } } σ L x v B D l u j.heap.objs.size Q I4 r1 (Heap.IsSliceOf.new ..) pl pu q3;show wpAny (model X.prog X.w) X.A (subscriptTail e (.Slice lo hi none p2) v (.ref j.heap.objs.size)) (EP X qQ σ Q) X.xe { j with heap:=j.heap.push { cls:=.type "slice", data:=.fields #[B,D,.none] } };exact tail_any (ops:=[.ref j.heap.objs.size,v]) ht hT hg (by with_unfolding_all rfl)
noncomputable def YQ (xs:List V)(lo hi:Option Int):List V:=(xs.drop (HT.sIx xs.length 0 lo)).take (HT.sIx xs.length xs.length hi-HT.sIx xs.length 0 lo)
theorem UD (xs:List V)(lo hi:Option Int):(YQ xs lo hi).length<=xs.length:=by
 unfold YQ;rw [Ybj,Ydw]
 lia
noncomputable def ZhJ (K:W.Frag):V->Option Int->Option Int->Hp->VK->Prop:=λx lo hi H Q=>∃a xs,x=.ref a/\SqT K H a xs /\
 ¬ (HT.sIx xs.length 0 lo=0/\HT.sIx xs.length xs.length hi=xs.length)/\∀p,H p=none->Q (.ref p) (upd H p (.tup (YQ xs lo hi)))
theorem Zey:SlR X (ZhJ X.K):=by
 intro qQ s σ H x v vl vu lo hi sl Q I L O pl U h;obtain ⟨a,xs,rfl,Y,Z,q⟩:=h;cases L;obtain ⟨its,r,B,D⟩:=I.tuple Y;have j:its.toArray.size=xs.length:=by rw [Yar];exact r.length.symm
 refine ⟨"tuple", _,PyProof.Rows.slot_tuple_getitem.lookup,B.typeIs,?_⟩;refine HT.getItem_tuple_cut B O pl U (by rw [j];exact Z) ?_ (by rw [j];exact D);rw [j];refine ⟨.ref s.heap.objs.size,_,I.laid (t':=s.toks) (o:=.tup (YQ xs lo hi)) (λb ob q=>Yao _ q) (Yad _) ?_,rfl,q _ (I.hok.fresh (Yad _))⟩;exact ⟨Ycb (UD xs lo hi) D,_,(r.drop (HT.sIx xs.length 0 lo)).take (HT.sIx xs.length xs.length hi-HT.sIx xs.length 0 lo),IsTup.new _ _⟩
end
noncomputable def ixN (n:Nat)(i:Int):Option Nat:=if 0<=i then (if i<n then some i.toNat else none) else if -(n:Int)<=i then some (i+n).toNat else none
noncomputable def atI {α:Type}(xs:List α)(i:Int):Option α:=(ixN xs.length i).bind λj=>xs[j]?
theorem ZK {n:Nat}{i:Int}{j:Nat}(h:ixN n i=some j):seqIndex? i n=some j/\j<n/\-(n:Int)<=i/\i<n:=by
 unfold ixN at h;by_cases h0:0<=i
 ·rw [if_pos h0] at h;by_cases h1:i<n
  ·rw [if_pos h1] at h;have e:i.toNat=j:=Ybo h;exact ⟨by rw [seqIndex_of h0 h1,e],by lia,by lia,h1⟩
  ·rw [if_neg h1] at h;cases h
 ·rw [if_neg h0] at h;by_cases h1:-(n:Int)<=i
  ·rw [if_pos h1] at h;have e:(i+n).toNat=j:=Ybo h;exact ⟨by rw [seqIndex_neg (by lia) h1,e],by lia,h1,by lia⟩
  ·rw [if_neg h1] at h;cases h
theorem ZL {α:Type}{xs:List α}{i:Int}{v:α}(h:atI xs i=some v):∃j,seqIndex? i xs.length=some j/\xs[j]?=some v/\j<xs.length/\-(xs.length:Int)<=i/\i<xs.length:=by
 unfold atI at h;cases e:ixN xs.length i with
 | none=>rw [e] at h;cases h
 | some j=>
  rw [e] at h;obtain ⟨h1,h2,B,D⟩:=ZK e;exact ⟨j,h1,h,h2,B,D⟩
theorem Gq {α:Type}{xs:List α}{j:Nat}{v:α}(h:xs[j]?=some v):atI xs (j:Int)=some v:=by
 have B:j<xs.length:=(Yaj.mp h).1;have e:ixN xs.length (j:Int)=some j:=by
  unfold ixN;rw [if_pos (by lia),if_pos (by lia)];simp
 unfold atI;rw [e];exact h
noncomputable def Zc8 (b:Expr):Prop:=∀o i,subscripted b false o i=operate [o,i] (getItem o i)
noncomputable def IxR (X:Cx)(r:R2):Prop:=
 ∀(value j:Expr)(qQ:List (Addr×Obj))(s:Shared)(σ:St)(H:Hp)(x y:V)(v u:Value)(Q:VK),Inv X qQ σ H s->RelV x v->RelV y u->r x y H Q ->
  subscripted j false v u=operate [v,u] (getItem v u)->wpAny (model X.prog X.w) X.A (subscriptTail value j v u) (EP X qQ σ Q) X.xe s
noncomputable def MtR (X:Cx)(id:String)(r:V->List V->Hp->VK->Prop):Prop:=
 ∀(qQ:List (Addr×Obj))(s:Shared)(σ:St)(H:Hp)(x:V)(xs:List V)(v:Value)(us:List Value)(Q:VK),Inv X qQ σ H s->RelV x v->Vals xs us->r x xs H Q ->
  wpAny (model X.prog X.w) X.A (call (.builtin id) (v::us)) (EP X qQ σ Q) X.xe s
section
variable {X:Cx}{a b:Expr}{ta tb:TE}{pos:Pos}
theorem GN {r:R2}(j:IxR X r)(ha:PE X a ta)(B:PE X b tb)(D:Zc8 b):PE X (.Subscript a b pos) (tOp r ta tb):=by
 intro qQ s σ H Q I h;exact Subscript_ (ZgS ha B I h λv u L x y H2 O U Y q=>j a b qQ L σ H2 x y v u Q O U Y q (D _ _))
noncomputable def ZhK (K:W.Frag):R2:=λx y H Q=>∃p xs i v,x=.ref p/\y=.int i/\SqL K H p xs/\atI xs i=some v/\Q v H
noncomputable def ZhL (K:W.Frag):R2:=λx y H Q=>∃p xs i v,x=.ref p/\y=.int i/\SqT K H p xs/\atI xs i=some v/\Q v H
theorem Zc9:IxR X (ZhK X.K):=by
 intro value B qQ s σ H x y v u Q I Y Z h O;obtain ⟨p,xs,i,z,rfl,rfl,hq,he,q⟩:=h;cases Y;obtain ⟨t,rfl⟩:=Z;obtain ⟨its,r,pl,hz⟩:=I.list hq;obtain ⟨j,h1,h2,h3,h4,h5⟩:=ZL he;obtain ⟨w,U,D⟩:=r.get h2;have hl:=r.length;have hn:=WC;have fin:EP X qQ σ Q w s:=⟨z,H,I,D,q⟩;by_cases h0:0<=i
 ·have L:i.toNat=j:=by
   rw [seqIndex_of h0 h5] at h1;exact Ybo h1
  exact item_listR pl.isList h0 (by lia) (by rw [L];simpa using U) fin O
 ·have L:(i+(its.toArray.size:Int)).toNat=j:=by
   rw [seqIndex_neg (by lia) h4] at h1;rw [Yar,<-hl];exact Ybo h1
  exact subscriptTail_builtinR (x:=w) pl.isList.typeIs slot_list_getitem.lookup
   (wpAny_getItem_list_neg (Q:=λr s'=>r=w/\EP X qQ σ Q r s') pl.isList (by lia) (by rw [Yar] <;> lia) (by lia) (by rw [L];simpa using U) ⟨rfl,fin⟩) O
theorem Zez:IxR X (ZhL X.K):=by
 intro value B qQ s σ H x y v u Q I L O h U;obtain ⟨p,xs,i,z,rfl,rfl,Y,Z,q⟩:=h;cases L;obtain ⟨t,rfl⟩:=O;obtain ⟨its,r,pl,hz⟩:=I.tuple Y;obtain ⟨j,h1,h2,h3,h4,h5⟩:=ZL Z;obtain ⟨w,ew,D⟩:=r.get h2;have hl:=r.length;have hn:=WC;have fin:EP X qQ σ Q w s:=⟨z,H,I,D,q⟩;exact subscriptTail_builtinR (x:=w) pl.typeIs slot_tuple_getitem.lookup
  (getItem_tuple (j:=j) (Q:=λr s'=>r=w/\EP X qQ σ Q r s') pl (by lia) (by lia) (by rw [Yar,<-hl];exact h1) (by simpa using ew) ⟨rfl,fin⟩) U
theorem YR (its:List Value)(n j:Nat)(u:Value):Obj.mapSeq (·.setIfInBounds j u) { cls:=.type "list", data:=.seq its.toArray n }={ cls:=.type "list", data:=.seq (its.set j u).toArray n }:=by
 simp [Obj.mapSeq]
theorem Inv.lst {qQ:List (Addr×Obj)}{σ:St}{H:Hp}{s:Shared}{p:Addr}{xs:List V}(I:Inv X qQ σ H s)(h:H p=some (.lst xs)) :
  ∃(its:List Value)(n:Nat),Vals xs its/\s.heap.get? p=some { cls:=.type "list", data:=.seq its.toArray n }/\xs.length<=sizeLine:=by
 obtain ⟨z,its,n,r,e⟩:=I.hok p _ h;exact ⟨its,n,r,e,z⟩
theorem Inv.lstUpd {qQ:List (Addr×Obj)}{σ:St}{H:Hp}{s:Shared}{p:Addr}{xs ys:List V}{its its':List Value}{n j:Nat}{f:Obj->Obj}(I:Inv X qQ σ H s)(h:H p=some (.lst xs))(D:s.heap.get? p=some { cls:=.type "list", data:=.seq its.toArray n })(B:f { cls:=.type "list", data:=.seq its.toArray n }={ cls:=.type "list", data:=.seq its'.toArray j })(r:Vals ys its')(hz:ys.length<=sizeLine)(t:Nat) :
  Inv X qQ σ (upd H p (.lst ys)) { s with heap:=s.heap.update p f,toks:=t }:=by
 have e:(s.heap.update p f).get? p=some { cls:=.type "list", data:=.seq its'.toArray j }:=by
  rw [Heap.get?_update_self f D (by rw [B] <;> rfl),B]
 refine I.write (x:=p) (e:=p) (by rw [h];trivial) (.inl rfl) (λb u L q=>(Ydx _ _ (Ne.symm L)).trans q) ⟨_,e⟩ ?_;exact ⟨hz,its',j,r,e⟩
noncomputable def Zg2:V->V->V->Hp->(Hp->Prop)->Prop:=λo i v H Q=>∃p xs k j,o=.ref p/\i=.int k/\H p=some (.lst xs)/\ixN xs.length k=some j/\Q (upd H p (.lst (xs.set j v)))
theorem X4:ZhE X Zg2:=by
 intro qQ s σ H o i v ov iv u Q I ro ri rv h;obtain ⟨p,xs,k,j,rfl,rfl,O,hj,q⟩:=h;cases ro;obtain ⟨t,rfl⟩:=ri;obtain ⟨its,n,r,B,hz⟩:=I.lst O;obtain ⟨h1,h2,U,Y⟩:=ZK hj;have D:=r.length;have hn:=WC;have Z:Inv X qQ σ (upd H p (.lst (xs.set j v))) { s with heap:=s.heap.update p (Obj.mapSeq (·.setIfInBounds j u)) }:=
  I.lstUpd O B (YR its n j u) (r.set rv j) (by rw [List.length_set];exact hz) s.toks
 by_cases h0:0<=k
 ·have L:k.toNat=j:=by
   rw [seqIndex_of h0 Y] at h1;exact Ybo h1
  exact W.ki_setAt B h0 (by lia) (by rw [Yar,<-D];exact Y) (by rw [L];exact ⟨_,Z,q⟩)
 ·have L:(k+(its.toArray.size:Int)).toNat=j:=by
   rw [seqIndex_neg (by lia) U] at h1;rw [Yar,<-D];exact Ybo h1
  exact W.ki_setBack B (by lia) (by rw [Yar,<-D];exact U) (by lia) (by rw [L];exact ⟨_,Z,q⟩)
theorem WH (lo hi:Option Int)(n:Nat):(sliceBounds lo hi none n).1=((HT.sIx n 0 lo:Nat):Int)/\(sliceBounds lo hi none n).2.1=((HT.sIx n n hi:Nat):Int)/\(sliceBounds lo hi none n).2.2=1:=by
 refine ⟨?_,?_,rfl⟩
 ·cases lo with
  | none=>simp [sliceBounds,HT.sIx]
  | some i=>
   simp only [sliceBounds,HT.sIx,Option.getD_none,show (1:Int) > 0 by decide,if_true];by_cases h:i<0
   ·simp only [h,if_true] <;> lia
   ·simp only [h,if_false] <;> lia
 ·cases hi with
  | none=>simp [sliceBounds,HT.sIx]
  | some i=>
   simp only [sliceBounds,HT.sIx,Option.getD_none,show (1:Int) > 0 by decide,if_true];by_cases h:i<0
   ·simp only [h,if_true] <;> lia
   ·simp only [h,if_false] <;> lia
theorem Vx (its:List Value)(lo hi:Option Int):slicePick its.toArray lo hi none=((its.drop (HT.sIx its.length 0 lo)).take (HT.sIx its.length its.length hi-HT.sIx its.length 0 lo)).toArray:=by
 obtain ⟨h1,h2,j⟩:=WH lo hi its.toArray.size;unfold slicePick;rw [h1,h2,j];simp only [sliceRange_one,pick_run,Yar] <;> rfl
noncomputable def ZhM (K:W.Frag):V->Option Int->Option Int->Hp->VK->Prop:=λx lo hi H Q=>∃a xs,x=.ref a/\SqL K H a xs/\∀p,H p=none->Q (.ref p) (upd H p (.lst (YQ xs lo hi)))
theorem Zda:SlR X (ZhM X.K):=by
 intro qQ s σ H x v Z vu lo hi sl Q I B D pl L h;obtain ⟨a,xs,rfl,O,q⟩:=h;cases B;obtain ⟨its,r,j,U⟩:=I.list O;have Y:=r.length;refine ⟨"list", _,slot_list_getitem.lookup,j.isList.typeIs,?_⟩;refine wpAny_getItem_list_slice j.isList D pl L .none (by simp) ?_ (by rw [Yar] <;> lia);rw [Vx,<-Y];refine ⟨.ref s.heap.objs.size,_,I.laid (t':=s.toks) (o:=.lst (YQ xs lo hi)) (λb ob q=>Yao _ q) (Yad _) ?_,rfl,q _ (I.hok.fresh (Yad _))⟩;exact ⟨Ycb (UD xs lo hi) U,_,0,(r.drop (HT.sIx xs.length 0 lo)).take (HT.sIx xs.length xs.length hi-HT.sIx xs.length 0 lo),Ybl _ rfl⟩
noncomputable def Vy:V->Bool
 | .non=>true
 | .bl _=>true
 | .int _=>true
 | .str _=>true
 | _=>false
noncomputable def eqV:V->V->Bool
 | .non,.non=>true
 | .bl a,.bl b=>a == b
 | .bl a,.int b=>(if a then 1 else 0) == b
 | .int a,.bl b=>a == (if b then 1 else 0)
 | .int a,.int b=>a == b
 | .str a,.str b=>a == b
 | _,_=>false
theorem ZeA {A:Around}{s:Shared}{y x:V}{u v:Value}(D:RelV y u)(j:RelV x v)(L:Vy y=true)(fx:Vy x=true):SeqAt.EqAt A s u v (eqV y x):=by
 cases y with
 | non=>
  cases D;cases x with
  | non=>cases j;exact SeqAt.EqAt.same _
  | bl b=>cases j;exact SeqAt.EqAt.none_bool b
  | int b=>obtain ⟨t,rfl⟩:=j;exact SeqAt.EqAt.none_int b t
  | str b=>obtain ⟨t,rfl⟩:=j;exact SeqAt.EqAt.none_str b t
  | _=>exact absurd (show false=true from fx) Yas
 | bl a=>
  cases D;cases x with
  | non=>cases j;exact SeqAt.EqAt.bool_none a
  | bl b=>cases j;exact SeqAt.EqAt.bool_bool a b
  | int b=>obtain ⟨t,rfl⟩:=j;exact SeqAt.EqAt.bool_int a b t
  | str b=>obtain ⟨t,rfl⟩:=j;exact SeqAt.EqAt.bool_str a b t
  | _=>exact absurd (show false=true from fx) Yas
 | int a=>
  obtain ⟨B,rfl⟩:=D;cases x with
  | non=>cases j;exact SeqAt.EqAt.int_none a B
  | bl b=>cases j;exact SeqAt.EqAt.int_bool a B b
  | int b=>obtain ⟨t,rfl⟩:=j;exact SeqAt.EqAt.int_int a B b t
  | str b=>obtain ⟨t,rfl⟩:=j;exact SeqAt.EqAt.int_str a B b t
  | _=>exact absurd (show false=true from fx) Yas
 | str a=>
  obtain ⟨B,rfl⟩:=D;cases x with
  | non=>cases j;exact SeqAt.EqAt.str_none a B
  | bl b=>cases j;exact SeqAt.EqAt.str_bool a B b
  | int b=>obtain ⟨t,rfl⟩:=j;exact SeqAt.EqAt.str_int a B b t
  | str b=>obtain ⟨t,rfl⟩:=j;exact SeqAt.EqAt.str_str a B b t
  | _=>exact absurd (show false=true from fx) Yas
 | _=>exact absurd (show false=true from L) Yas
noncomputable def eqU (x:V)(u:Value):Bool:=match u with
 | .none=>eqV .non x
 | .bool b=>eqV (.bl b) x
 | .int i _=>eqV (.int i) x
 | .str z _=>eqV (.str z) x
 | _=>false
theorem ZcC {x y:V}{u:Value}(r:RelV y u)(f:Vy y=true):eqU x u=eqV y x:=by
 cases y with
 | non=>cases r;rfl
 | bl b=>cases r;rfl
 | int i=>obtain ⟨t,rfl⟩:=r;rfl
 | str z=>obtain ⟨t,rfl⟩:=r;rfl
 | _=>exact absurd (show false=true from f) Yas
theorem UE {x:V}:∀{xs:List V}{us:List Value},Vals xs us->xs.all Vy=true->us.any (eqU x)=xs.any λy=>eqV y x
 | _,_,.nil,_=>rfl
 | y::xs,u::us,.cons r t,f=>by
  rw [List.all_cons,Yby] at f;rw [List.any_cons,List.any_cons,ZcC r f.1,UE t f.2]
theorem OL {A:Around}{s:Shared}{x:V}{v:Value}(rx:RelV x v)(fx:Vy x=true):∀{xs:List V}{us:List Value},Vals xs us->xs.all Vy=true->∀u∈us,SeqAt.EqAt A s u v (eqU x u)
 | _,_,.nil,_=>λu hu=>by cases hu
 | y::xs,u::us,.cons r t,f=>λu' hu=>by
  rw [List.all_cons,Yby] at f;rcases Yaz.mp hu with rfl | hu
  ·rw [ZcC r f.1];exact ZeA r rx f.1 fx
  ·exact OL rx fx t f.2 u' hu
noncomputable def inV (x:V)(xs:List V):Bool:=xs.any λy=>eqV y x
noncomputable def rIn (K:W.Frag)(j:Bool):R2:=λx y H Q=>∃p xs,y=.ref p/\(SqL K H p xs\/SqT K H p xs)/\Vy x=true/\xs.all Vy=true/\Q (.bl (if j then !inV x xs else inV x xs)) H
theorem ZM:OpR X (compareOp .In) (rIn X.K false):=by
 intro qQ s σ H x y v u Q I D L h;obtain ⟨p,xs,rfl,j,fx,fs,q⟩:=h;cases L;rcases j with j | j
 ·obtain ⟨its,r,pl,O⟩:=I.list j;refine SeqAt.in_listAt (eqU x) pl.isList (λw B=>OL D fx r fs w (by simpa using B)) ⟨.bl _,H,I,rfl,?_⟩;rw [show its.toArray.any (eqU x)=its.any (eqU x) by simp,UE r fs];exact q
 ·obtain ⟨its,r,pl,O⟩:=I.tuple j;refine SeqAt.in_tupleAt (eqU x) pl (λw B=>OL D fx r fs w (by simpa using B)) ⟨.bl _,H,I,rfl,?_⟩;rw [show its.toArray.any (eqU x)=its.any (eqU x) by simp,UE r fs];exact q
theorem WI:OpR X (compareOp .NotIn) (rIn X.K true):=by
 intro qQ s σ H x y v u Q I D L h;obtain ⟨p,xs,rfl,j,fx,fs,q⟩:=h;cases L;rcases j with j | j
 ·obtain ⟨its,r,pl,O⟩:=I.list j;refine SeqAt.notIn_listAt (eqU x) pl.isList (λw B=>OL D fx r fs w (by simpa using B)) ⟨.bl _,H,I,rfl,?_⟩;rw [show its.toArray.any (eqU x)=its.any (eqU x) by simp,UE r fs];exact q
 ·obtain ⟨its,r,pl,O⟩:=I.tuple j;refine SeqAt.notIn_tupleAt (eqU x) pl (λw B=>OL D fx r fs w (by simpa using B)) ⟨.bl _,H,I,rfl,?_⟩;rw [show its.toArray.any (eqU x)=its.any (eqU x) by simp,UE r fs];exact q
theorem WJ:J6 X (.builtin "len") (λxs H Q=>∃p ys,xs=[.ref p]/\(SqL X.K H p ys\/SqT X.K H p ys)/\Q (.int ys.length) H):=by
 intro qQ s σ H xs us Q I r h;obtain ⟨p,ys,rfl,j,q⟩:=h;obtain ⟨u,rfl,D⟩:=Zw r;cases D;have O:=WC;rcases j with j | j
 ·obtain ⟨its,r',pl,L⟩:=I.list j;have B:=r'.length;exact Calls.call_len_list pl.isList (by simp only [Yar] <;> lia) ⟨.int ys.length,H,I.tok _,⟨s.toks+1,by rw [Yar,B]⟩,q⟩
 ·obtain ⟨its,r',pl,L⟩:=I.tuple j;have B:=r'.length;exact len_tuple pl (by simp only [Yar] <;> lia) ⟨.int ys.length,H,I.tok _,⟨s.toks+1,by rw [Yar,B]⟩,q⟩
theorem WK:J6 X (.type "list") (λxs H Q=>∃p ys,xs=[.ref p]/\(SqL X.K H p ys\/SqT X.K H p ys)/\∀l,H l=none->Q (.ref l) (upd H l (.lst ys))):=by
 intro qQ s σ H xs us Q I r h;obtain ⟨p,ys,rfl,j,q⟩:=h;obtain ⟨u,rfl,Y⟩:=Zw r;cases Y;have fin:∀(its:List Value),Vals ys its->ys.length<=sizeLine->∀(h':Heap)(c':Nat),(∀b o',s.heap.get? b=some o'->h'.get? b=some o') ->
   h'.get? s.heap.objs.size=some { cls:=.type "list", dict:=none,data:=.seq its.toArray c',slots:=#[] }->EP X qQ σ Q (.ref s.heap.objs.size) { s with heap:=h' }:=λits r' B h' c' D e=>
  ⟨.ref s.heap.objs.size,_,I.laid (t':=s.toks) D (Yad _) (show ObjOk X.prog X.w _ h' _ (.lst ys) from ⟨B,its,c',r',e⟩),rfl,q _ (I.hok.fresh (Yad _))⟩
 rcases j with j | j
 ·obtain ⟨its,r',pl,B⟩:=I.list j;have Z:=r'.length;obtain ⟨o,L,O,n,U⟩:=pl.isList;exact call_list_seq p (.inl rfl) L O U (λh' c' D e=>fin its r' B h' c' D e) (by simp only [Yar] <;> lia)
 ·obtain ⟨its,r',pl,B⟩:=I.tuple j;have Z:=r'.length;obtain ⟨o,L,O,n,U⟩:=pl;exact call_list_seq p (.inr rfl) L O U (λh' c' D e=>fin its r' B h' c' D e) (by simp only [Yar] <;> lia)
theorem Vz:J6 X (.type "tuple") (λxs H Q=>∃p ys,xs=[.ref p]/\((SqL X.K H p ys/\∀l,H l=none->Q (.ref l) (upd H l (.tup ys)))\/(SqT X.K H p ys/\Q (.ref p) H))):=by
 intro qQ s σ H xs us Q I r h;obtain ⟨p,ys,rfl,h⟩:=h;obtain ⟨u,rfl,L⟩:=Zw r;cases L;rcases h with ⟨j,q⟩ | ⟨j,q⟩
 ·obtain ⟨its,r',pl,B⟩:=I.list j;have Y:=r'.length;refine call_tuple_list pl.isList (λh' O=>?_) (by simp only [Yar] <;> lia);have D:Inv X qQ σ H { s with heap:=h' }:=I.kept (t':=s.toks) O;have U:Inv X qQ σ (upd H h'.objs.size (.tup ys)) { s with heap:=h'.push { cls:=.type "tuple", data:=.seq its.toArray } }:=
   D.laid (t':=s.toks) (λb o e=>Yao _ e) (Yad _) (show ObjOk X.prog X.w _ _ _ (.tup ys) from ⟨B,its,r',IsTup.new _ _⟩)
  exact ⟨.ref h'.objs.size,_,U,rfl,q _ (D.hok.fresh (Yad _))⟩
 ·obtain ⟨its,r',pl,B⟩:=I.tuple j;exact call_tuple_same pl ⟨.ref p,H,I,rfl,q⟩
noncomputable def tyV (K:W.Frag)(T:String)(x:V)(H:Hp):Prop:=match x with
 | .str _=>T = "str"
 | .int _=>T = "int"
 | .ref p=>(T = "list" /\ ∃xs,SqL K H p xs)\/(T = "tuple" /\ ∃o,K.lookup p=some o/\o.cls=.type "tuple" /\ o.dict=none) \/
   (T = "dict" /\ ((∃kvs,H p=some (.dK kvs))\/∃kvs,H p=some (.dT kvs)))\/(T = "set" /\ ∃S n,H p=some (.set S n))
 | _=>False
theorem ZcD {qQ:List (Addr×Obj)}{σ:St}{H:Hp}{s:Shared}{T:String}{x:V}{v:Value}(I:Inv X qQ σ H s)(r:RelV x v)(ty:tyV X.K T x H) :
  s.TypeIs v T/\∀a,v=.ref a->∃L,s.heap.get? a=some L/\L.dict=none:=by
 cases x with
 | str z=>
  obtain ⟨t,rfl⟩:=r;cases (show T = "str" from ty);exact ⟨typeIs_str s z t,λ_ e=>nomatch e⟩
 | int i=>
  obtain ⟨t,rfl⟩:=r;cases (show T = "int" from ty);exact ⟨typeIs_int s i t,λ_ e=>nomatch e⟩
 | ref p=>
  cases r;rcases ty with ⟨rfl,xs,O⟩ | ⟨rfl,o,j,U,B⟩ | ⟨rfl,j⟩ | ⟨rfl,S,n,j⟩
  ·obtain ⟨its,_,pl,_⟩:=I.list O;refine ⟨pl.isList.typeIs,λa e=>?_⟩;cases e;obtain ⟨o,n,e,c,B,_⟩:=pl;exact ⟨o,e,B⟩
  ·refine ⟨⟨o,I.kIn p o j,U⟩,λa e=>?_⟩;cases e;exact ⟨o,I.kIn _ o j,B⟩
  ·have z:∃o,s.heap.get? p=some o/\o.ExactDict:=by
    rcases j with ⟨kvs,j⟩ | ⟨kvs,j⟩
    ·obtain ⟨_,_,_,_,o,_,_,e,ex,_⟩:=I.hok p _ j;exact ⟨o,e,ex⟩
    ·obtain ⟨_,_,_,_,o,_,_,e,ex,_⟩:=I.hok p _ j;exact ⟨o,e,ex⟩
   obtain ⟨o,e,ex⟩:=z;refine ⟨⟨o,e,ex.1⟩,λa D=>?_⟩;cases D;exact ⟨o,e,ex.2.1⟩
  ·obtain ⟨o,_,_,_,e,ex,_⟩:=I.hok p _ j;refine ⟨⟨o,e,ex.1⟩,λa D=>?_⟩;cases D;exact ⟨o,e,ex.2.1⟩
 | _=>exact False.elim ty
noncomputable def Zh8 (K:W.Frag)(T:String)(r:V->List V->Hp->VK->Prop)(to:TE):TE:=λσ H Q=>to σ H λx H1=>tyV K T x H1/\r x [] H1 Q
noncomputable def tBM (K:W.Frag)(T:String)(r:V->List V->Hp->VK->Prop)(to:TE)(t:TA):TE:=λσ H Q=>to σ H λx H1=>tyV K T x H1/\t σ H1 λxs H2=>r x xs H2 Q
variable {o e:Expr}{es:List Expr}{to:TE}{t:TA}{name:Str}{apos qK:Pos}{T id:String}{r:V->List V->Hp->VK->Prop}
theorem ZeB (Y:PlainAttrs T)(D:Slot T name id)(L:typeOf (.builtin id)=pure (.type "method_descriptor"))(Z:MtR X id r)(ho:PE X o to)(j:attributeBase o name X.env (eval o X.env)=eval o X.env:=by rfl)(B:(apos.endLine == qK.line)=true:=by rfl):PE X (.Call (.Attribute o name apos) [] [] qK) (Zh8 X.K T r to):=by
 intro qQ s σ H Q I h;refine wpAny_Call_method0_late j B (thG (ho qQ s σ H _ I h) λv s1 x H1 O U ⟨ty,q1⟩=>?_);obtain ⟨h1,h2⟩:=ZcD O U ty;exact ⟨T,id,Y,D,L,h1,h2,Calls.callWith_builtin rfl (PySem.evalArgs_none (Z qQ s1 σ H1 x [] v [] Q O U .nil q1))⟩
theorem Um (pa:PlainAttrs T)(L:Slot T name id)(U:typeOf (.builtin id)=pure (.type "method_descriptor"))(hm:MtR X id r)(ho:PE X o to)(ha:PA X (e::es) t)(B:attributeBase o name X.env (eval o X.env)=eval o X.env:=by rfl)(O:((backTo qK (starEach (e::es) X.env)).all (λx=>!x.1) && (backToKw qK (keywordEach [] X.env)).all (λx=>x.1.isSome)
   && decide ((e::es).length+([]:List Keyword).length+(if ([]:List Keyword).isEmpty then 0 else 1)<30))=true:=by rfl)(D:(apos.endLine == qK.line)=true:=by rfl)(hs:starEach (e::es) X.env=(false,eval e X.env)::starEach es X.env:=by rfl)(j:(backTo qK (starEach es X.env)).any (·.1)=false:=by rfl) :
  PE X (.Call (.Attribute o name apos) (e::es) [] qK) (tBM X.K T r to t):=by
 intro qQ s σ H Q I h;refine wpAny_Call_method_late B O D rfl (thG (ho qQ s σ H _ I h) λv s1 x H1 Y Z ⟨ty,q1⟩=>?_);obtain ⟨h1,h2⟩:=ZcD Y Z ty;refine ⟨T,id,pa,L,U,h1,h2,?_⟩;have hA:=ha qK qQ s1 σ H1 _ Y q1;rw [hs] at hA ⊢;refine Calls.callWith_builtin (by show (false || (backTo qK (starEach es X.env)).any (·.1))=false;rw [j] <;> rfl) (Calls.evalArgs_plain ?_);exact thn hA λus s2 ⟨vs,H2,I2,r2,q2⟩=>hm qQ s2 σ H2 x vs v us Q I2 Z r2 q2
end
noncomputable def MtM (X:Cx)(id:String)(r:V->List V->Hp->VK->Prop):Prop:=
 ∀(qQ:List (Addr×Obj))(s:Shared)(σ:St)(H:Hp)(x:V)(xs:List V)(v:Value)(us:List Value)(Q:VK),Inv X qQ σ H s->RelV x v->Vals xs us->r x xs H Q ->
  wpAny (model X.prog X.w) X.A (call (.builtin id) (v::us)) (EP X qQ σ Q) X.xe s
theorem Vals.one {x:V}{us:List Value}(h:Vals [x] us):∃u,us=[u]/\RelV x u:=by
 cases h with
 | cons r t=>cases t;exact ⟨_,rfl,r⟩
theorem Vals.two {x y:V}{us:List Value}(h:Vals [x,y] us):∃u v,us=[u,v]/\RelV x u/\RelV y v:=by
 cases h with
 | cons r t=>obtain ⟨u,rfl,q⟩:=Vals.one t;exact ⟨_,_,rfl,r,q⟩
theorem Vals.zero:∀{us:List Value},Vals [] us->us=[]
 | _,.nil=>rfl
theorem Vals.dropLast {xs:List V}{us:List Value}(h:Vals xs us):Vals xs.dropLast us.dropLast:=by
 induction h with
 | nil=>exact .nil
 | cons r t ih=>
  cases t with
  | nil=>exact .nil
  | cons q t'=>exact .cons r ih
theorem Vals.rep {xs:List V}{us:List Value}(h:Vals xs us):∀k:Nat,Vals (List.replicate k xs).flatten (List.replicate k us).flatten
 | 0=>.nil
 | k+1=>by
  rw [Yej,Yej,List.flatten_cons,List.flatten_cons];exact Vals.append h (Vals.rep h k)
theorem YS {α:Type}(l:List α):l.eraseIdx (l.length-1)=l.dropLast:=by
 induction l with
 | nil=>rfl
 | cons a r ih=>
  cases r with
  | nil=>rfl
  | cons b r=>
   have e:(a::b::r).length-1=((b::r).length-1)+1:=by
    have h1:(a::b::r).length=r.length+2:=rfl;have h2:(b::r).length=r.length+1:=rfl
    lia
   rw [e,List.eraseIdx_cons_succ,ih]
   all_goals rfl
theorem WL (its:List Value):∀(k:Nat)(acc:List Value),
  List.foldl (λj B=>j++B) acc.toArray (List.replicate k its.toArray)=(acc++(List.replicate k its).flatten).toArray
 | 0,acc=>by simp
 | k+1,acc=>by
  have e:acc.toArray++its.toArray=(acc++its).toArray:=by simp
  have D:(acc++its)++(List.replicate k its).flatten=acc++(List.replicate (k+1) its).flatten:=by
   rw [Yej,List.flatten_cons,Ybg]
  rw [<-D,<-WL its k (acc++its),<-e,Yej,List.foldl_cons]
section
variable {X:Cx}{qQ:List (Addr×Obj)}{σ:St}{H:Hp}{s:Shared}{l b:Addr}{xs ys zs:List V}
theorem Inv.lset {its its':List Value}{n:Nat}{f:Array Value->Array Value}{t':Nat}(I:Inv X qQ σ H s)(j:H l=some (.lst xs))(e:s.heap.get? l=some { cls:=.type "list", data:=.seq its.toArray n })(B:f its.toArray=its'.toArray)(D:Vals ys its')(hz:ys.length<=sizeLine) :
  Inv X qQ σ (upd H l (.lst ys)) { s with heap:=s.heap.update l (Obj.mapSeq f),toks:=t' }:=by
 have q:=PySem.IsL.update e f;rw [B] at q;refine I.write (x:=l) (e:=l) (by rw [j];exact trivial) (.inl rfl) (λU u L O=>(Ydx s.heap (Obj.mapSeq f) (Ne.symm L)).trans O) ⟨_,q⟩ ?_;exact ⟨hz,its',_,D,q⟩
theorem Inv.lnew {its:List Value}{t':Nat}(I:Inv X qQ σ H s)(j:Vals ys its)(hz:ys.length<=sizeLine) :
  Inv X qQ σ (upd H s.heap.objs.size (.lst ys)) { s with heap:=s.heap.push { cls:=.type "list", data:=.seq its.toArray },toks:=t' }:=
 I.laid (λ_ _ q=>Yao _ q) (Yad _) ⟨hz,its,0,j,Ybl _ rfl⟩
theorem Inv.fresh (I:Inv X qQ σ H s):H s.heap.objs.size=none:=I.hok.fresh (Yad _)
theorem Inv.lstM (I:Inv X qQ σ H s)(j:H l=some (.lst xs)):xs.length<=sizeLine/\∃(its:List Value)(n:Nat),Vals xs its/\xs.length=its.length/\s.heap.get? l=some { cls:=.type "list", data:=.seq its.toArray n }:=by
 obtain ⟨z,its,n,r,e⟩:=I.hok l _ j;exact ⟨z,its,n,r,r.length,e⟩
theorem X5 {n:Nat}(h:n<=sizeLine):Builtin.List.listTooLong n=false:=by
 unfold Builtin.List.listTooLong;exact Ybv (by lia)
end
section
variable {X:Cx}
noncomputable def Zdb:V->List V->Hp->VK->Prop:=λx vs H Q=>∃l xs y,x=.ref l/\vs=[y]/\H l=some (.lst xs)/\xs.length<sizeLine/\Q .non (upd H l (.lst (xs++[y])))
theorem G9:MtM X "list.append" Zdb:=by
 intro qQ s σ H x vs v us Q I B D h;obtain ⟨l,xs,y,rfl,rfl,j,O,q⟩:=h;cases B;obtain ⟨u,rfl,L⟩:=D.one;obtain ⟨z,its,n,r,U,e⟩:=I.lstM j;refine call_meets F.slot_list_append ⟨_,e,rfl⟩ F.entry_list_append (F.args_list_append_2 _ _) (PySem.list_append l its.toArray n u (by rw [Yar];lia)) ⟨e,?_⟩;refine ⟨.non,_,I.lset (its':=its++[u]) j e (by simp) (r.append (.cons L .nil)) ?_,rfl,q⟩;rw [Yag,Yat]
 lia
noncomputable def Zh9:V->List V->Hp->VK->Prop:=λx vs H Q=>∃l xs y,x=.ref l/\vs=[]/\H l=some (.lst xs)/\xs[xs.length-1]?=some y/\Q y (upd H l (.lst xs.dropLast))
theorem ZeC:MtM X "list.pop" Zh9:=by
 intro qQ s σ H x vs v us Q I L O h;obtain ⟨l,xs,y,rfl,rfl,D,U,q⟩:=h;cases L;have j:=O.zero;subst j;obtain ⟨z,its,n,r,Y,e⟩:=I.lstM D;obtain ⟨u,Z,ru⟩:=r.get U;have B:its.toArray[its.toArray.size-1]?=some u:=by
  show its.toArray[its.length-1]?=some u;rw [<-Ybx,<-Y];exact Z
 refine call_meets F.slot_list_pop ⟨_,e,rfl⟩ F.entry_list_pop (F.args_list_pop_1 _) (MeetsSeq.list_pop_last l its.toArray n u B (by rw [Yar];lia)) ⟨e,?_⟩;refine ⟨y,_,I.lset (its':=its.dropLast) D e ?_ r.dropLast ?_,ru,q⟩
 ·show its.toArray.eraseIdxIfInBounds (its.toArray.size-1)=its.dropLast.toArray;rw [Yar,List.eraseIdxIfInBounds_toArray,YS]
 ·rw [List.length_dropLast]
  lia
noncomputable def Zia:R2:=λx y H Q=>∃l b xs zs,x=.ref l/\y=.ref b/\H l=some (.lst xs)/\H b=some (.lst zs)/\xs.length+zs.length<=sizeLine/\∀p,H p=none->Q (.ref p) (upd H p (.lst (xs++zs)))
theorem U9:OpR X (binaryOp .Add) Zia:=by
 intro qQ s σ H x y v u Q I B D h;obtain ⟨l,b,xs,zs,rfl,rfl,L,O,hz,q⟩:=h;cases B;cases D;obtain ⟨z,its,n,r,hl,e⟩:=I.lstM L;obtain ⟨z2,j,n2,U,Y,Z⟩:=I.lstM O;refine PySem.P.add_list e Z ?_ (by rw [Yar,Yar];lia);have ea:its.toArray++j.toArray=(its++j).toArray:=by simp
 rw [ea];exact ⟨.ref _,_,I.lnew (t':=s.toks) (r.append U) (by rw [Yag];lia),rfl,q _ I.fresh⟩
noncomputable def Zib:R2:=λx y H Q=>∃l k xs,x=.ref l/\y=.int k/\H l=some (.lst xs)/\-(2 ^ 63)<=k/\k<2 ^ 63/\xs.length * k.toNat<=sizeLine /\
 ∀p,H p=none->Q (.ref p) (upd H p (.lst (List.replicate k.toNat xs).flatten))
theorem Zdc {α:Type}(xs:List α)(k:Nat):(List.replicate k xs).flatten.length=k * xs.length:=by
 induction k with
 | zero=>simp
 | succ k ih=>rw [Yej,List.flatten_cons,Yag,ih,Nat.succ_mul,Nat.add_comm]
theorem ZcE:OpR X (binaryOp .Mult) Zib:=by
 intro qQ s σ H x y v u Q I rx ry h;obtain ⟨l,k,xs,rfl,rfl,hH,h1,h2,Z,q⟩:=h;cases rx;obtain ⟨t,rfl⟩:=ry;obtain ⟨z,its,n,r,hl,e⟩:=I.lstM hH;have qV:its.toArray.size * k.toNat<=sizeLine:=by rw [Yar,<-hl];exact Z
 have B:¬ its.toArray.size * k.toNat > (2 ^ 63-1) / 8:=by
  have:(sizeLine:Nat)<=(2 ^ 63-1) / 8:=by decide
  lia
 have D:¬ (!Builtin.List.listFitsIndex k)=true:=by
  rw [fitsIndex_both h1 h2];exact Yas
 have j:¬ Builtin.List.listTooLong (its.toArray.size * k.toNat)=true:=by
  rw [X5 qV];exact Yas
 have L:List.foldl (λO Y=>O++Y) #[] (List.replicate (if its.toArray.isEmpty=true then 0 else k.toNat) its.toArray)=(List.replicate k.toNat its).flatten.toArray:=by
  have f0:∀m:Nat,List.foldl (λO Y=>O++Y) #[] (List.replicate m its.toArray)=(List.replicate m its).flatten.toArray:=λm=>by
   have:=WL its m [];rw [List.nil_append] at this;exact this
  rw [f0];cases its with
  | nil=>simp
  | cons a r'=>rw [if_neg (by simp)]
 refine wpAny_binaryOp_repeat_ref (T := "list") (U := "int") (by decide) ⟨_,e,rfl⟩ (λs'=>typeIs_int s' k t) noFill_list_mul F.fills_int_mul F.slot_int_rmul repeat_list F.slot_int_index.lookup
  (call_meets F.slot_int_rmul (typeIs_int s k t) F.entry_int_rmul (F.args_int_rmul_2 _ _) (int___rmul___int_list k t l its.toArray n)
   ⟨e,rfl,⟨_,e,rfl⟩,call_meets F.slot_list_mul ⟨_,e,rfl⟩ F.entry_list_mul (F.args_list_mul_2 _ _) (AutoListH.list___mul___list_int_3 l its.toArray n k t D B j) ⟨e,?_⟩⟩)
 rw [L];exact ⟨.ref _,_,I.lnew (t':=s.toks) (r.rep k.toNat) (by rw [Zdc,Nat.mul_comm];exact Z),rfl,q _ I.fresh⟩
end
end L2
namespace Att
open PySem PySem.W PySem.Calls PyProof.Rows
theorem UF {P:Params}{h:Heap}:∀(ns:List Int)(vs:List Value),WellAll P h vs (ns.map WData.int)->IntsAre vs ns:=by
 intro ns
 induction ns with
 | nil=>
  intro vs w;rw [List.map_nil] at w;cases w;exact .nil
 | cons n ns ih=>
  intro vs w;rw [Yaq] at w;cases w with
  | cons a b=>
   cases a;exact .cons _ _ (ih _ b)
theorem ZN {l:OpenLaw}{n:Nat}(Z:l.most=some n){P:Params}{h:Heap}{args:List WData}{j:List Value}(B:l.row.toRowW.claim.pre args=true)(O:WellAll P h j args) :
  ∃a vs ns,j=[Value.ref a]/\args=[WData.list (ns.map WData.int)]/\h.get? a=some { cls:=.type "list", data:=.seq vs.toArray }/\IntsAre vs ns/\ns.length<=n:=by
 have U:WShape.hasAll [] args [.list .int]=true:=(pre_splitW B).1;have Y:l.pre.holds [] { args:=args }=true:=(pre_splitW B).2;obtain ⟨d,r,rfl,h1,h2⟩:=hasAllW_cons U;obtain rfl:=hasAllW_nil h2;obtain ⟨xs,rfl,h3⟩:=hasW_list h1;obtain ⟨ns,rfl⟩:=items_int h3;have qV:ns.length<=n:=by
  unfold OpenLaw.pre at Y;have D:(WTm.not (.lt (.lit (.int (n:Int))) (.len (.arg 0)))).holds [] { args:=[.list (ns.map .int)] }=true:=by
   have D:=(holds_andW Y).1;rw [Z] at D;exact D
  have L:=condW_of D (w_not (w_lt w_lit (w_len_list (w_arg rfl))));rw [Yab] at L;refine Nat.le_of_not_lt λq=>?_;have q':(n:Int)<((ns.length:Nat):Int):=by lia
  first
   | (rw [Ybh q'] at L;exact absurd L (by decide))
   | (simp at L;lia)
 cases O with
 | cons w1 w2=>
  cases w2;cases w1 with
  | list ho qY=>exact ⟨_,_,ns,rfl,rfl,ho,UF ns _ qY,qV⟩
theorem ZO (l:OpenLaw)(args:List WData):l.row.toRowW.claim.post args (.bool true) args=true:=
 postW_of (r:=l.row.toRowW) (X:=(true == true))
  (show WShape.has [] (.bool true) .bool=true by first | rfl | decide | simp [WShape.has,WShape.arms,WShape.armsAll])
  (show (WTm.eq .res (.lit (.bool true))).value [] { args:=args,res:=some (.bool true),after:=args }=some (.bool (true == true)) from w_eq_bool (w_res rfl) w_lit) rfl
theorem attach_call {l:OpenLaw}{n:Nat}{q:Program}{j:List Str}{XP:(Str->Option Value)->Heap->Prop}{YP:World->Heap->Prop}{d:DefRec}(hn:l.most=some n)(O:d.params.defaults=[])(call:∀(w:World)(s₀ s₁:Shared)(mg mb:Str->Option Value)(fa:Addr)(o:Obj)(pm cd doc:Value)(a:Addr)(vs:List Value)(ns:List Int),
   Ground q j [] XP w s₀ mg mb s₁.heap->YP w s₁.heap ->
   s₁.heap.get? fa=some o->o.data=.func (docDef d.name d.params d.body d.scope pm cd doc)->s₁.heap.CodeRec cd d.name->mg d.name=some (.ref fa) ->
   s₁.heap.get? a=some { cls:=.type "list", data:=.seq vs.toArray }->IntsAre vs ns->ns.length<=n->s₁.gens=#[] ->
   codeAny (model l.prog w) callerA (.call (.ref fa) ⟨[.ref a],[]⟩) (λr s'=>r=.ok (.ret (.bool true))/\OldK s₁.heap s'.heap/\s'.os=s₁.os/\AllBare s'.gens) s₁) :
  WalkO q j XP YP l.row.toRowW d [] (λf vs=>PySem.call f vs):=by
 intro w s₀ s₁ mg mb G Y fa o pm cd doc dV kV ho hd U hD Z hg ab ac as D ad ae aa ag;obtain rfl:dV=.none:=Dflts.none hD O;obtain rfl:kV=.none:=Dflts.noKw hD;obtain ⟨a,vs,ns,rfl,rfl,L,B,qV⟩:=ZN hn D aa;refine enter_call (codeAny_mono (call w s₀ s₁ mg mb fa o pm cd doc a vs ns G Y ho (fd_plain hd) U Z L B qV hg) λr s' hq=>?_);obtain ⟨rfl,h2,h3,h4⟩:=hq;exact ⟨.inl ⟨.bool true,.bool true,[],rfl,λ_=>rfl,.bool true,ZO l _,λ_=>⟨List.Pairwise.nil,λ_ hm=>(nomatch hm)⟩⟩,h2,h3,h4⟩
end Att
namespace L2
open PySem PySem.Spec PyProof.Rows
theorem WM:∀{vs:List Value}{ns:List Int},IntsAre vs ns->Vals (ns.map V.int) vs
 | _,_,.nil=>.nil
 | _,_,.cons n t h=>.cons ⟨t,rfl⟩ (WM h)
noncomputable def ZP (s:Stmt)(j:Nat):Stmt:=match s with
 | .ClassDef _ _ _ body _ _ _ _ _ _ _=>body.getD j (.Pass ⟨0,0,0,0⟩)
 | _=>.Pass ⟨0,0,0,0⟩
noncomputable def GX (s:Stmt):Arguments:=match s with
 | .FunctionDef _ a _ _ _ _ _ _ _ _=>a
 | _=>{ posonlyargs:=[],args:=[],vararg:=none,kwonlyargs:=[],kw_defaults:=[],kwarg:=none,defaults:=[] }
noncomputable def Gx (s:Stmt):List Stmt:=match s with
 | .FunctionDef _ _ b _ _ _ _ _ _ _=>b
 | _=>[]
noncomputable def Gg (s:Stmt):Scope:=match s with
 | .FunctionDef _ _ _ _ _ _ sc _ _ _=>sc
 | _=>{ kind:=.function,names:=[],isGenerator:=false,isCoroutine:=false }
noncomputable abbrev CX0:CXT:=λ_ _ _ _ _ _=>False
noncomputable abbrev E0:XK:=λ_ _ _=>False
theorem Gz {X:Cx}:Uf CX0 X E0:=λ_ _ _ _ _ _ _ h=>h.elim
structure Fun (K:W.Frag)(x qual:Str)(st:Stmt)(f:Addr)(fd:FuncData):Prop where
 ex:∃(oc:Value)(od:Option Addr)(kV doc pm:Value)(an:Option Addr)(cdv ct:Value)(osl:Array (Option Value)),
  fd=W.fnOf x qual (GX st) (Gx st) (Gg st) .none kV doc pm an cdv ct/\K.lookup f=some ⟨oc,od,.func fd,osl⟩/\W.codeIn K cdv qual=true
 kp:W.keepIn K (.ref f)=true
section
variable {P:Program}{w:World}{K:W.Frag}{mg:Str->Option Value}{base:Heap}
theorem Zic {α:Type}{l:List α}(h:l.length=0):l=[]:=List.length_eq_zero_iff.mp h
theorem Zdd {α:Type}{l:List α}{n:Nat}(h:l.length=n+1):∃a t,l=a::t/\t.length=n:=by
 cases l with
 | nil=>cases h
 | cons a t=>exact ⟨a,t,rfl,by simpa using h⟩
theorem Zbp {α:Type}{l:List α}(h:l.length=1):∃a,l=[a]:=by
 obtain ⟨a,t,rfl,g⟩:=Zdd h;exact ⟨a,by rw [Zic g]⟩
theorem YT {α:Type}{l:List α}(h:l.length=2):∃B j,l=[B,j]:=by
 obtain ⟨a,t,rfl,g⟩:=Zdd h;obtain ⟨j,rfl⟩:=Zbp g;exact ⟨a,j,rfl⟩
theorem Zbq {α:Type}{l:List α}(h:l.length=3):∃D j B,l=[D,j,B]:=by
 obtain ⟨a,t,rfl,g⟩:=Zdd h;obtain ⟨j,B,rfl⟩:=YT g;exact ⟨a,j,B,rfl⟩
theorem Zgo {α:Type}{l:List α}(h:l.length=4):∃L j B D,l=[L,j,B,D]:=by
 obtain ⟨a,t,rfl,g⟩:=Zdd h;obtain ⟨j,B,D,rfl⟩:=Zbq g;exact ⟨a,j,B,D,rfl⟩
theorem ZhN {α:Type}{l:List α}(h:l.length=5):∃O j B D L,l=[O,j,B,D,L]:=by
 obtain ⟨a,t,rfl,g⟩:=Zdd h;obtain ⟨j,B,D,L,rfl⟩:=Zgo g;exact ⟨a,j,B,D,L,rfl⟩
theorem Zid {α:Type}{l:List α}(h:l.length=6):∃U j B D L O,l=[U,j,B,D,L,O]:=by
 obtain ⟨a,t,rfl,g⟩:=Zdd h;obtain ⟨j,B,D,L,O,rfl⟩:=ZhN g;exact ⟨a,j,B,D,L,O,rfl⟩
theorem Zik {α:Type}{l:List α}(h:l.length=7):∃Y j B D L O U,l=[Y,j,B,D,L,O,U]:=by
 obtain ⟨a,t,rfl,g⟩:=Zdd h;obtain ⟨j,B,D,L,O,U,rfl⟩:=Zid g;exact ⟨a,j,B,D,L,O,U,rfl⟩
theorem Fun.ok {x qual:Str}{st:Stmt}{f:Addr}{fd:FuncData}{N ps:List Str}{k:Nat}{sp:Sp}(F:Fun K x qual st f fd)(S:Gu N ps (Gg st))(len:∀vs H Q E,sp vs H Q E->vs.length=ps.length)(L:∀(j:Value)(A:Around)(outer:List Env)(s:Shared)(H:Hp)(vs:List V)(Q:VK)(E:XK),Room k (A.deeper (envOfC qual (Gg st) s.heap.objs.size f j))->sp vs H Q E ->
   ∃t,PSs (YM CX0 P w K mg base N qual (Gg st) f j A outer s H E).nox (Gx st) t/\t { nx:=λ_ H'=>Q .non H',rt:=Q } (start N vs) H):FnOk P w K mg base CX0 (k+1) f fd ps sp:=by
 obtain ⟨oc,od,kV,O,pm,an,j,ct,U,rfl,Y,B⟩:=F.ex;refine ZI Y B S len λA outer s H vs Q E Z D=>?_;obtain ⟨t,h,q⟩:=L j A outer s H vs Q E Z D;exact ⟨t,h.nox,q⟩
theorem Fun.binds {x qual:Str}{st:Stmt}{f:Addr}{fd:FuncData}{ps:List Str}(F:Fun K x qual st f fd)(h:∀(kV j B:Value)(an:Option Addr)(cdv ct:Value)(us:List Value),us.length=ps.length->bindArgs (W.fnOf x qual (GX st) (Gx st) (Gg st) .none kV j B an cdv ct) ⟨us,[]⟩=pure (ps.zip us)):Binds K fd ps []:=by
 obtain ⟨O,U,kV,j,B,an,cdv,ct,D,rfl,Y,L⟩:=F.ex;exact .all (h kV j B an cdv ct)
theorem ZQ {x qual:Str}{st:Stmt}{f:Addr}{O:Value}{U L:Option Addr}{D:Array (Option Value)}{kV B pm j ct:Value}(l:K.lookup f=some ⟨O,U,.func (W.fnOf x qual (GX st) (Gx st) (Gg st) .none kV B pm L j ct),D⟩)(c:W.codeIn K j qual=true)(k:W.keepIn K (.ref f)=true):Fun K x qual st f (W.fnOf x qual (GX st) (Gx st) (Gg st) .none kV B pm L j ct):=⟨⟨O,U,kV,B,pm,L,j,ct,D,rfl,l,c⟩,k⟩
end
section
variable {X:Cx}
theorem pv (i:Nat){x:Str}{pos:Pos}(B:X.N[i]?=some x:=by rfl)(D:Vis X.env.scope x:=by first | exact Or.inl rfl | exact Or.inr (Or.inl rfl) | exact Or.inr (Or.inr rfl))(L:(x == ("__debug__" : Str))=false:=by decide)(j:(x == ("__classdict__" : Str))=false:=by decide):PE X (.Name x pos) (Zei i):=Zej B D L j
end
theorem J7 {A B:Prop}(h:B):if false=true then A else B:=by
 rw [if_neg Yas];exact h
theorem Ox {A B:Prop}(h:A):if true=true then A else B:=by
 rw [if_pos rfl];exact h
theorem Ug {c A B:Prop}[Decidable c](h1:c->A)(h2:¬ c->B):if c then A else B:=by
 by_cases h:c
 ·rw [if_pos h];exact h1 h
 ·rw [if_neg h];exact h2 h
noncomputable def Same (H H':Hp):Prop:=∀b o,H b=some o->H' b=some o
theorem Same.refl (H:Hp):Same H H:=λ_ _ h=>h
theorem Same.trans {H H1 H2:Hp}(a:Same H H1)(b:Same H1 H2):Same H H2:=λc o h=>b c o (a c o h)
theorem Same.free {H H':Hp}(e:Same H H'){l:Addr}(h:H' l=Option.none):H l=Option.none:=by
 cases q:H l with
 | none=>rfl
 | some o=>
  rw [e l o q] at h;cases h
section
variable {prog:Program}{w:World}{A:Around}{R:Result->Shared->Prop}{s:Shared}
theorem WN {elt qU iter:Expr}{ifs:List Expr}{scope:Scope}{pos:Pos}{L acc:Value}{env:Env}(I:Nat->Shared->Prop)(B:∀n s,I n s->wpAny (model prog w) A (pyNext L) (λr O=>match r with
   | none=>R (.ok .next) O
   | some v=>wpAny (model prog w) A (letOwnedTupleGo qU L v) (λ_ D=>wpAny (model prog w) A (assign qU env v) (λ_ Z=>
     wpAny (model prog w) A (forIn ifs true λc r=>if r=true then do let ok <- isTrue c env (eval c env);pure (ForInStep.yield ok) else pure (ForInStep.yield r)) (λok U=>
      if ok=true then wpAny (model prog w) A (eval elt env) (λx s4=>
       wpAny (model prog w) A (call (.builtin "list.append") [acc,x]) (λ_ s5=>∃m,m<n/\I m s5) (λ_ _=>False) s4) (λ_ _=>False) U
      else ∃m,m<n/\I m U) (λ_ _=>False) Z) (λ_ _=>False) D) (λ_ _=>False) O) (λ_ _=>False) s)(n:Nat)(h:I n s) :
  codeAny (model prog w) A (.compLoop (.ListComp elt [⟨qU,iter,ifs,0⟩] scope pos) 0 L acc env) R s:=by
 have j:∀{E:EX},∀(x:Value)(s:Shared),(λ(_:Value) (_:Shared)=>False) x s->E x s:=λ_ _ z=>False.elim z;refine codeAny_loop rfl I (λn s hI=>?_) n h;show wpAny _ A ((compTurn (.ListComp elt [⟨qU,iter,ifs,0⟩] scope pos) 0 L acc env).onRaise (λx=>do noteFrame x env;theTreesLotGoes x)) _ _ s;refine wpAny_noted ?_;rw [compTurn_list];refine Yaa (wpAny_standAt (Yaa (Ybr (B n s hI) (λr O h1=>?_) j)));cases r with
 | none=>exact Yaf h1
 | some v=>
  refine Yaa (Ybr h1 (λ_ D Y=>?_) j);refine Yaa (Ybr Y (λ_ Z h2=>Yaa (Ybr h2 (λok U h3=>?_) j)) j);cases ok with
  | false=>exact Yaf ⟨rfl,h3⟩
  | true=>
   exact Yaa (Yaa (Ybr h3 (λx s4 h4=>Yaa (Ybr h4 (λ_ s5 h5=>Yaf (Yaf ⟨rfl,h5⟩)) j)) j))
end
noncomputable def Cx.comp (X:Cx)(scope:Scope)(cl:List (Str×Addr))(N:List Str)(C:Addr)(s:Shared)(H:Hp)(fp:List Addr):Cx:=
 { X with N:=N,s₀:=s,H₀:=H,env:=compEnvC scope cl C X.env,outer:=X.stack,ex:=fp,fn:=λ_=>false,pn:=[],xe:=λ_ _=>False }
noncomputable def ZeD (X:Cx)(ifs:List Expr)(t:TT):Prop:=
 ∀(qQ:List (Addr×Obj))(s:Shared)(σ:St)(H:Hp)(Q:Bool->Hp->Prop),Inv X qQ σ H s->t σ H Q ->
  wpAny (model X.prog X.w) X.A (forIn ifs true λc r=>if r=true then do let ok <- isTrue c X.env (eval c X.env);pure (ForInStep.yield ok) else pure (ForInStep.yield r)) (TP X qQ σ Q) X.xe s
noncomputable def Zbr:TT:=λ_ H Q=>Q true H
theorem JL {X:Cx}:ZeD X [] Zbr:=λ_ _ _ H _ I h=>wpAny_tests_nil ⟨H,I,h⟩
theorem G8 {X:Cx}{c:Expr}{t:TT}(h:PT X c t):ZeD X [c] t:=λqQ s σ H Q I j=>wpAny_tests_one (h qQ s σ H Q I j)
structure JQ (X:Cx)(scope:Scope)(cl:List (Str×Addr))(own:List Str)(fr:List (Str×Nat)):Prop where
 clos:closureFor scope X.env=pure cl
 nocell:∀y∈scope.names,y.2≠.cell
 kind:scope.kind=.function
 names:∀y∈scope.names,y.2=.local->scope.names.lookup y.1=some .local
 cls:∀y c,cl.lookup y=some c->X.env.cells.lookup y=some c
 has:∀y,((relabel scope X.env).names.lookup y=some .cell\/(relabel scope X.env).names.lookup y=some .free)->∃c,cl.lookup y=some c
 free:∀p∈fr,X.N[p.2]?=some p.1/\(X.env.kindOf p.1=some .cell\/X.env.kindOf p.1=some .free)/\((relabel scope X.env).names.lookup p.1=some .cell\/(relabel scope X.env).names.lookup p.1=some .free)
noncomputable def Oy (own:List Str)(fr:List (Str×Nat))(σ:St):St:=own.map (λ_=>none)++fr.map λp=>(σ[p.2]?).join
noncomputable def Uh:St->St->Prop
 | [],[]=>True
 | none::r,_::r'=>Uh r r'
 | some v::r,some v'::r'=>v=v'/\Uh r r'
 | _,_=>False
theorem Oj:∀{a b:St},Uh a b->∀(i:Nat)(v:V),a[i]?=some (some v)->b[i]?=some (some v)
 | [],[],_,i,v,h=>by simp at h
 | [],_::_,z,_,_,_=>z.elim
 | none::r,[],z,_,_,_=>z.elim
 | some _::r,[],z,_,_,_=>z.elim
 | some _::r,none::_,z,_,_,_=>z.elim
 | none::r,_::r',z,0,v,h=>by simp at h
 | none::r,_::r',z,i+1,v,h=>by
  have:=Oj (a:=r) (b:=r') z i v (by simpa using h);simpa using this
 | some x::r,some x'::r',z,0,v,h=>by
  obtain ⟨e,_⟩:=z;subst e;simpa using h
 | some x::r,some x'::r',z,i+1,v,h=>by
  have:=Oj (a:=r) (b:=r') z.2 i v (by simpa using h);simpa using this
noncomputable def UG (J:It)(D:Addr)(g:TG)(tc:TT)(te:TE)(B:St)(W:Nat->Nat->List V->Hp->Prop)(R:Hp->Prop):Prop:=
 ∀i m ys H2,W i m ys H2->(J.stop i H2/\R H2)\/(J.go i H2/\∃N:List V->Hp->Prop,(∀ys' H',N ys' H'->∃L,L<m/\W (i+1) L ys' H')/\∀x O,J.yld i H2 x O->g x B O λj Z=>Uh B j/\tc j Z λb U=>
  if b=true then te j U λy Y=>Y D=some (.lst ys)/\ys.length<sizeLine/\N (ys++[y]) (upd Y D (.lst (ys++[y])))
  else N ys U)
noncomputable def ZeE (wi:TI)(g:TG)(tc:TT)(te:TE)(own:List Str)(fr:List (Str×Nat)):TE:=λσ H Q=>wi σ H λJ H1=>∀D,H1 D=none ->
 ∃W:Nat->Nat->List V->Hp->Prop,(∃m,W 0 m [] (upd H1 D (.lst [])))/\UG J D g tc te (Oy own fr σ) W λH2=>Q (.ref D) H2
section
variable {X:Cx}{qU iter elt:Expr}{ifs:List Expr}{scope:Scope}{cl:List (Str×Addr)}{own:List Str}{fr:List (Str×Nat)}{pos:Pos}{wi:TI}{g:TG}{tc:TT}{te:TE}
theorem Inv.sub_pins {qQ j:List (Addr×Obj)}{σ:St}{H:Hp}{s:Shared}(I:Inv X qQ σ H s)(h:∀p∈j,p∈qQ):Inv X j σ H s:=I.pins_of λp B=>I.pin p (Ycc _ (h p B))
theorem Zde {qQ:List (Addr×Obj)}{σ:St}{H:Hp}{s:Shared}{C:Addr}{fp:List Addr}(S:JQ X scope cl own fr)(I:Inv X qQ σ H s)(B:∀b∈fp,Za6 X qQ H b)(L:s.heap.objs.size<=C)(D:∀b∈fp,b<s.heap.objs.size) :
  (X.comp scope cl (own++fr.map (·.1)) C s H fp).Ok:=by
 refine ⟨I.ok.mod,?_,I.ok.glob,I.ok.blt,L,λx y c h1 h2=>I.ok.inj x y c (S.cls x c h1) (S.cls y c h2),S.has,λx c z=>absurd z (by simp [Cx.comp]),I.ok.hd,I.ok.frames,.inl rfl,
  λb j=>⟨Yay (Yax (D b j) L),λx c h=>(B b j).2.2.2.2.1 x c (S.cls x c h)⟩,I.bs,Ycb I.ok.bsz I.sz,λb o e j=>?_,λb j z=>?_,I.stack,I.stkFree⟩
 ·show (relabel scope X.env).kind=.function;exact S.kind
 ·rcases (B b j).2.2.2.1 with z | z
  ·exact I.ok.noex b o e z
  ·exact absurd (Yax (Yal e) (Ycb I.ok.bsz z)) (Yce _)
 ·rcases Yaz.mp (I.stkSub b z) with q | q
  ·exact (B b j).2.1 q
  ·exact (B b j).2.2.1 q
theorem Va (own:List Str)(fr:List (Str×Nat))(σ:St):(Oy own fr σ).length=(own++fr.map (·.1)).length:=by
 unfold Oy;simp
theorem Vb {qQ:List (Addr×Obj)}{σ:St}{H:Hp}{s:Shared}{it:Addr}{fp:List Addr}{tn:Nat->Heap->Prop}{J:It}{E:EX}{RR:Value->Addr->Result->Shared->Prop}{Rf:Addr->Hp->Prop}(hc:X.calm=true)(S:JQ X scope cl own fr)(I:Inv X qQ σ H s)(T:Zd8 X.prog X.w X.K qU J fp it tn)(st:tn 0 s.heap)(hf:∀b∈fp,Za6 X qQ H b)(hg:∀C s H fp,PG (X.comp scope cl (own++fr.map (·.1)) C s H fp) qU g)(ht:∀C s H fp,ZeD (X.comp scope cl (own++fr.map (·.1)) C s H fp) ifs tc)(he:∀C s H fp,PE (X.comp scope cl (own++fr.map (·.1)) C s H fp) elt te)(hw:∀D,H D=none->∃W:Nat->Nat->List V->Hp->Prop,(∃m,W 0 m [] (upd H D (.lst [])))/\UG J D g tc te (Oy own fr σ) W (Rf D))(as:∀D C s' H',s.heap.objs.size<=C->C≠D->(∃m,s'.heap.Ns C m)->H' C=none->Un (frs X.stack) fp H H' s.heap s'.heap->HOk X.prog X.w H' s'.heap->AllBare s'.gens->s'.os=s.os->Rf D H'->RR (.ref D) C (.ok .next) s') :
  wpAny (model X.prog X.w) X.A (newList []) (λacc s3=>wpAny (model X.prog X.w) X.A (newFunctionEnv scope X.env.globals cl [] X.env.qual none .none (some X.env)) (λab s4=>
   codeAny (model X.prog X.w) X.A (.compStart (.ListComp elt [⟨qU,iter,ifs,0⟩] scope pos) 0 (.ref it) acc { ab with scope:=relabel scope X.env }) (RR acc ab.locals) s4) E s3) E s:=by
 have ah:∀b∈fp,b<s.heap.objs.size:=λb B=>by
  obtain ⟨o,e,_⟩:=T.obj 0 s.heap st b B;exact Yal e
 have hD:H s.heap.objs.size=none:=I.fresh;obtain ⟨W,⟨m0,w0⟩,ad⟩:=hw s.heap.objs.size hD;have I1:Inv X qQ σ (upd H s.heap.objs.size (.lst [])) { s with heap:=s.heap.push { cls:=.type "list", data:=.seq ([]:List Value).toArray },toks:=s.toks }:=I.lnew .nil (Yan _);refine wpAny_newObj_type (wpAny_newFunctionEnv S.nocell (by intro y hy;simp at hy) (λh1 L O=>?_) S.kind);dsimp only at L O ⊢;generalize hH2:s.heap.push { cls:=.type "list", dict:=none,data:=.seq ([]:List Value).toArray }=H2 at L O ⊢ I1;have a4:H2.objs.size=s.heap.objs.size+1:=by rw [<-hH2,Ycu]
 have U:s.heap.objs.size<=H2.objs.size:=by lia
 have aj:s.heap.objs.size≠H2.objs.size:=by lia
 have ak:∀b o,H2.get? b=some o->h1.get? b=some o:=λb o e=>O.extBut b o (Yay (Yal e)) (Yao _ e);have up:∀b o,s.heap.get? b=some o->h1.get? b=some o:=λb o e=>ak b o (hH2▸Yao _ e);have aa:=Zde (C:=H2.objs.size) S I hf U ah;have I0:∀tk,Inv (X.comp scope cl (own++fr.map (·.1)) H2.objs.size s H fp) [] (Oy own fr σ) (upd H s.heap.objs.size (.lst [])) { s with heap:=h1,toks:=tk }:=by
  intro tk;have am:HOk X.prog X.w (upd H s.heap.objs.size (.lst [])) h1:=I1.hok.kept ak;refine ⟨aa,rfl,I.bare,⟨λb o e n _ _=>up b o e,λb o e n _ _=>⟨o.slots,up b o e⟩,λb o e n _=>?_,λb o e _=>⟨o,up b o e⟩,λb xs q=>?_,λb o u q=>?_,λb ps q=>⟨#[],?_⟩⟩,
   ⟨_,L,λi x v e1 e2 e3=>?_⟩,λx c e=>?_,?_,λx c e=>?_,λp hp=>?_,am,Va own fr σ⟩
  ·have e':s.heap.get? b=some o:=e;show upd H s.heap.objs.size (.lst []) b=none;rw [Go (Yay (Yal e'))];exact n
  ·rw [Go (Gf q hD)];exact q
  ·rw [Go (Gf q hD)];exact q
  ·have q':H b=some (.tbl ps):=q;rw [Go (Gf q' hD),q'];simp
  ·-- the free names
   have j:(Oy own fr σ)[i]?=some (some v):=e2;have ae:(own++fr.map (·.1))[i]?=some x:=e1;unfold Oy at j;by_cases hi:i<own.length
   ·rw [Ybp (by simpa using hi),Yba] at j;cases q:own[i]? with
    | none=>rw [q] at j;cases j
    | some y=>rw [q] at j;cases j
   ·rw [Ybw (by simpa using hi),Yab,Yba] at j;rw [Ybw (by lia),Yba] at ae;cases q:fr[i-own.length]? with
    | none=>rw [q] at j;cases j
    | some p=>
     rw [q] at ae j;have ex:p.1=x:=Ybo ae;have ev:(σ[p.2]?).join=some v:=Ybo j;have au:σ[p.2]?=some (some v):=by
      cases z:σ[p.2]? with
      | none=>rw [z] at ev;cases ev
      | some o=>rw [z] at ev;cases o with
       | none=>cases ev
       | some v'=>have:v'=v:=Ybo ev;rw [this]
     obtain ⟨f1,f2,f3⟩:=S.free p (Yau q);subst ex;obtain ⟨m,hn,hl⟩:=I.loc;have av:Vis X.env.scope p.1:=by
      rcases f2 with f2 | f2
      ·exact .inr (.inl f2)
      ·exact .inr (.inr f2)
     obtain ⟨u,ru,lk⟩:=hl p.2 p.1 v f1 au av;refine ⟨u,ru,?_⟩;rcases lk with ⟨k,_⟩ | ⟨k,c,e,z⟩
     ·rcases f2 with f2 | f2 <;> (rw [f2] at k;cases k)
     ·obtain ⟨c',an⟩:=S.has p.1 f3;have e':=S.cls _ _ an;rw [e] at e';cases e';obtain ⟨oc,ho,hd⟩:=z;exact .inr ⟨f3,c,an,⟨oc,up _ _ ho,hd⟩⟩
  ·obtain ⟨v,oc,ho,hd⟩:=I.cell x c (S.cls x c e);exact ⟨v,oc,up _ _ ho,hd⟩
  ·show upd H s.heap.objs.size (.lst []) H2.objs.size=none;rw [Go (Ne.symm aj)];exact I.hok.fresh U
  ·obtain ⟨v,z⟩:=I.cell x c (S.cls x c e);show upd H s.heap.objs.size (.lst []) c=none;rw [Go (Yay z.lt)];exact I.freeC x c (S.cls x c e)
  ·exact absurd (show p∈([]:List (Addr×Obj)) from hp) (by simp)
 have aw:∀b∈fp,upd H s.heap.objs.size (.lst []) b=none:=λb B=>by rw [Go (Yay (ah b B))];exact (hf b B).1
 have ao:tn 0 h1:=T.keep 0 _ _ st λb B o e=>up b o e;have Y:∀{H':Hp},(∀b∈fp,H' b=none)->∀b∈fp,Za6 (X.comp scope cl (own++fr.map (·.1)) H2.objs.size s H fp) [] H' b:=λhn b B=>
  ⟨hn b B,(aa.exf b B).1,aa.exfs b B,.inl B,(aa.exf b B).2,λp hp=>absurd (show p∈([]:List (Addr×Obj)) from hp) (by simp)⟩
 have ac:∀s3:Shared,(∃tk,s3={ s with heap:=h1,toks:=tk }) ->
   codeAny (model X.prog X.w) X.A (.compLoop (.ListComp elt [⟨qU,iter,ifs,0⟩] scope pos) 0 (.ref it) (.ref s.heap.objs.size) (compEnvC scope cl H2.objs.size X.env)) (RR (.ref s.heap.objs.size) H2.objs.size) s3:=by
  rintro s3 ⟨tk,rfl⟩;refine WN (λn s'=>∃i ys H',Inv (X.comp scope cl (own++fr.map (·.1)) H2.objs.size s H fp) [] (Oy own fr σ) H' s'/\tn i s'.heap/\(∀b∈fp,H' b=none)/\W i n ys H') ?_ m0 ⟨0,[],_,I0 tk,ao,aw,w0⟩;rintro n s4 ⟨i,ys,H4,I4,ap,aq,w4⟩;rcases ad i n ys H4 w4 with ⟨ar,q⟩ | ⟨go,N,hN,step⟩
  ·refine thn (T.done (X.comp scope cl (own++fr.map (·.1)) H2.objs.size s H fp) rfl rfl rfl hc i [] s4 _ H4 _ I4 (Y aq) ap ar) λr s5 ⟨hr,I5⟩=>?_;subst hr;exact as _ _ s5 H4 U (Ne.symm aj) ⟨_,I5.loc.choose_spec.1⟩ I5.free I5.base I5.hok I5.bare I5.os q
  ·refine thn (T.item (X.comp scope cl (own++fr.map (·.1)) H2.objs.size s H fp) rfl rfl rfl hc i [] s4 _ H4 _ I4 (Y aq) ap go) λr s5 ⟨u,hr,h5⟩=>?_;subst hr;refine thn h5 λ_ s6 ⟨x,H6,I6,r6,y6,ag,ax⟩=>?_;have ay:=I6.pinned (Y ax) (T.obj _ _ ag);refine thn (hg H2.objs.size s H fp _ s6 _ H6 x u _ ay r6 (step x H6 y6)) λ_ s7 ⟨σ7,H7,I7,k7,q7⟩=>?_;refine thT (ht H2.objs.size s H fp _ s7 σ7 H7 _ I7 q7) λok s8 H8 I8 q8=>?_;have Z:∀{s9:Shared}{σ9:St}{H9:Hp}{zs:List V},Inv (X.comp scope cl (own++fr.map (·.1)) H2.objs.size s H fp) ([]++Wv fp s6.heap) σ9 H9 s9->(∀(i:Nat) v,(Oy own fr σ)[i]?=some (some v)->σ9[i]?=some (some v))->(∃m',m'<n/\W (i+1) m' zs H9) ->
     ∃m,m<n/\∃i ys H',Inv (X.comp scope cl (own++fr.map (·.1)) H2.objs.size s H fp) [] (Oy own fr σ) H' s9/\tn i s9.heap/\(∀b∈fp,H' b=none)/\W i m ys H':=by
    intro s9 σ9 H9 zs I9 hσ ⟨m',hm,w9⟩;refine ⟨m',hm,i+1,zs,H9,(I9.sub_pins (λp hp=>absurd (show p∈([]:List (Addr×Obj)) from hp) (by simp))).weak ?_ hσ,T.keep _ _ _ ag λb B o e=>(I9.pin (b,o) (Ycc _ (Ycc _ (Oi B e)))).1,λb B=>?_,w9⟩
    ·rw [I9.len];exact Va own fr σ
    ·obtain ⟨o,e,d⟩:=T.obj _ _ ag b B;exact (I9.pin (b,o) (Ycc _ (Ycc _ (Oi B e)))).2.1
   cases ok with
   | false=>exact (if_neg Yas).mpr (Z I8 (Oj k7) (hN _ _ ((if_neg Yas).mp q8)))
   | true=>
    refine (if_pos rfl).mpr ?_;have az:=(if_pos rfl).mp q8;refine thG (he H2.objs.size s H fp _ s8 σ7 H8 _ I8 az) λy s9 yv H9 I9 r9 ⟨a1,hz,q9⟩=>?_;refine thG (G9 _ s9 σ7 H9 (.ref s.heap.objs.size) [yv] (.ref s.heap.objs.size) [y] (λ_ H'=>H'=upd H9 s.heap.objs.size (.lst (ys++[yv]))) I9 rfl (.cons r9 .nil) ⟨_,ys,yv,rfl,rfl,a1,hz,rfl⟩) λ_ a5 _ a6 a2 _ a3=>?_;subst a3;exact Z a2 (Oj k7) (hN _ _ q9)
 exact codeAny_compStart_list (ac _ ⟨_,rfl⟩) (T.self _ 0 _ _ _ ao (ac _ ⟨_,rfl⟩))
theorem Vc {qQ:List (Addr×Obj)}{σ:St}{H H':Hp}{s s':Shared}{fp:List Addr}(I:Inv X qQ σ H s)(B:∀b∈fp,Za6 X qQ H b)(un:Un (frs X.stack) fp H H' s.heap s'.heap)(L:HOk X.prog X.w H' s'.heap)(j:AllBare s'.gens)(O:s'.os=s.os):Inv X qQ σ H' s':=
 I.call' O un L j λb D=>⟨(B b D).2.2.2.1,(B b D).2.1,(B b D).2.2.2.2.1,(B b D).2.2.2.2.2⟩
theorem X6 {qQ:List (Addr×Obj)}{σ j:St}{H H':Hp}{s s':Shared}{C:Addr}{h':Heap}(I:Inv X qQ σ H s)(B:s.heap.objs.size<=C)(D:H' C=none)(L:Inv X qQ j H' s')(O:Heap.SameBut C s'.heap h') :
  Inv X qQ j H' { s' with heap:=h' }:=by
 obtain ⟨U,Y,f2,Z,f4,f5⟩:=I.fpOk B D;exact L.turned (t':=s'.toks) (λb o hb e=>(O.2 b hb).trans e) U Y Z f4 f5
theorem G7 (hc:X.calm=true)(S:JQ X scope cl own fr)(hi:PI X qU iter wi)(hg:∀C s H fp,PG (X.comp scope cl (own++fr.map (·.1)) C s H fp) qU g)(ht:∀C s H fp,ZeD (X.comp scope cl (own++fr.map (·.1)) C s H fp) ifs tc)(he:∀C s H fp,PE (X.comp scope cl (own++fr.map (·.1)) C s H fp) elt te)(hs:∀x,foldedSetIterable iter X.env x=pure x:=by intro _;rfl):PE X (.ListComp elt [⟨qU,iter,ifs,0⟩] scope pos) (ZeE wi g tc te own fr):=by
 intro qQ s σ H Q I h;rw [eval_ListComp];refine wpAny_comprehension_free (use:=none) rfl hs S.clos S.kind S.names (thn (hi qQ s σ H _ I h) λv s1 h1=>thn h1 λaa s2 h2=>?_);obtain ⟨it,fp,tn,J,H2,e,B,T,L,Z,hw⟩:=h2;subst e;refine Vb (RR:=λacc C=>compPost (model X.prog X.w) X.A X.xe none (EP X qQ σ Q) acc C) hc S B T L Z hg ht he hw ?_;rintro D C s' H' hC ab ⟨m,hn⟩ O un U j os q;refine ⟨m,hn,λh' Y=>⟨.ref D,H',?_,rfl,q⟩⟩;exact X6 (C:=C) (σ:=σ) B hC O (Vc B Z un U j os) Y
theorem VA {i:Nat}{y:Str}{B j:Pos}(hN:X.N.Nodup)(hi':X.N[i]?=some y)(hx:Loc X.env.scope y)(hc:X.calm=true)(S:JQ X scope cl own fr)(hi:PI X qU iter wi)(hg:∀C s H fp,PG (X.comp scope cl (own++fr.map (·.1)) C s H fp) qU g)(ht:∀C s H fp,ZeD (X.comp scope cl (own++fr.map (·.1)) C s H fp) ifs tc)(he:∀C s H fp,PE (X.comp scope cl (own++fr.map (·.1)) C s H fp) elt te)(hf:X.fn y=true\/X.env.scope.names.lookup y=some .local:=by first | exact .inl rfl | exact .inr rfl | assumption)(U:swapsWith (.ListComp elt [⟨qU,iter,ifs,0⟩] scope pos) (some (.Name y B)) j.line X.env=pure true:=by rfl)(hs:∀x,foldedSetIterable iter X.env x=pure x:=by intro _;rfl):PS X (.Assign [.Name y B] (.ListComp elt [⟨qU,iter,ifs,0⟩] scope pos) j) (ZgQ (ZeE wi g tc te own fr) (GY i)):=by
 intro qQ s σ H Dn I h;rw [exec_Assign_Name_used _ _ _ _ U];refine Yaa (wpAny_standAt (Yaa ?_));show wpAny _ X.A (do let _ <- comprehension (.ListComp elt [⟨qU,iter,ifs,0⟩] scope pos) scope X.env _ (newList []) false (eval iter X.env) (some (assign (.Name y B) X.env))) _ _ s;refine Yaa (Ybr (wpAny_comprehension_free (use:=some (assign (.Name y B) X.env)) (Q:=λ_ s'=>SP X qQ Dn .next s') rfl hs S.clos S.kind S.names (thn (hi qQ s σ H _ I h) λv s1 h1=>thn h1 λag s2 h2=>?_))
  (λ_ s' hq=>Yaf (Yaf hq)) λ_ _ e=>e)
 obtain ⟨it,fp,tn,J,H2,e,L,T,Y,f2,hw⟩:=h2;subst e;refine Vb (RR:=λacc C=>compPost (model X.prog X.w) X.A X.xe (some (assign (.Name y B) X.env)) (λ_ s'=>SP X qQ Dn .next s') acc C) hc S L T Y f2 hg ht he hw ?_;rintro D C s' H' Z ah ⟨m,hn⟩ aa un ab O os q;have I3:Inv X qQ σ H' s':=Vc L f2 un ab O os;show wpAny _ X.A (assign (.Name y B) X.env (.ref D)) _ _ s';refine wpAny_assign_Name (Wp I3 hN hi' hx (v:=.ref D) rfl (λs4 I4 ⟨a,ac,ha⟩=>?_) hf);have ad:C≠a:=by
  rcases ha with z | z
  ·rw [z];exact Nat.ne_of_gt (Yax L.lt Z)
  ·obtain ⟨v,q⟩:=L.cell y a z;exact Nat.ne_of_gt (Yax q.lt Z)
 refine ⟨m,hn.sameBut ac ad,λh' ae=>⟨_,H',X6 (C:=C) (σ:=σ) L Z aa I4 ae,q⟩⟩
end
noncomputable abbrev X7 (J:It)(D:Addr)(g:TG)(tc:TT)(te:TE)(j:St)(R:Hp->Prop)(H1:Hp):Prop:=∃W:Nat->Nat->List V->Hp->Prop,(∃m,W 0 m [] (upd H1 D (.lst [])))/\UG J D g tc te j W R
theorem VB {J:It}{n:Nat}{D:Addr}{g:TG}{tc:TT}{te:TE}{L:St}{R:Hp->Prop}{H1:Hp}(j:Nat->List V->Hp->Prop)(h0:j 0 [] (upd H1 D (.lst [])))(Z:∀i ys H,i<=n->j i ys H->(i<n->J.go i H)/\(i=n->J.stop i H))(hs:∀i ys H x H',i<n->j i ys H->J.yld i H x H'->g x L H' λO H4=>Uh L O/\tc O H4 λb U=>if b=true then te O U λy Y=>Y D=some (.lst ys)/\ys.length<sizeLine/\j (i+1) (ys++[y]) (upd Y D (.lst (ys++[y]))) else j (i+1) ys U)(hd:∀ys H,j n ys H->R H):X7 J D g tc te L R H1:=by
 refine ⟨λi m ys H=>m=n-i/\i<=n/\j i ys H,⟨_,rfl,Yan _,h0⟩,?_⟩;rintro i m ys H ⟨rfl,hi,p⟩;have q:=Z i ys H hi p;by_cases B:i<n
 ·exact .inr ⟨q.1 B,j (i+1),λys' H' p'=>⟨n-(i+1),by lia,rfl,B,p'⟩,λx H' y=>hs i ys H x H' B p y⟩
 ·have e:i=n:=by lia
  subst e;exact .inl ⟨q.2 rfl,hd ys H p⟩
theorem GE {K:W.Frag}{a D:Addr}{xs:List V}{g:TG}{tc:TT}{te:TE}{B:St}{R:Hp->Prop}{H1:Hp}(j:Nat->List V->Hp->Prop)(h0:j 0 [] (upd H1 D (.lst [])))(L:∀i ys H,i<=xs.length->j i ys H->SqL K H a xs)(Z:∀i x ys H,xs[i]?=some x->j i ys H->g x B H λO H4=>Uh B O/\tc O H4 λb U=>if b=true then te O U λy Y=>Y D=some (.lst ys)/\ys.length<sizeLine/\j (i+1) (ys++[y]) (upd Y D (.lst (ys++[y]))) else j (i+1) ys U)(hd:∀ys H,j xs.length ys H->R H):X7 (Itl K a) D g tc te B R H1:=VB j h0 (λi s H hi p=>⟨λz=>⟨xs,xs[i],L i s H hi p,by simp [z]⟩,λe=>⟨xs,L i s H hi p,by lia⟩⟩) (λi s H x H' z p y=>by obtain ⟨rfl,y⟩:=y;exact Z i x s _ (y xs (L i s _ (Ycs z) p)) p) hd
theorem O3 {lo:Int}{n:Nat}{D:Addr}{g:TG}{tc:TT}{te:TE}{B:St}{R:Hp->Prop}{H1:Hp}(j:Nat->List V->Hp->Prop)(h0:j 0 [] (upd H1 D (.lst [])))(Y:∀i ys H,i<n->j i ys H->g (.int (lo+i)) B H λL Z=>Uh B L/\tc L Z λb O=>if b=true then te L O λy U=>U D=some (.lst ys)/\ys.length<sizeLine/\j (i+1) (ys++[y]) (upd U D (.lst (ys++[y]))) else j (i+1) ys O)(hd:∀ys H,j n ys H->R H):X7 (Itr lo n) D g tc te B R H1:=VB j h0 (λi s H hi p=>⟨id,λe=>Nat.le_of_eq e.symm⟩) (λi s H x H' z p y=>by obtain ⟨rfl,rfl⟩:=y;exact Y i s _ z p) hd
theorem Ji {X:Cx}{scope:Scope}{own:List Str}(j:∀y∈scope.names,y.2≠.free)(L:∀y∈scope.names,y.2≠.cell)(O:scope.kind=.function)(U:∀y∈scope.names,y.2=.local->scope.names.lookup y.1=some .local):JQ X scope [] own []:=by
 have B:(relabel scope X.env).names=scope.names:=by
  unfold relabel;dsimp only;refine (List.map_congr_left λp D=>?_).trans (List.map_id _);obtain ⟨n,k⟩:=p;have:(k == NameKind.free)=false:=by
   have:=j _ D;cases k <;> first | rfl | exact absurd rfl this
  simp [this]
 refine ⟨closureFor_none j,L,O,U,λy c h=>by simp at h,λy h=>?_,λp D=>by simp at D⟩;rw [B] at h;rcases h with h | h
 ·exact absurd rfl (L _ (Ycd h))
 ·exact absurd rfl (j _ (Ycd h))
noncomputable def Zbs (a C:Addr)(h:Heap):Prop:=∃j vs,h.get? a=some j/\j.cls=.ref C/\j.data=.fields vs
noncomputable def ZhO (a C:Addr):HO:=.ext (Zbs a C)
theorem ObjOk.there {P:Program}{w:World}{H:Hp}{h:Heap}{a:Addr}{u:HO}(ok:ObjOk P w H h a u):∃v,h.get? a=some v:=by
 cases u with
 | lst xs=>obtain ⟨_,_,_,_,e⟩:=ok;exact ⟨_,e⟩
 | tup xs=>obtain ⟨_,_,_,o,e,_⟩:=ok;exact ⟨_,e⟩
 | dK kvs=>obtain ⟨_,_,_,_,o,_,_,e,_⟩:=ok;exact ⟨_,e⟩
 | dT kvs=>obtain ⟨_,_,_,_,o,_,_,e,_⟩:=ok;exact ⟨_,e⟩
 | set S n=>obtain ⟨o,_,_,_,e,_⟩:=ok;exact ⟨_,e⟩
 | ins C dx fs=>obtain ⟨_,_,_,e,_⟩:=ok;exact ⟨_,e⟩
 | own y=>obtain ⟨_,e⟩:=ok;exact ⟨_,e⟩
 | xd fs=>obtain ⟨_,⟨_,_,_,e,_⟩,_⟩:=ok;exact ⟨_,e⟩
 | rng lo hi=>obtain ⟨_,_,_,e⟩:=ok;exact ⟨_,e⟩
 | frz ob u=>obtain ⟨e,_⟩:=ok;exact ⟨_,e⟩
 | tbl ps=>exact ⟨_,show h.get? a=some _ from ok⟩
 | met f y=>exact ⟨_,show h.get? a=some _ from ok⟩
 | ext φ=>obtain ⟨_,⟨_,e⟩,_⟩:=ok;exact ⟨_,e⟩
noncomputable def Zg3 (P:Program)(w:World)(outer:List Env)(H H':Hp)(s:Shared)(a C:Addr)(s':Shared):Prop:=
 ∃(t:Addr)(B:Heap),s'.os=s.os/\AllBare s'.gens/\Un (frs outer) [] H H' s.heap s'.heap/\HOk P w H' s'.heap/\Heap.FlyingW B outer a (.ref C) (.ref t) s'.heap /\
  (∀b o,s'.heap.get? b=some o->H' b≠none->B.get? b=some o)/\(∀b j o,s.heap.get? b=some j->s'.heap.get? b=some o->b ∉ frs outer->B.get? b=some o)
noncomputable def CXr (P:Program)(w:World):CXT:=λouter H s E e s'=>∃(a C:Addr)(H':Hp),e=.ref a/\Zg3 P w outer H H' s a C s'/\E (.ref C) none H'
section
variable {X:Cx}{qQ:List (Addr×Obj)}{σ:St}{H:Hp}{s:Shared}
noncomputable def X8 (X:Cx)(E:XK):Prop:=∀(qQ:List (Addr×Obj))(σ:St)(H:Hp)(s:Shared)(h':Heap)(a C:Addr)(vs:List Value),Inv X qQ σ H s->Heap.MadeExcOf s.heap h' a (.ref C) vs->E (.ref C) none H->X.xe (.ref a) { s with heap:=h' }
theorem WP {P:Program}{w:World}{K:W.Frag}{mg:Str->Option Value}{base:Heap}{N:List Str}{qual:Str}{scope:Scope}{f:Addr}{cd:Value}{A:Around}{outer:List Env}{s:Shared}{H:Hp}{E:XK} :
  X8 (YM (CXr P w) P w K mg base N qual scope f cd A outer s H E) E:=by
 intro qQ σ H1 s1 h' a C vs I hx hE;have ad:=I.ok.frames;have aa:s1.heap.FunFrames base (envOfC qual scope s.heap.objs.size f cd::outer):=I.stack;have ae:∀U∈(envOfC qual scope s.heap.objs.size f cd::outer),∀b,U.frame=some b->b∈frs (envOfC qual scope s.heap.objs.size f cd::outer):=λU he b L=>Ydj.mpr ⟨U,he,L⟩;have j:∀b o,s1.heap.get? b=some o->b ∉ frs (envOfC qual scope s.heap.objs.size f cd::outer)->(W.hideAll s1.heap (frs (envOfC qual scope s.heap.objs.size f cd::outer))).get? b=some o:=λb o e n=>W.hideAll_get _ e n;refine wpAny_leaves_madeW (base:=W.hideAll s1.heap (frs (envOfC qual scope s.heap.objs.size f cd::outer))) ad rfl (λb o q=>W.of_hideAll _ q) (W.funFrames_hide aa ae) hx λh2 t fl tu tn sm=>?_;refine ⟨a,C,H1,rfl,⟨t,_,I.os,I.bare,⟨λb o e n L _=>?_,λb o e n L _=>?_,λb o e n _=>?_,λb o e _=>?_,I.base.tups,I.base.frzs,I.base.tbls⟩,λb u e=>?_,fl,λb o e n=>?_,λb o0 o e0 e nb=>?_⟩,hE⟩
 ·have B:s1.heap.get? b=some o:=I.base.keep b o e n L (by intro z;exact absurd (show b∈([]:List Addr) from z) (by simp));refine fl.1 b o (j b o B λz=>?_);rcases Yaz.mp (I.stkSub b z) with q | q
  ·exact absurd (Yax (Yal e) I.ok.above) (by rw [q];exact Yce _)
  ·exact L q
 ·obtain ⟨sl,B⟩:=I.base.slot b o e n L (by intro z;exact absurd (show b∈([]:List Addr) from z) (by simp));have nf:∀vs,o.data≠.fields vs:=by
   obtain ⟨_,o',D,Y⟩:=I.funs.mem (show b∈(outer.filterMap (·.frame)) from L);rw [B] at D;cases D;exact Y
  obtain ⟨ab,O⟩:=sm b { o with slots:=sl } (hx.keeps b _ B) nf;exact ⟨ab,O⟩
 ·exact I.base.free b o e n (by intro z;exact absurd (show b∈([]:List Addr) from z) (by simp))
 ·obtain ⟨Z,B⟩:=I.base.there b o e (by intro z;exact absurd (show b∈([]:List Addr) from z) (by simp));by_cases L:b∈frs (envOfC qual scope s.heap.objs.size f cd::outer)
  ·obtain ⟨_,o',D,Y⟩:=aa.mem L;rw [B] at D;cases D;obtain ⟨ab,O⟩:=sm b Z (hx.keeps b _ B) Y;exact ⟨_,O⟩
  ·exact ⟨Z,fl.1 b Z (j b Z B L)⟩
 ·have trk:∀c v,s1.heap.get? c=some v->H1 c≠none->h2.get? c=some v:=λc v q hc=>fl.1 c v (j c v q λz=>hc (I.stkFree c z));refine (I.hok b u e).stay (λc v hc q=>trk c v q ?_) (λ_ q=>q) λ_ _ q=>q;rcases hc with z | z
  ·rw [z,e];simp
  ·rw [z];simp
 ·cases q':H1 b with
  | none=>exact absurd q' n
  | some u=>
   obtain ⟨v,q⟩:=(I.hok b u q').there;have nb:b ∉ frs (envOfC qual scope s.heap.objs.size f cd::outer):=λz=>n (I.stkFree b z);have O:=fl.1 b v (j b v q nb);rw [e] at O;cases O;exact j b _ q nb
 ·obtain ⟨Z,B⟩:=I.base.there b o0 e0 (by intro z;exact absurd (show b∈([]:List Addr) from z) (by simp));have ac:b ∉ frs (envOfC qual scope s.heap.objs.size f cd::outer):=λz=>by
   rcases Yaz.mp (I.stkSub b z) with q | q
   ·exact absurd (Yax (Yal e0) I.ok.above) (by rw [q];exact Yce _)
   ·exact nb q
  have O:=fl.1 b Z (j b Z B ac);have e':h2.get? b=some o:=e;rw [e'] at O;cases O;exact j b _ B ac
theorem Zbt {P:Program}{w:World}{outer:List Env}{H H':Hp}{s s':Shared}{a C t:Addr}{B h2:Heap}(un:Un (frs outer) [] H H' s.heap s'.heap)(Z:HOk P w H' s'.heap)(fr:s'.heap.FunFrames B outer)(trk:∀b o,s'.heap.get? b=some o->H' b≠none->B.get? b=some o)(old:∀b o0 o,s.heap.get? b=some o0->s'.heap.get? b=some o->b ∉ frs outer->B.get? b=some o)(st:B.StaysIn h2)(sm:s'.heap.UpToSlots h2) :
  Un (frs outer) [] H H' s.heap h2/\HOk P w H' h2:=by
 refine ⟨⟨λb o e n D U=>st b o (old b o o e (un.keep b o e n D U) D),λb o e n D U=>?_,un.free,λb o e U=>?_,un.tups,un.frzs,un.tbls⟩,λb u e=>?_⟩
 ·obtain ⟨sl,O⟩:=un.slot b o e n D U;obtain ⟨_,o',j,L⟩:=fr.mem D;rw [O] at j;cases j;obtain ⟨Y,e2⟩:=sm b _ O L;exact ⟨Y,e2⟩
 ·obtain ⟨o1,O⟩:=un.there b o e U;by_cases D:b∈frs outer
  ·obtain ⟨_,o',j,L⟩:=fr.mem D;rw [O] at j;cases j;obtain ⟨Y,e2⟩:=sm b _ O L;exact ⟨_,e2⟩
  ·exact ⟨o1,st b o1 (old b o o1 e O D)⟩
 ·refine (Z b u e).stay (λc v hc q=>st c v (trk c v q ?_)) (λ_ q=>q) λ_ _ q=>q;rcases hc with z | z
  ·rw [z,e];simp
  ·rw [z];simp
end
abbrev ZhP:List Value:=[.type "ValueError", .type "Exception", .type "BaseException", .type "object"]
abbrev ExcC (K:W.Frag)(C:Addr):Prop:=W.excIn K C ZhP "ValueError.__new__" = true
theorem Xq {K:W.Frag}{h:Heap}{C:Addr}(KX:K.In h)(ex:ExcC K C):∃B D L,(∃ab ac ad ae ag O ah U Y j0 j1 j2 j3 j5,
  h.get? C=some (excClassObj ab ac C D ad B ae ag O ah U Y j0 j1 j2 j3 j5 "ValueError.__new__"))/\h.Ns D L/\L "__init__" = none/\OwnTail h ZhP B:=by
 have ex':=ex;unfold ExcC W.excIn at ex';split at ex'
 ·rename_i Y Z aa lk;have ai:=KX _ _ lk;split at ex'
  ·rename_i C' j j0 j1 j2 j3 n' j5 hm hs;rw [Yby,Yby,Yby,Yby,Yby,Ybf,Ybf,Ybf] at ex';obtain ⟨⟨⟨⟨⟨z1,z2⟩,z3⟩,z4⟩,z5⟩,z6⟩:=ex';have aj:Z.hasDel=false:=by simpa using z3
   subst z1 z2;cases Z with
   | mk a1 a2 a3 a4 a5 a6 a7 a8 a9 a10 a11=>
    have ak:a3=.ref C'::j:=hm;have am:a11=false:=aj;subst ak am;have es:aa=#[j0,j1,j2,j3,some (.builtin "ValueError.__new__"),j5]:=by
     cases aa with
     | mk l=>exact Ybi Array.mk hs
    subst es;exact ⟨j,a4,_,⟨_,_,_,_,_,_,_,_,_,_,_,_,_,_,ai⟩,.of_isNs (W.isNs_of_in KX z5),W.nsMap_none_of_in KX z5 z6,W.tail_of_in KX z4⟩
  ·cases ex'
 ·cases ex'
section
variable {X:Cx}
noncomputable def ZeF (C:Addr)(E:XK)(t:TA):TS:=λ_ σ H=>t σ H λvs H1=>vs.length<=sizeLine/\E (.ref C) none H1
theorem Zbu {C:Addr}{E:XK}{x:Str}{np qK pos:Pos}{e:Expr}{es:List Expr}{t:TA}(hc:X.calm=true)(hR:X8 X E)(hg:Gl X x)(U:X.mg x=some (.ref C))(ex:ExcC X.K C)(ha:PA X (e::es) t)(Y:(x == ("__debug__" : Str))=false:=by decide)(he:starEach (e::es) X.env=(false,eval e X.env)::starEach es X.env:=by rfl)(Z:(backTo qK (starEach es X.env)).any (·.1)=false:=by rfl) :
  PS X (.Raise (some (.Call (.Name x np) (e::es) [] qK)) none pos) (ZeF C E t):=by
 intro qQ s σ H D I h;obtain ⟨j,aa,ac,⟨ad,ae,ag,ah,ai,B,aj,L,ak,j0,j1,j2,j3,j5,hC⟩,hN,am,T⟩:=Xq I.mod.kin ex;refine wpAny_Raise_call_subT (C:=C) (nm:=ad) (q:=ae) (N:=aa) (bs:=ag) (bm:=j) (hdct:=ah) (sn:=ai) (sub:=B) (ab:=aj) (col:=L) (dd:=ak) (k0:=j0) (k1:=j1) (k2:=j2) (k3:=j3) (k5:=j5)
  PySem.F.excBase_ValueError (mN:=ac) (T.hasType PySem.F.excBase_ValueError.hasBase) (I.ok.hd hc) (by rw [he];show (false || (backTo qK (starEach es X.env)).any (·.1))=false;rw [Z];rfl) am (Uz I hg U ⟨rfl,?_⟩ Y)
 have hA:=ha qK qQ s σ H _ I h;rw [he] at hA ⊢;refine Calls.evalArgs_plain (thn hA λus s2 ⟨vs,H2,O,r2,hl,q2⟩=>?_);exact ⟨rfl,by rw [<-r2.length];exact hl,O.bk _ _ hC,hN.keeps O.bk,T.keeps O.bk,λh' a U=>hR qQ σ H2 s2 h' a C us O U q2⟩
variable {qQ:List (Addr×Obj)}{σ:St}{H:Hp}{s:Shared}
end
theorem X9 {M:Model}{h:Heap}{a C:Addr}(j:Zbs a C h):W.Looks M h (typeOf (.ref a)) (.ref C):=by
 obtain ⟨B,vs,e,c,d⟩:=j;exact c▸(W.Looks.ld e).andThen .now
theorem ZR {K:W.Frag}{prog:Program}{w:World}{A:Around}{E:EX}{Q:Option Value->Shared->Prop}{s:Shared}{a C:Addr}(B:K.In s.heap)(hx:Zbs a C s.heap)(L:W.findIn K (.ref C) "__getattribute__" = some (some (.builtin "BaseException.__getattribute__")))(D:W.findIn K (.ref C) "__getattr__" = some none)(O:W.findIn K (.ref C) "__class__" = some (some (.builtin "object.__class__")))(hm:W.mroIn K C (.type "object")=some true)(hB:W.subIn K (.ref C) (.type "BaseException")=some true)(h:Q (some (.ref C)) { s with toks:=s.toks+1 }):wpAny (model prog w) A (getAttr? (.ref a) "__class__") Q E s:=by
 have j:=X9 (M:=model prog w) hx;have L1:=W.looks_findIn (M:=model prog w) B L;have L2:=W.looks_findIn (M:=model prog w) B D;have L3:=W.looks_findIn (M:=model prog w) B O;have L4:=W.looks_subIn (M:=model prog w) B hB;obtain ⟨h0,g,d,t,os⟩:=s;have f3:=PySem.F.attr_ValueError.ga.bind (.ref a);unfold getAttr? getAttrBy? getAttrBy;refine Yaa (wpAny_mkText (Yaa (wpAny_attempt (Ydc (Yaa (j.at (Yaa (L1.at ?_))))))));dsimp only;have U:(onTheHeap (Value.ref C) && Value.builtin "BaseException.__getattribute__" == Value.builtin "object.__getattribute__")=false:=by
  have z:(Value.builtin "BaseException.__getattribute__" == Value.builtin "object.__getattribute__")=false:=by decide +kernel
  rw [z,Bool.and_false]
 rw [U];simp only [Bool.false_eq_true,if_false];unfold getAttrByItsOwn
 repeat (any_goals (first | assumption | with_reducible refine j.at ?_ | with_reducible refine L2.at ?_ | wp_step))
 have Y:splitId "BaseException.__getattribute__" = some ("BaseException", "__getattribute__"):=by decide +kernel
 have Z:builtinKind "BaseException.__getattribute__" = some .slot:=by decide +kernel
 have ab:=PySem.F.args_bexc_ga (.ref a) (.str (Str.ofString "__class__") t);refine codeAny_call_builtin PySem.F.attr_ValueError.ga.plain PySem.F.entry_bexc_ga ?_;show wpAny _ _ (checkBuiltinCall "BaseException.__getattribute__" ⟨[.ref a,.str (Str.ofString "__class__") t],[]⟩) _ _ _;simp only [checkBuiltinCall,Z,Y];refine Yaa ?_;unfold isInstance;have f5:=PySem.F.typeOf_object_class;have f6:=PySem.F.slot_gs_get.lookup;have f7:=PySem.F.slot_gs_set.lookup;have ac:(⟨h0,g,d,t+1,os⟩:Shared).TypeIs (.builtin "object.__class__") "getset_descriptor" := PySem.F.typeOf_object_class;refine Yaa (j.at (L4.at ?_))
 repeat (any_goals (first | assumption | with_reducible refine j.at ?_ | with_reducible refine L3.at ?_ | wp_step))
 have Lo:W.Looks (model prog w) h0 (isSubtype (.ref C) (.type (".".intercalate ("object.__class__".cutAt '.').dropLast))) true:=by
  rw [PySem.F.owner_object_class];exact W.looks_mroIn B hm
 have aa:(⟨h0,g,d,t+1,os⟩:Shared).TypeIs (.builtin "object.__class__") "getset_descriptor" := PySem.F.typeOf_object_class;refine codeAny_call_builtin PySem.F.slot_gs_get.plain PySem.F.entry_gs_get (PySem.F.slot_gs_get.check _ _ _ _ _ _ _ _ aa (PySem.F.args_gs_get _ _ _) ?_)
 repeat (any_goals (first | assumption | with_reducible refine j.at ?_ | with_reducible refine Lo.at ?_ | wp_step))
 refine ⟨Code.quiet_builtin _ (by decide +kernel),codeAny_builtin PySem.F.entry_object_class ?_⟩
 repeat (any_goals (first | assumption | with_reducible refine j.at ?_ | wp_step))
structure Zg4 (K:W.Frag)(C:Addr):Prop where
 ex:ExcC K C
 ga:W.findIn K (.ref C) "__getattribute__" = some (some (.builtin "BaseException.__getattribute__"))
 nga:W.findIn K (.ref C) "__getattr__" = some none
 cl:W.findIn K (.ref C) "__class__" = some (some (.builtin "object.__class__"))
 ob:W.mroIn K C (.type "object")=some true
 be:W.subIn K (.ref C) (.type "BaseException")=some true
theorem Yb {K:W.Frag}{a C:Addr}(k:Zg4 K C):W.KitX K (.ref a) (.ref C) (Zbs a C) where
 ty:=λ_ _ _ p=>X9 p
 it:=λM h KX _=>by
  obtain ⟨_,_,_,⟨_,_,_,_,_,_,_,_,_,_,_,_,_,_,hC⟩,_⟩:=Xq KX k.ex;intro A Q E s kk q;unfold isType loadHead;exact Yaa (wpAny_loadPart (kk _ _ hC) (Yaf q))
 ne:=λh tp dd its n sl KX htp=>by
  obtain ⟨_,_,_,⟨_,_,_,_,_,_,_,_,_,_,_,_,_,_,hC⟩,_⟩:=Xq KX k.ex;refine Ydy.mpr λq=>?_;have e:C=tp:=Value.ref.inj (Ybf.mp q);rw [<-e,hC] at htp;have z:=Ybi Obj.data (Ybo htp);unfold excClassObj at z;cases z
 ca:=λKX p q=>ZR KX p k.ga k.nga k.cl k.ob k.be q
noncomputable def WQ:V->Value
 | .ty n=>.type n
 | .ref a=>.ref a
 | _=>.none
noncomputable def ZS:V->Bool
 | .ty _=>true
 | .ref _=>true
 | _=>false
theorem RelV.cls {c:V}{u:Value}(r:RelV c u)(h:ZS c=true):u=WQ c:=by
 cases c with
 | ty n=>exact r
 | ref a=>exact r
 | _=>cases h
theorem Vals.cls:∀{cs:List V}{us:List Value},Vals cs us->cs.all ZS=true->us=cs.map WQ
 | _,_,.nil,_=>rfl
 | _,_,.cons r t,h=>by
  rw [List.all_cons,Yby] at h;rw [Yaq,r.cls h.1,Vals.cls t h.2]
noncomputable def ZhQ (K:W.Frag):List V->Hp->VK->Prop:=λxs H Q=>∃x c b,xs=[x,c]/\Q (.bl b) H /\
 ((∃t,YJ K H x t/\ZS c=true/\W.kitOne K t (WQ c)=some b) \/
  (∃a C,x=.ref a/\H a=some (ZhO a C)/\Zg4 K C/\ZS c=true/\W.kitOne K (.ref C) (WQ c)=some b) \/
  (∃a C tp cs,x=.ref a/\H a=some (ZhO a C)/\Zg4 K C/\c=.ref tp/\H tp=some (.tup cs)/\cs.all ZS=true/\W.kitAny K (.ref C) (cs.map WQ)=some b))
theorem Zbv {X:Cx}:J6 X (.builtin "isinstance") (ZhQ X.K):=by
 intro qQ s σ H xs us Q I U h;obtain ⟨x,c,b,rfl,q,h⟩:=h;obtain ⟨u,Y,rfl,B,D⟩:=U.two;have fin:∀tk,EP X qQ σ Q (.bool b) { s with toks:=tk }:=λtk=>⟨.bl b,H,I.tok tk,rfl,q⟩;rcases h with ⟨t,ty,j,e⟩ | ⟨a,C,rfl,ha,k,j,e⟩ | ⟨a,C,tp,cs,rfl,ha,k,rfl,Z,j,e⟩
 ·rw [D.cls j];exact ZD I B ty e fin
 ·rw [D.cls j];cases (show u=Value.ref a from B);obtain ⟨p,_⟩:=I.hok a _ ha;exact Ycp (Yb k) I.kIn p e (λz=>nomatch z) fin
 ·cases (show u=Value.ref a from B);cases (show Y=Value.ref tp from D);obtain ⟨p,_⟩:=I.hok a _ ha;obtain ⟨_,its,r,o,eo,co,n,dn⟩:=I.hok tp _ Z;obtain ⟨L,aa,O,ab⟩:=o;cases (show L=.type "tuple" from co);cases (show O=.seq its.toArray n from dn);exact W.kia_tup (its:=its) (Yb k) I.kIn p eo (by rw [r.cls j];exact e) (λz=>nomatch z) fin
mutual
inductive DatV (K:W.Frag)(H:Hp):V->PyData->Prop
 | non:DatV K H .non .none
 | bl (b:Bool):DatV K H (.bl b) (.bool b)
 | int (i:Int):DatV K H (.int i) (.int i)
 | str (x:Str):DatV K H (.str x) (.str x)
 | lst {a:Addr} {xs:List V} {ds:List PyData}:SqL K H a xs->DatVs K H xs ds->DatV K H (.ref a) (.list ds)
 | tup {a:Addr} {xs:List V} {ds:List PyData}:SqT K H a xs->DatVs K H xs ds->DatV K H (.ref a) (.tuple ds)
inductive DatVs (K:W.Frag)(H:Hp):List V->List PyData->Prop
 | nil:DatVs K H [] []
 | cons {x:V} {d:PyData} {xs:List V} {ds:List PyData}:DatV K H x d->DatVs K H xs ds->DatVs K H (x::xs) (d::ds)
end
section
variable {X:Cx}{qQ:List (Addr×Obj)}{σ:St}{H:Hp}{s:Shared}
mutual
theorem DatV.reads (I:Inv X qQ σ H s):∀{x:V}{d:PyData}{u:Value},DatV X.K H x d->RelV x u->∃j,Reads s.heap u d j
 | _,_,_,.non,r=>by cases r;exact ⟨_,.none⟩
 | _,_,_,.bl b,r=>by cases r;exact ⟨_,.bool b⟩
 | _,_,_,.int i,r=>by obtain ⟨t,rfl⟩:=r;exact ⟨_,.int i t⟩
 | _,_,_,.str x,r=>by obtain ⟨t,rfl⟩:=r;exact ⟨_,.str x t⟩
 | _,_,_,.lst hq hs,r=>by
  cases r;obtain ⟨its,B,⟨o,n,e,c,O,D⟩,_⟩:=I.list hq;obtain ⟨j,L⟩:=DatVs.reads I hs B;exact ⟨_,.list e c D (by simpa using L)⟩
 | _,_,_,.tup hq hs,r=>by
  cases r;obtain ⟨its,B,⟨o,e,c,n,D⟩,_⟩:=I.tuple hq;obtain ⟨j,L⟩:=DatVs.reads I hs B;exact ⟨_,.tuple e c D (by simpa using L)⟩
theorem DatVs.reads (I:Inv X qQ σ H s):∀{xs:List V}{ds:List PyData}{us:List Value},DatVs X.K H xs ds->Vals xs us->∃j,ReadsAll s.heap us ds j
 | _,_,_,.nil,.nil=>⟨_,.nil⟩
 | _,_,_,.cons h hs,.cons r rs=>by
  obtain ⟨j,ra⟩:=DatV.reads I h r;obtain ⟨bs,B⟩:=DatVs.reads I hs rs;exact ⟨_,.cons ra B⟩
end
end
noncomputable def Zgp (K:W.Frag)(j:Bool):R2:=λx y H Q=>∃B D,DatV K H x B/\DatV K H y D/\SeqAt.shaped B=true/\SeqAt.shaped D=true/\Q (.bl (j != PyData.eqv B D)) H
theorem ZeG {X:Cx}(j:X.A.units+64<cLine):OpR X (compareOp .Eq) (Zgp X.K false):=by
 intro qQ s σ H x y v u Q I B D h;obtain ⟨L,O,h1,h2,U,Y,q⟩:=h;obtain ⟨as,Z⟩:=h1.reads I B;obtain ⟨bs,r2⟩:=h2.reads I D;exact eq_dataH Z r2 U Y j ⟨.bl _,H,I,by cases PyData.eqv L O <;> rfl,q⟩
theorem ZeH {X:Cx}(j:X.A.units+64<cLine):OpR X (compareOp .NotEq) (Zgp X.K true):=by
 intro qQ s σ H x y v u Q I B D h;obtain ⟨L,O,h1,h2,U,Y,q⟩:=h;obtain ⟨as,Z⟩:=h1.reads I B;obtain ⟨bs,r2⟩:=h2.reads I D;exact ne_dataH Z r2 U Y j ⟨.bl _,H,I,by cases PyData.eqv L O <;> rfl,q⟩
noncomputable def Lt2 (p:Nat)(a:Int):Prop:=a.natAbs<2 ^ p
theorem Lt2.mono {a:Int}{p q:Nat}(h:Lt2 p a)(j:p<=q):Lt2 q a:=Yax h (Nat.pow_le_pow_right (by decide) j)
noncomputable def Zg5 (i j:Int):Prop:=0<j/\Lt2 9000 j
theorem Yc {X:Cx}:OpR X (binaryOp .FloorDiv) (rI Zg5 λi j=>.int (i / j)):=opI λi j _ _ _ _ _ B q=>by
 have h1:(0:Int)<j:=B.1;have h2:j.natAbs<2 ^ 9000:=B.2;refine floordiv_int (by lia) (by rw [Int.fdiv_eq_ediv_of_nonneg i (by lia)];exact q) (.inl (PyProof.noPylong_of_log2 ?_));exact (Nat.log2_lt (by lia)).mpr h2
theorem Same.new {H:Hp}{p:Addr}{o:HO}(h:H p=none):Same H (upd H p o):=λb u e=>by rw [Go (Gf e h)];exact e
theorem nwU {H:Hp}{p:Addr}{o:HO}(h:H p=none):∃H1,upd H p o=H1/\Same H H1/\H1 p=some o:=⟨_,rfl,Same.new h,Gb⟩
theorem Same.put {H H1:Hp}{p:Addr}{o:HO}(s:Same H H1)(h:H p=none):Same H (upd H1 p o):=λb u e=>by rw [Go (Gf e h)];exact s b u e
theorem Gj {H:Hp}{p b:Addr}{o u:HO}(h:H b=some u)(n:b≠p):upd H p o b=some u:=by rw [Go n];exact h
theorem Jx {H:Hp}{l:Addr}{zs:List V}{o:HO}(h:H l=some (.lst zs)):∀p ys,H p=some (.tup ys)->upd H l o p=some (.tup ys):=λp ys e=>Gj e (GZ e h (λz=>by cases z))
section
variable {P:Program}{w:World}{K:W.Frag}{mg:Str->Option Value}{base:Heap}
theorem Fun.okR {x qual:Str}{st:Stmt}{f:Addr}{fd:FuncData}{N ps:List Str}{k:Nat}{sp:Sp}(F:Fun K x qual st f fd)(S:Gu N ps (Gg st))(len:∀vs H Q E,sp vs H Q E->vs.length=ps.length)(L:∀(j:Value)(A:Around)(outer:List Env)(s:Shared)(H:Hp)(vs:List V)(Q:VK)(E:XK),Room k (A.deeper (envOfC qual (Gg st) s.heap.objs.size f j))->sp vs H Q E ->
   ∃t,PSs (YM (CXr P w) P w K mg base N qual (Gg st) f j A outer s H E) (Gx st) t/\t { nx:=λ_ H'=>Q .non H',rt:=Q } (start N vs) H):FnOk P w K mg base (CXr P w) (k+1) f fd ps sp:=by
 obtain ⟨oc,od,kV,O,pm,an,j,ct,U,rfl,Y,B⟩:=F.ex;refine ZI Y B S len λA outer s H vs Q E Z D=>?_;obtain ⟨t,h,q⟩:=L j A outer s H vs Q E Z D;exact ⟨t,h,q⟩
end
section
variable {X:Cx}
theorem UH {x:Str}{T:String}{pos:Pos}(j:X.mg x=none)(B:bootBuiltins x=some (.type T))(D:Gl X x:=by rfl)(L:x ≠ "__name__" := by decide)(O:(x == ("__debug__" : Str))=false:=by decide):PE X (.Name x pos) (tC (.ty T)):=ZcY D j B rfl L O
end
theorem JX:bootBuiltins "isinstance" = some (.builtin "isinstance"):=by first | rfl | decide +kernel
theorem Jg:bootBuiltins "tuple" = some (.type "tuple"):=by first | rfl | decide +kernel
theorem JG:bootBuiltins "list" = some (.type "list"):=by first | rfl | decide +kernel
theorem ZT:bootBuiltins "bool" = some (.type "bool"):=by first | rfl | decide +kernel
theorem VC:bootBuiltins "int" = some (.type "int"):=by first | rfl | decide +kernel
theorem Ol {K:W.Frag}{t:Value}:W.kitOne K t t=some true:=by
 unfold W.kitOne;rw [if_pos (beq_self_eq_true t)]
section
variable {X:Cx}(K:W.Frag)
theorem Zdf (h:X.K=K:=by rfl):J6 X (.builtin "isinstance") (ZhQ K):=h▸Zbv
theorem Oz (h:X.K=K:=by rfl):IxR X (ZhK K):=h▸Zc9
theorem Xr (h:X.K=K:=by rfl):IxR X (ZhL K):=h▸Zez
theorem kIn (h:X.K=K:=by rfl):OpR X (compareOp .In) (rIn K false):=h▸ZM
theorem ZcF (h:X.K=K:=by rfl):OpR X (compareOp .NotIn) (rIn K true):=h▸WI
theorem YU (h:X.K=K:=by rfl):J6 X (.builtin "len") (λxs H Q=>∃p ys,xs=[.ref p]/\(SqL K H p ys\/SqT K H p ys)/\Q (.int ys.length) H):=h▸WJ
theorem O4 (h:X.K=K:=by rfl):J6 X (.type "list") (λxs H Q=>∃p ys,xs=[.ref p]/\(SqL K H p ys\/SqT K H p ys)/\∀l,H l=none->Q (.ref l) (upd H l (.lst ys))):=h▸WK
theorem Zbw (j:X.A.units+64<cLine)(h:X.K=K:=by rfl):OpR X (compareOp .Eq) (Zgp K false):=h▸ZeG j
theorem ZcG (j:X.A.units+64<cLine)(h:X.K=K:=by rfl):OpR X (compareOp .NotEq) (Zgp K true):=h▸ZeH j
theorem kSl (h:X.K=K:=by rfl):SlR X (ZhM K):=h▸Zda
theorem ZeI {es:List Expr}{k:Nat}{t:TGs}{n:Nat}{pos:Pos}(B:X.calm=true)(h:PGs X es t)(D:X.K=K:=by rfl)(L:(assignEach es X.env).length=n:=by rfl)(j:(assignEach es X.env).findIdx? (·.1)=none:=by rfl):PG X (.Tuple es k pos) (ZhF K n t):=D▸Zen B h L j
theorem Jv {tg l:Expr}{tl:TE}(j:PE X l tl)(h:X.K=K:=by rfl):PI X tg l (Zep K tl):=h▸Zc0 j
end
end L2
namespace L2
open PySem PySem.Spec PyProof.Rows
noncomputable def AllP {α:Type}(P:α->Prop):List α->Prop
 | []=>True
 | x::r=>P x/\AllP P r
theorem AllP.mem {α:Type}{P:α->Prop}:∀{l:List α},AllP P l->∀x∈l,P x
 | _::_,h,_,.head _=>h.1
 | _::_,h,x,.tail _ m=>AllP.mem h.2 x m
theorem Gm {X:Cx}{scope:Scope}{cl:List (Str×Addr)}{own:List Str}{fr:List (Str×Nat)}(L:List (Str×NameKind))(j:closureFor scope X.env=pure cl)(O:(relabel scope X.env).names=L)(Y:∀y∈scope.names,y.2≠.cell)(Z:scope.kind=.function)(hn:∀y∈scope.names,y.2=.local->scope.names.lookup y.1=some .local)(B:AllP (λp=>X.env.cells.lookup p.1=some p.2) cl)(U:AllP (λp=>(p.2=.cell\/p.2=.free)->∃c,cl.lookup p.1=some c) L)(D:AllP (λp=>X.N[p.2]?=some p.1/\(X.env.kindOf p.1=some .cell\/X.env.kindOf p.1=some .free)/\(L.lookup p.1=some .cell\/L.lookup p.1=some .free)) fr):JQ X scope cl own fr:=
 ⟨j,Y,Z,hn,λy c h=>B.mem (y,c) (Ycd h),λy h=>by
  rw [O] at h;rcases h with h | h
  ·exact U.mem _ (Ycd h) (.inl rfl)
  ·exact U.mem _ (Ycd h) (.inr rfl),λp hp=>by
  rw [O];exact D.mem p hp⟩
theorem GQ {k:NameKind}{P:Prop}(h:k=.cell\/k=.free)(h1:(k == .cell)=false:=by rfl)(h2:(k == .free)=false:=by rfl):P:=by
 rcases h with z | z
 ·subst z;exact absurd h1 (by decide)
 ·subst z;exact absurd h2 (by decide)
theorem Yd:bootBuiltins "min" = some (.builtin "min"):=by first | rfl | decide +kernel
theorem GD {t u:TS}{D:Zi}{σ:St}{H:Hp}(B:St->Hp->Prop)(h2:∀ j H',B j H'->u D j H')(h1:(∀ j H',B j H'->u D j H')->t { D with nx:=u D } σ H):Zgm t u D σ H:=h1 h2
section
variable {X:Cx}
theorem Zdg:UnR X (unaryOp .USub) (rU λi=>.int (-i)):=by
 intro qQ s σ H x v Q I j h;obtain ⟨i,rfl,q⟩:=h;obtain ⟨t,rfl⟩:=j;exact neg_int ⟨.int (-i),H,I.tok _,⟨_,rfl⟩,q⟩
theorem ZeJ {xs:List V}{k:Nat}:YQ xs none (some (k:Int))=xs.take k:=by
 unfold YQ;rw [HT.sIx_none,HT.sIx_nat,List.drop_zero,Nat.sub_zero];by_cases h:k<=xs.length
 ·rw [Ydr h]
 ·rw [Nat.min_eq_right (by lia),Ybk,Yek (by lia)]
theorem GV {K:W.Frag}{H:Hp}:∀ns:List Int,DatVs K H (ns.map V.int) (ns.map PyData.int)
 | []=>.nil
 | n::ns=>.cons (.int n) (GV ns)
theorem Om:∀ns:List Int,PyData.canLayAll0 (ns.map PyData.int)=true
 | []=>by simp [PyData.canLayAll0]
 | n::ns=>by
  rw [Yaq];simp [PyData.canLayAll0,PyData.canLay0,Om ns]
theorem Jo:∀ns:List Int,PyData.depthAll (ns.map PyData.int)<=1
 | []=>by simp [PyData.depthAll]
 | n::ns=>by
  have ih:=Jo ns;rw [Yaq];simp only [PyData.depthAll,PyData.depth]
  lia
theorem Ja (ns:List Int):SeqAt.shaped (.list (ns.map PyData.int))=true:=by
 unfold SeqAt.shaped;rw [Yby];have:=Jo ns;refine ⟨by simp only [PyData.canLay0];exact Om ns,Ybh ?_⟩;simp only [PyData.depth]
 lia
theorem JY (ns ms:List Int):PyData.eqv (.list (ns.map PyData.int)) (.list (ms.map PyData.int))=decide (ns=ms):=by
 rw [<-W.ked_eqvAll];simp only [PyData.eqv]
theorem ZeK {P:Program}{w:World}{K:W.Frag}{mg:Str->Option Value}{base:Heap}{N:List Str}{qual:Str}{scope:Scope}{f:Addr}{cd:Value}{A:Around}{outer:List Env}{s:Shared}{H:Hp}{E:XK} :
  Uf (CXr P w) (YM (CXr P w) P w K mg base N qual scope f cd A outer s H E) E:=by
 intro qQ σ H1 s1 ev s' I h;obtain ⟨a,C,H',rfl,⟨t,B,os,U,un,Y,fl,trk,old⟩,hE⟩:=h;have ab:=I.ok.frames;have nox:∀b:Addr,b ∉ (YM (CXr P w) P w K mg base N qual scope f cd A outer s H E).ex:=λb z=>absurd (show b∈([]:List Addr) from z) (by simp);refine wpAny_leaves_onW ab rfl fl λh2 D sm=>?_;obtain ⟨u2,k2⟩:=Zbt (t:=t) (a:=a) (C:=C) un Y fl.2.2.1 trk old D.1 sm;have u1:Un (frs (envOfC qual scope s.heap.objs.size f cd::outer)) [] H H1 s.heap s1.heap:=Un.mono I.base (λb j=>by
  have ac:b∈frs outer:=j;obtain ⟨L,he,q⟩:=Ydj.mp ac;exact Ydj.mpr ⟨L,Ybc _ he,q⟩) (λb j=>absurd j (nox b))
 have O:=u1.trans u2;have Z:∀b o,s.heap.get? b=some o->b ∉ frs outer->b ∉ frs (envOfC qual scope s.heap.objs.size f cd::outer):=λb o e j z=>by
  rcases Yaz.mp (I.stkSub b z) with q | q
  ·exact absurd (Yax (Yal e) I.ok.above) (by rw [q];exact Yce _)
  ·exact j q
 have aa:∀b,b∈frs outer->b∈frs (envOfC qual scope s.heap.objs.size f cd::outer):=λb j=>by
  obtain ⟨L,he,q⟩:=Ydj.mp j;exact Ydj.mpr ⟨L,Ybc _ he,q⟩
 refine ⟨a,C,H',rfl,⟨t,B,os.trans I.os,U,⟨λb o e n j hx=>O.keep b o e n (Z b o e j) hx,λb o e n j hx=>O.slot b o e n (aa b j) hx,O.free,O.there,O.tups,O.frzs,O.tbls⟩,k2,D,λb o e n=>?_,λb o0 o e0 e nb=>?_⟩,hE⟩
 ·cases q':H' b with
  | none=>exact absurd q' n
  | some u=>
   obtain ⟨v,q⟩:=(Y b u q').there;have e1:=trk b v q n;have e2:=D.1 b v e1;have e':h2.get? b=some o:=e;rw [e'] at e2;cases e2;exact e1
 ·obtain ⟨o1,e1⟩:=u1.there b o0 e0 (by simp);obtain ⟨o2,e2⟩:=un.there b o1 e1 (by simp);have e3:=old b o1 o2 e1 e2 (Z b o0 e0 nb);have e4:=D.1 b o2 e3;have e':h2.get? b=some o:=e;rw [e'] at e4;cases e4;exact e3
noncomputable def Ite (K:W.Frag)(a:Addr):It:=
 ⟨λi H=>∃xs x,SqL K H a xs/\xs[i]?=some x,λi H x H'=>∃T y,x=.ref T/\H T=none/\H'=upd H T (.tup [.int (i:Nat),y])/\∀xs,SqL K H a xs->xs[i]?=some y,λi H=>∃xs,SqL K H a xs/\xs.length<=i⟩
theorem ZU {P:Program}{w:World}{K:W.Frag}{elts:List Expr}{k:Nat}{pos:Pos}(a e it:Addr)(hne:e≠it) :
  Zd8 P w K (.Tuple elts k pos) (Ite K a) [e,it] e (λi h=>(∃old,IsEnum h e it ((i:Nat):Int) old)/\h.IsListIter it a i) where
 mem:=by simp
 obj:=λi h st b hb=>by
  obtain ⟨⟨old,he⟩,⟨o,ei,c,d⟩⟩:=st;rcases Yaz.mp hb with rfl | hb
  ·exact ⟨_,he,λv z=>by
    have z':Data.fields _=Data.cell v:=z;cases z'⟩
  ·have eb:b=it:=by simpa using hb
   subst eb;exact ⟨o,ei,λv z=>by rw [d] at z;cases z⟩
 keep:=λi h h' st q=>by
  obtain ⟨⟨old,he⟩,hi⟩:=st;exact ⟨⟨old,q e (by simp) _ he⟩,hi.at λo ho=>q it (by simp) o ho⟩
 item:=by
  intro X hP hw hK hc i qQ s σ H E I hf st hg;subst hP hw hK;obtain ⟨xs,x,hq,hx⟩:=hg;obtain ⟨its,rv,p,hz⟩:=I.list hq;obtain ⟨u,hu,ru⟩:=rv.get hx;obtain ⟨⟨old,he⟩,hit⟩:=st;refine wpAny_pyNext_enum_item he hit p.isList (x:=u) (by simpa using hu) hne λh1 heo hit1 ht1 hz1 hk1=>?_;refine ⟨_,rfl,wpAny_letOwnedTupleGo_enum (s:={ s with heap:=h1,toks:=s.toks+1 }) heo λh2 he2 hs2=>?_⟩;have hs2':Heap.SameBut e h1 h2:=hs2;have hfr:H s.heap.objs.size=none:=I.fresh;have hel:e<s.heap.objs.size:=Yal he;have kk:∀b o,b ∉ [e,it]->s.heap.get? b=some o->h2.get? b=some o:=λb o hb q=>by
   have n1:b≠e:=λz=>hb (by simp [z]);have n2:b≠it:=λz=>hb (by simp [z]);exact (hs2'.2 b n1).trans (hk1 b o n1 n2 q)
  have nT:∀b o,s.heap.get? b=some o->b≠s.heap.objs.size:=λb o q=>Yay (Yal q);have trk:∀c u,H c=some u->c ∉ [e,it]:=λc u q z=>by
   rw [(hf c z).1] at q;cases q
  refine ⟨.ref s.heap.objs.size,upd H s.heap.objs.size (.tup [.int (i:Nat),x]),I.call' (ch:=[e,it]) rfl ⟨λb o q _ _ hb=>kk b o hb q,λb o q _ _ hb=>⟨o.slots,kk b o hb q⟩,λb o q n _=>by rw [Go (nT b o q)];exact n,
   λb o q hb=>⟨o,kk b o hb q⟩,λb ys q=>by rw [Go (Gf q hfr)];exact q,λb o u q=>by rw [Go (Gf q hfr)];exact q,λb ps q=>⟨#[],by rw [Go (Gf q hfr),q];simp⟩⟩ (λb v q=>?_) I.bare (λb hb=>?_),
   rfl,⟨_,x,rfl,hfr,rfl,λys hy=>by rw [I.list_inj hy hq];exact hx⟩,⟨⟨_,by rw [Int.natCast_add];exact he2⟩,hit1.extBut hs2'.extBut (Ne.symm hne)⟩,λb hb=>?_⟩
  ·by_cases hb:b=s.heap.objs.size
   ·subst hb;rw [Gb] at q;cases q;refine ⟨by have h16:=Ybe.symm;rw [<-h16];show 2<=16777216;lia,[.int (i:Nat) s.toks,u],.cons ⟨_,rfl⟩ (.cons ru .nil),⟨_,(hs2'.2 _ (Nat.ne_of_gt hel)).trans ht1,rfl,_,rfl⟩⟩
   ·rw [Go hb] at q;refine (I.hok b v q).stay (λc v' hc z=>kk c v' ?_ z) (λc z=>by rw [Go (Gf z hfr)];exact z) λc ys z=>by rw [Go (Gf z hfr)];exact z
    rcases hc with rfl | hc
    ·exact trk _ _ q
    ·exact trk _ _ hc
  ·obtain ⟨f0,f1,f2,f3,f4,f5⟩:=hf b hb;exact ⟨f3,f1,f4,f5⟩
  ·have ho:∃o,s.heap.get? b=some o:=by
    rcases Yaz.mp hb with rfl | hb
    ·exact ⟨_,he⟩
    ·have eb:b=it:=by simpa using hb
     subst eb;obtain ⟨o,ei,_⟩:=hit;exact ⟨o,ei⟩
   obtain ⟨o,ho⟩:=ho;rw [Go (nT b o ho)];exact (hf b hb).1
 done:=by
  intro X hP hw hK hc i qQ s σ H E I hf st hg;subst hP hw hK;obtain ⟨xs,hq,hx⟩:=hg;obtain ⟨its,rv,p,hz⟩:=I.list hq;obtain ⟨⟨old,he⟩,hit⟩:=st;obtain ⟨f0,f1,f2,f3,f4,f5⟩:=hf it (by simp);have hl:=rv.length;exact wpAny_pyNext_enum_end (I.ok.hd hc) he hit p.isList (by simp;lia) λh' eb=>⟨rfl,I.turned (t':=s.toks) (λb o hb q=>eb b o hb q) f0 f1 f3 f4 f5⟩
 self:=λ_ _ _ _ _ ⟨⟨_,he⟩,_⟩ h=>wpAny_pyIter_enum he h
noncomputable def ZeL (K:W.Frag)(ta:TA):TI:=λσ H R=>ta σ H λvs H1=>∃a xs,vs=[.ref a]/\SqL K H1 a xs/\R (Ite K a) H1
theorem Zdh {B:List Expr}{k:Nat}{U:Pos}{l:Expr}{ta:TA}{p pos:Pos}(Y:Gl X "enumerate")(Z:X.mg "enumerate" = none)(ha:PA X [l] ta)(hs:starEach [l] X.env=[(false,eval l X.env)]:=by rfl) :
  PI X (.Tuple B k U) (.Call (.Name "enumerate" p) [l] [] pos) (ZeL X.K ta):=by
 intro qQ s σ H R I h;refine Call_ (U6 I Y Z boot_enumerate (PyProof.Rows.callWith_type1 (thG (ha pos qQ s σ H _ I h) λus j vs H1 D r1 q1=>?_) hs rfl));obtain ⟨a,xs,e,hq,q⟩:=q1;subst e;obtain ⟨u,rfl,ru⟩:=r1.one;cases ru;obtain ⟨its,rv,pl,hz⟩:=D.list hq;refine call_enumerate_list pl.isList λh' O hI aa hk=>?_;refine wpAny_pyIter_enum O ?_;refine ⟨j.heap.objs.size+1,[j.heap.objs.size+1,j.heap.objs.size],_,_,H1,rfl,D.kept (t':=j.toks) hk,ZU a _ _ (Nat.succ_ne_self _),⟨⟨_,O⟩,hI⟩,λb L=>?_,q⟩;have e:j.heap.objs.size<=b:=by
  rcases Yaz.mp L with rfl | L
  ·exact Ydd _
  ·have eb:b=j.heap.objs.size:=by simpa using L
   rw [eb];exact Yad _
 exact D.fpOk e (D.hok.fresh e)
theorem Zg6 (K:W.Frag){j:List Expr}{k:Nat}{B:Pos}{l:Expr}{ta:TA}{p pos:Pos}(D:Gl X "enumerate")(L:X.mg "enumerate" = none)(ha:PA X [l] ta)(h:X.K=K:=by rfl)(O:starEach [l] X.env=[(false,eval l X.env)]:=by rfl) :
  PI X (.Tuple j k B) (.Call (.Name "enumerate" p) [l] [] pos) (ZeL K ta):=h▸Zdh D L ha O
end
section
variable {X:Cx}{a b c d:Expr}{ta tb tc td:TE}{pos:Pos}
theorem Zbx:bootBuiltins "set" = some (.type "set"):=by first | rfl | decide +kernel
theorem Zg7 (K:W.Frag)(D:X.calm=true)(h:X.K=K:=by rfl):J6 X (.type "set") (λxs H Q=>∃(p:Addr)(ns:List Int),xs=[.ref p]/\SqL K H p (ns.map V.int)/\ns.length<1000 /\
  ∀l,H l=none->Q (.ref l) (upd H l (.set (λL=>(firstMet (λi=>ns.getD i 0) ns.length).any (· == L)) (firstMet (λi=>ns.getD i 0) ns.length).length))):=by
 subst h;intro qQ s σ H xs us Q I O h;obtain ⟨p,ns,rfl,U,Y,q⟩:=h;obtain ⟨u,rfl,Z⟩:=O.one;cases Z;obtain ⟨its,r,pl,hz⟩:=I.list U;have j:=r.length;rw [Yab] at j;refine call_set_list (I.ok.hd D) pl.isList (by simpa using O2 r) (by rw [Yar,<-j];exact Yax (Nat.succ_lt_succ Y) (by decide)) λh' tk B hk=>?_;have es:its.toArray.size=ns.length:=by rw [Yar];exact j.symm
 rw [es] at B;exact ⟨.ref _,_,I.laid (o:=.set _ _) (λb o e=>hk b o (Yal e) e) (Yad _) B,rfl,q _ I.fresh⟩
theorem Zdi:J6 X (.builtin "len") (λxs H Q=>∃p S n,xs=[.ref p]/\H p=some (.set S n)/\n<2 ^ 60/\Q (.int (n:Nat)) H):=by
 intro qQ s σ H xs us Q I j h;obtain ⟨p,S,n,rfl,B,Z,q⟩:=h;obtain ⟨u,rfl,D⟩:=j.one;cases D;obtain ⟨o,es,ep,t,L,O,U,e4,e5,e6,Y,rfl⟩:=I.hok p _ B;refine call_len_set L O U Y (by lia) ?_;exact ⟨.int _,H,I.tok _,⟨_,rfl⟩,q⟩
end
section
variable {κ:Type}[DecidableEq κ]
noncomputable def J8 (kvs:List (κ×V))(k:κ):Option V:=(kvs.find? λj=>decide (j.1=k)).map (·.2)
noncomputable def JT (kvs:List (κ×V))(k:κ)(v:V):List (κ×V):=
 if (kvs.any λj=>decide (j.1=k))=true then kvs.map (λj=>if j.1=k then (j.1,v) else j) else kvs++[(k,v)]
theorem Jj {p:κ×V}{r:List (κ×V)}{k:κ}(e:p.1=k):J8 (p::r) k=some p.2:=by simp [J8,Ycf,e]
theorem Jk {p:κ×V}{r:List (κ×V)}{k:κ}(e:¬ p.1=k):J8 (p::r) k=J8 r k:=by simp [J8,Ycf,e]
theorem Ur (k:κ):∀kvs:List (κ×V),(kvs.any λkv=>decide (kv.1=k))=(J8 kvs k).isSome
 | []=>rfl
 | p::r=>by
  rw [List.any_cons];by_cases e:p.1=k
  ·simp only [Jj e,Ybh e,Bool.true_or,Option.isSome_some]
  ·rw [Jk e,Ybv e,Bool.false_or];exact Ur k r
theorem Ye (k j:κ)(y:V):∀kvs:List (κ×V),J8 (kvs.map λB=>if B.1=k then (B.1,y) else B) j=(J8 kvs j).map λx=>if j=k then y else x
 | []=>rfl
 | p::r=>by
  have ih:=Ye k j y r;rw [Yaq];by_cases h:p.1=k
  ·rw [if_pos h];by_cases e:p.1=j
   ·rw [Jj (p:=(p.1,y)) e,Jj e,Option.map_some,if_pos (e.symm.trans h)]
   ·rw [Jk (p:=(p.1,y)) e,Jk e,ih]
  ·rw [if_neg h];by_cases e:p.1=j
   ·rw [Jj (p:=p) e,Jj e,Option.map_some,if_neg (λz=>h (e.trans z))]
   ·rw [Jk (p:=p) e,Jk e,ih]
theorem WR (k j:κ)(y:V):∀kvs:List (κ×V),J8 kvs k=none->J8 (kvs++[(k,y)]) j=if j=k then some y else J8 kvs j
 | [],_=>by
  by_cases e:k=j
  ·rw [if_pos e.symm];exact Jj (p:=(k,y)) e
  ·rw [if_neg (λz=>e z.symm)];exact Jk (p:=(k,y)) e
 | p::r,hn=>by
  rw [List.cons_append];have hk:¬ p.1=k:=λz=>by rw [Jj z] at hn;cases hn
  rw [Jk hk] at hn;have B:=WR k j y r hn;by_cases e:p.1=j
  ·rw [Jj e,Jj e,if_neg (λz=>hk (e.trans z))]
  ·rw [Jk e,Jk e,B]
theorem Jy (kvs:List (κ×V))(k j:κ)(y:V):J8 (JT kvs k y) j=if j=k then some y else J8 kvs j:=by
 unfold JT;by_cases a:(kvs.any λB=>decide (B.1=k))=true
 ·rw [if_pos a,Ye];rw [Ur] at a;by_cases e:j=k
  ·obtain ⟨x,D⟩:=Option.isSome_iff_exists.mp a;rw [if_pos e,e,D,Option.map_some,if_pos rfl]
  ·rw [if_neg e];cases J8 kvs j with
   | none=>rfl
   | some x=>rw [Option.map_some,if_neg e]
 ·rw [if_neg a];refine WR k j y kvs ?_;rw [Ur] at a;cases q:J8 kvs k with
  | none=>rfl
  | some x=>rw [q] at a;exact (a rfl).elim
theorem Jp (kvs:List (κ×V))(k:κ)(v:V):(JT kvs k v).length<=kvs.length+1:=by
 unfold JT;split
 ·rw [Yab];lia
 ·rw [Yag,Ybm,List.length_nil];lia
theorem RelO.isSome_eq {o:Option V}{u:Option Value}(r:RelO o u):o.isSome=u.isSome:=by
 cases o with
 | none=>cases u with
  | none=>rfl
  | some _=>exact (show False from r).elim
 | some _=>cases u with
  | none=>exact (show False from r).elim
  | some _=>rfl
theorem RelO.getD {o:Option V}{u:Option Value}{d:V}{d':Value}(r:RelO o u)(j:RelV d d'):RelV (o.getD d) (u.getD d'):=by
 cases o with
 | none=>cases u with
  | none=>exact j
  | some _=>exact (show False from r).elim
 | some _=>cases u with
  | none=>exact (show False from r).elim
  | some _=>exact r
theorem KV.val {kvs:List (κ×V)}{vs:List (κ×Value)}(r:KV kvs vs)(k:κ):RelO (J8 kvs k) (valueAt vs k):=by
 unfold KV at r
 induction r with
 | nil=>exact True.intro
 | @cons p q ps j h t D=>
  obtain ⟨h1,h2⟩:=h;by_cases e:p.1=k
  ·have B:q.1=k:=h1.symm.trans e;have b:valueAt (q::j) k=some q.2:=by simp [valueAt,Ycf,B]
   rw [Jj e,b];exact h2
  ·have B:¬ q.1=k:=λz=>e (h1.trans z);have b:valueAt (q::j) k=valueAt j k:=by simp [valueAt,Ycf,B]
   rw [Jk e,b];exact D
theorem KV.any {kvs:List (κ×V)}{vs:List (κ×Value)}(r:KV kvs vs)(k:κ):(kvs.any λj=>decide (j.1=k))=vs.any λj=>decide (j.1=k):=by
 unfold KV at r
 induction r with
 | nil=>rfl
 | cons h t ih=>rw [List.any_cons,List.any_cons,ih,h.1]
theorem KV.repl {kvs:List (κ×V)}{vs:List (κ×Value)}(r:KV kvs vs)(k:κ){y:V}{u:Value}(B:RelV y u) :
  KV (kvs.map λj=>if j.1=k then (j.1,y) else j) (vs.map λj=>if j.1=k then (j.1,u) else j):=by
 unfold KV at r ⊢
 induction r with
 | nil=>exact .nil
 | @cons p q ps qs h t ih=>
  rw [Yaq,Yaq];refine .cons ?_ ih;obtain ⟨h1,h2⟩:=h;by_cases e:p.1=k
  ·rw [if_pos e,if_pos (h1.symm.trans e)];exact ⟨h1,B⟩
  ·rw [if_neg e,if_neg (λz=>e (h1.trans z))];exact ⟨h1,h2⟩
theorem KV.put {kvs:List (κ×V)}{vs:List (κ×Value)}(r:KV kvs vs)(k:κ){y:V}{u:Value}(j:RelV y u):KV (JT kvs k y) (stored vs k u):=by
 unfold JT stored;rw [r.any k];by_cases e:(vs.any λB=>decide (B.1=k))=true
 ·rw [if_pos e,if_pos e];exact r.repl k j
 ·rw [if_neg e,if_neg e];exact Paired.snoc r ⟨rfl,j⟩
theorem KV.length {kvs:List (κ×V)}{vs:List (κ×Value)}(r:KV kvs vs):kvs.length=vs.length:=Ydi r
end
theorem ZV {P:Program}{w:World}{k:Key}{u:Value}(r:RelV (kV k) u):(Jd P w).is k u=true:=by
 cases k with
 | inl i=>obtain ⟨t,e⟩:=(show ∃t,u=Value.int i t from r);subst e;exact Xm P w i t
 | inr x=>obtain ⟨t,e⟩:=(show ∃t,u=Value.str x t from r);subst e;exact Xn P w x t
theorem WS {P:Program}{w:World}:∀{ks:List Key}{us:List Value},Vals (ks.map kV) us->ItemsAre (Jd P w) ks us
 | [],_,r=>by rw [List.map_nil] at r;cases r;exact .nil
 | k::ks,_,r=>by
  rw [Yaq] at r;cases r with
  | cons h t=>exact .cons (ZV h) (WS t)
noncomputable abbrev KT (H:Hp):List (List Key×V)->List (List Key×Addr×Value)->Prop:=Paired λp q=>p.1=q.1/\H q.2.1=some (.tup (p.1.map kV))/\RelV p.2 q.2.2
theorem KT.val {H:Hp}{kvs:List (List Key×V)}{xs:List (List Key×Addr×Value)}(r:KT H kvs xs)(k:List Key):RelO (J8 kvs k) ((atKey xs k).map (·.2)):=by
 induction r with
 | nil=>exact True.intro
 | @cons p q ps j h t D=>
  obtain ⟨h1,_,h2⟩:=h;by_cases e:p.1=k
  ·have B:q.1=k:=h1.symm.trans e;have b:atKey (q::j) k=some q.2:=by simp [atKey,Ycf,B]
   rw [Jj e,b];exact h2
  ·have B:¬ q.1=k:=λz=>e (h1.trans z);have b:atKey (q::j) k=atKey j k:=by simp [atKey,Ycf,B]
   rw [Jk e,b];exact D
theorem KT.repl {H:Hp}{kvs:List (List Key×V)}{xs:List (List Key×Addr×Value)}(r:KT H kvs xs)(k:List Key){y:V}{u:Value}(B:RelV y u) :
  KT H (kvs.map λj=>if j.1=k then (j.1,y) else j) (xs.map (putAt k u)):=by
 induction r with
 | nil=>exact .nil
 | @cons p q ps qs h t ih=>
  rw [Yaq,Yaq];refine .cons ?_ ih;obtain ⟨h1,h2,D⟩:=h;unfold putAt;by_cases e:p.1=k
  ·rw [if_pos e,if_pos (h1.symm.trans e)];exact ⟨h1,h2,B⟩
  ·rw [if_neg e,if_neg (λz=>e (h1.trans z))];exact ⟨h1,h2,D⟩
theorem KT.put {H:Hp}{kvs:List (List Key×V)}{xs:List (List Key×Addr×Value)}(r:KT H kvs xs)(k:List Key){b:Addr}{y:V}{u:Value}(B:H b=some (.tup (k.map kV)))(j:RelV y u) :
  KT H (JT kvs k y) (storedH xs k b u):=by
 have e:(kvs.any λD=>decide (D.1=k))=(atKey xs k).isSome:=by
  rw [Ur,(r.val k).isSome_eq,Option.isSome_map]
 unfold JT storedH;rw [e];by_cases q:(atKey xs k).isSome=true
 ·rw [if_pos q,if_pos q];exact r.repl k j
 ·rw [if_neg q,if_neg q];exact Paired.snoc r ⟨rfl,B,j⟩
theorem KT.keeps {H H':Hp}{kvs:List (List Key×V)}{xs:List (List Key×Addr×Value)}(r:KT H kvs xs)(j:∀b ys,H b=some (.tup ys)->H' b=some (.tup ys)):KT H' kvs xs:=
 Paired.mapP r λ_ _ z=>⟨z.1,j _ _ z.2.1,z.2.2⟩
section
variable {P:Program}{w:World}{H:Hp}{h:Heap}{a:Addr}
theorem ZeM {u:HO}(ok:HOk P w H h)(e:Rd H a u):ObjOk P w H h a u:=e.ok ok
theorem Zby {kvs:List (Key×V)}(ok:HOk P w H h)(e:Rd H a (.dK kvs)):kvs.length<=sizeLine/\(a == sysModules)=false/\∃vs,KV kvs vs/\h.DictOf (Jd P w) a vs:=
 show ObjOk P w H h a (.dK kvs) from ZeM ok e
theorem Zdj {kvs:List (Key×V)}(ok:HOk P w H h)(e:H a=some (.dK kvs)):kvs.length<=sizeLine/\(a == sysModules)=false/\∃vs,KV kvs vs/\h.DictOf (Jd P w) a vs:=Zby ok (.inl e)
theorem Yg {ks:List Key}(ok:HOk P w H h)(e:H a=some (.tup (ks.map kV))):(tupleKind (Jd P w)).is h ks a:=by
 obtain ⟨_,its,r,o,h1,h2,n,j⟩:=(show ObjOk P w H h a (.tup (ks.map kV)) from ok a _ e);exact ⟨o,its.toArray,n,h1,h2,j,by simpa using WS r⟩
theorem Zbz {kvs:List (List Key×V)}(ok:HOk P w H h)(e:Rd H a (.dT kvs)):kvs.length<=sizeLine/\(a == sysModules)=false /\
  ∃xs,KT H kvs xs/\h.DictOfH (tupleKind (Jd P w)) a xs:=by
 obtain ⟨z,y,xs,r,o,es,ep,h1,h2,B,D,L⟩:=(show ObjOk P w H h a (.dT kvs) from ZeM ok e);refine ⟨z,y,xs,r,o,es,ep,h1,h2,B,D,λx j=>?_,L⟩;have all:∀{l:List (List Key×V)}{m:List (List Key×Addr×Value)},KT H l m->∀x∈m,(tupleKind (Jd P w)).is h x.1 x.2.1:=by
  intro l m q
  induction q with
  | nil=>intro x j;exact nomatch j
  | @cons p q ps qs hq t ih=>
   intro x j;rcases Yaz.mp j with e | j
   ·subst e;exact Yg ok (by rw [<-hq.1];exact hq.2.1)
   ·exact ih x j
 exact all r x j
theorem Zg8 {kvs:List (List Key×V)}(ok:HOk P w H h)(e:H a=some (.dT kvs)):kvs.length<=sizeLine/\(a == sysModules)=false /\
  ∃xs,KT H kvs xs/\h.DictOfH (tupleKind (Jd P w)) a xs:=Zbz ok (.inl e)
end
noncomputable def DGet (H:Hp)(a:Addr)(y:V)(r:Option V):Prop:=
 (∃kvs k,Rd H a (.dK kvs)/\y=kV k/\r=J8 kvs k)\/∃kvs k b,Rd H a (.dT kvs)/\y=.ref b/\H b=some (.tup (k.map kV))/\r=J8 kvs k
noncomputable def DPut (H:Hp)(a:Addr)(y v:V)(H':Hp):Prop:=
 (∃kvs k,H a=some (.dK kvs)/\y=kV k/\kvs.length<sizeLine/\H'=upd H a (.dK (JT kvs k v))) \/
 ∃kvs k b,H a=some (.dT kvs)/\y=.ref b/\H b=some (.tup (k.map kV))/\kvs.length<sizeLine/\H'=upd H a (.dT (JT kvs k v))
theorem DGet.k {H:Hp}{a:Addr}{kvs:List (Key×V)}{k:Key}(e:H a=some (.dK kvs)):DGet H a (kV k) (J8 kvs k):=.inl ⟨kvs,k,.inl e,rfl,rfl⟩
theorem DGet.t {H:Hp}{a b:Addr}{kvs:List (List Key×V)}{k:List Key}(e:H a=some (.dT kvs))(j:H b=some (.tup (k.map kV))):DGet H a (.ref b) (J8 kvs k):=.inr ⟨kvs,k,b,.inl e,rfl,j,rfl⟩
theorem DPut.k {H:Hp}{a:Addr}{kvs:List (Key×V)}{k:Key}{v:V}(e:H a=some (.dK kvs))(j:kvs.length<sizeLine):DPut H a (kV k) v (upd H a (.dK (JT kvs k v))):=.inl ⟨kvs,k,e,rfl,j,rfl⟩
theorem DPut.t {H:Hp}{a b:Addr}{kvs:List (List Key×V)}{k:List Key}{v:V}(e:H a=some (.dT kvs))(j:H b=some (.tup (k.map kV)))(B:kvs.length<sizeLine) :
  DPut H a (.ref b) v (upd H a (.dT (JT kvs k v))):=.inr ⟨kvs,k,b,e,rfl,j,B,rfl⟩
section
variable {X:Cx}{qQ:List (Addr×Obj)}{σ:St}{H:Hp}{s:Shared}{a:Addr}{y v:V}{u r:Value}{o:Option V}{A:Around}{E:EX}
theorem Inv.big (I:Inv X qQ σ H s):sysModules<s.heap.objs.size:=by
 have h:mainGlobals<s.heap.objs.size:=(I.mod.glob.keeps I.bk).lt;exact Nat.lt_trans (by decide) h
theorem ZW {Q:EX}(hu:A.units+1<cLine)(I:Inv X qQ σ H s)(g:DGet H a y (some v))(Z:RelV y u)(h:∀D s',Inv X qQ σ H s'->RelV v D->Q D s') :
  wpAny (model X.prog X.w) A (getItem (.ref a) u) Q E s:=by
 rcases g with ⟨kvs,k,e,L,l⟩ | ⟨kvs,k,b,e,L,eb,l⟩
 ·subst L;obtain ⟨z,hd,vs,j,O⟩:=Zby I.hok e;obtain ⟨D,U,B⟩:=RelO.some_of (v:=v) (o:=valueAt vs k) (by rw [l];exact j.val k);exact wpAny_getItem_of (ZV Z) O.mapOf U (h D _ (I.tok _) B)
 ·subst L;cases (show u=Value.ref b from Z);obtain ⟨z,hd,xs,j,O⟩:=Zbz I.hok e;obtain ⟨D,U,B⟩:=RelO.some_of (v:=v) (o:=(atKey xs k).map (·.2)) (by rw [l];exact j.val k);obtain ⟨p,hp,Y⟩:=Ybn.mp U;refine wpAny_getItem_heap (tupleKind_room_in1 hu) (Yg I.hok eb) O hp ?_;rw [Y];exact h D _ (I.tok _) B
theorem Zdk {Q:EX}(U:A.units+1<cLine)(I:Inv X qQ σ H s)(g:DGet H a y o)(O:RelV y u)(h:∀s',Inv X qQ σ H s'->Q (.bool (!o.isSome)) s') :
  wpAny (model X.prog X.w) A (compareOp .NotIn u (.ref a)) Q E s:=by
 rcases g with ⟨kvs,k,e,B,l⟩ | ⟨kvs,k,b,e,B,Y,l⟩
 ·subst B;obtain ⟨z,D,vs,j,L⟩:=Zby I.hok e;refine wpAny_notIn_of (ZV O) D L.mapOf ?_;rw [<-(j.val k).isSome_eq,<-l];exact h _ (I.tok _)
 ·subst B;cases (show u=Value.ref b from O);obtain ⟨z,D,xs,j,L⟩:=Zbz I.hok e;refine wpAny_notIn_heap (tupleKind_room_in1 U) (Yg I.hok Y) D L ?_;have q:=(j.val k).isSome_eq;rw [Option.isSome_map] at q;rw [<-q,<-l];exact h _ (I.tok _)
theorem O5 {h':Heap}{t':Nat}{j:HO}(I:Inv X qQ σ H s)(B:Mut (H a))(D:Heap.SameBut a s.heap h')(L:∃q,h'.get? a=some q)(new:ObjOk X.prog X.w (upd H a j) h' a j) :
  Inv X qQ σ (upd H a j) { s with heap:=h',toks:=t' }:=
 I.write (x:=a) (e:=a) B (.inl rfl) (λb q O z=>(D.2 b O).trans z) L new
theorem ZcH {P:Program}{w:World}{H':Hp}{h':Heap}{kvs:List (Key×V)}{vs:List (Key×Value)}(z:kvs.length<=sizeLine)(B:(a == sysModules)=false)(j:KV kvs vs)(dd:h'.DictOf (Jd P w) a vs) :
  ObjOk P w H' h' a (.dK kvs):=⟨z,B,vs,j,dd⟩
theorem ZX {H':Hp}{Q:Unit->Shared->Prop}(hu:A.units+1<cLine)(I:Inv X qQ σ H s)(g:DPut H a y v H')(ry:RelV y u)(rv:RelV v r)(h:∀s',Inv X qQ σ H' s'->Q () s') :
  wpAny (model X.prog X.w) A (setItem (.ref a) u r) Q E s:=by
 rcases g with ⟨kvs,k,e,L,l,O⟩ | ⟨kvs,k,b,e,L,eb,l,O⟩
 ·subst L O;obtain ⟨z,U,vs,j,Y⟩:=Zdj I.hok e;have Z:vs.length<=sizeLine:=by rw [<-j.length];exact z
  have hl:(JT kvs k v).length<=sizeLine:=by have:=Jp kvs k v;lia
  refine wpAny_setItem_pairs (hsz:=Z) (ZV ry) Y λh' B hs=>h _ ?_;have he:∃q,h'.get? a=some q:=let ⟨q,_,_,D,_⟩:=B;⟨q,D⟩;exact O5 I (by rw [e];exact True.intro) hs he (ZcH hl U (j.put k rv) B)
 ·subst L O;cases (show u=Value.ref b from ry);obtain ⟨z,U,xs,j,Y⟩:=Zg8 I.hok e;have Z:xs.length<=sizeLine:=by rw [<-Ydi j];exact z
  have hl:(JT kvs k v).length<=sizeLine:=by have:=Jp kvs k v;lia
  refine wpAny_setItem_heap (hsz:=Z) (tupleKind_room_in1 hu) (Yg I.hok eb) Y λh' B hs=>h _ ?_;obtain ⟨q,es,ep,D,h2,h3,h4,_,h5⟩:=B;refine O5 I (by rw [e];exact True.intro) hs ⟨q,D⟩ ⟨hl,U,_,(j.put k eb rv).keeps λc ys ec=>?_,q,es,ep,D,h2,h3,h4,h5⟩;rw [Go (GZ ec e (λz=>nomatch z))];exact ec
end
noncomputable def Zgq (i:Expr):Prop:=∀j B,subscripted i false j B=operate [j,B] (getItem j B)
theorem ZY {prog:Program}{w:World}{A:Around}{E:EX}{s:Shared}{env:Env}{value j:Expr}{pos:Pos}{T id:String}{Q:EX}(Y:typeLookup (.type T) "__getitem__" = pure (some (.builtin id)))(Z:Zgq j)(h:wpAny (model prog w) A (eval value env) (λo L=>wpAny (model prog w) A (eval j env) (λi B=>B.TypeIs o T/\wpAny (model prog w) A (getItem o i) Q E B) E L) E s) :
  wpAny (model prog w) A (eval (.Subscript value j pos) env) Q E s:=by
 refine Subscript_ (Ybr h (λo L h₁=>Ybr h₁ (λi B D=>?_) λ_ _ x=>x) λ_ _ x=>x);obtain ⟨O,D⟩:=D;unfold subscriptTail;refine Yaa ?_;rw [getitemInPython_of_ne O.not_modules];refine Yaa (wpAny_specialOf O Y ?_);have fin:wpAny (model prog w) A (subscripted j false o i) (λr U=>wpAny (model prog w) A (letTemporaryGo value o r >>= λ_=>pure r) Q E U) E B:=by
  rw [Z o i];exact wpAny_operating (Ybr D (λr U h₃=>Yaa (wpAny_letTemporaryGo (Yaf h₃))) λ_ _ x=>x)
 first
  | exact Yaf (Yaa fin)
  | exact Yaa (Yaf (Yaa fin))
  | exact Yaa fin
theorem Xs {X:Cx}{qQ:List (Addr×Obj)}{σ:St}{H:Hp}{s:Shared}{a:Addr}{y:V}{o:Option V}(I:Inv X qQ σ H s)(g:DGet H a y o):s.TypeIs (.ref a) "dict" := by
 rcases g with ⟨kvs,k,e,_,_⟩ | ⟨kvs,k,b,e,_,_,_⟩
 ·obtain ⟨_,_,vs,_,j⟩:=Zby I.hok e;exact j.typeIs
 ·obtain ⟨_,_,xs,_,j⟩:=Zbz I.hok e;exact j.typeIs
noncomputable def Zg9 (td ty:TE):TE:=λσ H Q=>td σ H λx H1=>ty σ H1 λy H2=>∃a v,x=.ref a/\DGet H2 a y (some v)/\Q v H2
noncomputable def Zdl (ty td:TE):TE:=λσ H Q=>ty σ H λy H1=>td σ H1 λx H2=>∃a o,x=.ref a/\DGet H2 a y o/\Q (.bl (!o.isSome)) H2
noncomputable def Zha (td ty tv:TE):TS:=λD σ H=>tv σ H λv H1=>td σ H1 λx H2=>ty σ H2 λy B=>∃a j,x=.ref a/\DPut B a y v j/\D.nx σ j
section
variable {X:Cx}{o i e value:Expr}{pos pos' tpos:Pos}{td ty tv:TE}
theorem VD (D:X.A.units+1<cLine)(L:PE X o td)(hi:PE X i ty)(O:Zgq i):PE X (.Subscript o i pos) (Zg9 td ty):=by
 intro qQ s σ H Q I h;refine ZY PySem.F.slot_dict_getitem.lookup O (thG (L qQ s σ H _ I h) λu U x H1 Y Z q1=>thG (hi qQ U σ H1 _ Y q1) λiv s2 y H2 B ry ⟨a,v,ex,g,q2⟩=>?_);subst ex;obtain rfl:u=Value.ref a:=Z;exact ⟨Xs B g,ZW D B g ry λw' s3 I3 j=>⟨v,H2,I3,j,q2⟩⟩
theorem WT (j:X.A.units+1<cLine)(hi:PE X i ty)(B:PE X o td):PC X .NotIn i o (Zdl ty td):=by
 intro qQ s σ H Q I h;refine thG (hi qQ s σ H _ I h) λiv D y H1 L O U=>thG (B qQ D σ H1 _ L U) λu s2 x H2 Y Z ⟨a,ov,ex,g,q2⟩=>?_;subst ex;obtain rfl:u=Value.ref a:=Z;exact Zdk j Y g O λs3 I3=>⟨.bl (!ov.isSome),H2,I3,rfl,q2⟩
theorem Xu (j:X.A.units+1<cLine)(B:PE X o td)(hi:PE X i ty)(L:PE X value tv)(O:swapsWith value (some (.Subscript o i pos')) pos.line X.env=pure false) :
  PS X (.Assign [.Subscript o i pos'] value pos) (Zha td ty tv):=by
 intro qQ s σ H D I h;refine wpAny_Assign_Subscript (thG (L qQ s σ H _ I h) λr U v H1 Y Z q1=>thG (B qQ U σ H1 _ Y q1) λu s2 x H2 I2 rx q2=>thG (hi qQ s2 σ H2 _ I2 q2) λiv s3 y H3 I3 ry ⟨a,H4,ex,g,q3⟩=>?_) O;subst ex;obtain rfl:u=Value.ref a:=rx;exact ZX j I3 g ry Z λs4 I4=>⟨σ,H4,I4,q3⟩
end
theorem Yh {P:Program}{w:World}{H:Hp}(h:Heap)(j:sysModules<h.objs.size):ObjOk P w H (h.push { cls:=.type "dict", data:=.dict #[] }) h.objs.size (.dK []):=
 ⟨Yan _,Yda.mpr (Ne.symm (Yay j)),[],.nil,Heap.DictOf.new h⟩
theorem ZbA {P:Program}{w:World}{H:Hp}(h:Heap)(j:sysModules<h.objs.size):ObjOk P w H (h.push { cls:=.type "dict", data:=.dict #[] }) h.objs.size (.dT []):=
 ⟨Yan _,Yda.mpr (Ne.symm (Yay j)),[],.nil,_,#[],0,Ybl _ rfl,⟨rfl,rfl,rfl⟩,rfl,rfl,Ycv⟩
noncomputable def ZeN:TE:=λ_ H Q=>∀p,H p=none->Q (.ref p) (upd H p (.dT []))
section
variable {X:Cx}{pos:Pos}
theorem ZbB:PE X (.Dict [] [] pos) ZeN:=λqQ s σ H Q I h=>
 wpAny_Dict_empty ⟨.ref s.heap.objs.size,_,I.laid (a:=s.heap.objs.size) (o:=.dT []) (t':=s.toks) (λ_ _ q=>Yao _ q) (Yad _) (ZbA s.heap I.big),rfl,h _ (I.hok.fresh (Yad _))⟩
end
noncomputable def ZZ:List (TE×TE)->St->Hp->(List (V×V)->Hp->Prop)->Prop
 | [],_,H,Q=>Q [] H
 | (tk,tv)::r,σ,H,Q=>tk σ H λx H1=>tv σ H1 λy H2=>ZZ r σ H2 λps H3=>Q ((x,y)::ps) H3
noncomputable abbrev VV:List (V×V)->List (Value×Value)->Prop:=Paired λp q=>RelV p.1 q.1/\RelV p.2 q.2
noncomputable def PPs (X:Cx)(pos:Pos)(keys:List (Option Expr))(j:List Expr)(B:List (TE×TE)):Prop:=
 ∀(qQ:List (Addr×Obj))(s:Shared)(σ:St)(H:Hp)(Q:List (V×V)->Hp->Prop),Inv X qQ σ H s->ZZ B σ H Q ->
  wpAny (model X.prog X.w) X.A (evalPairs (pairTrees keys j X.env pos)) (λvs s'=>∃ps H',Inv X qQ σ H' s'/\VV ps vs/\Q ps H') X.xe s
theorem Xv {X:Cx}{pos:Pos}:PPs X pos [] [] []:=λqQ s σ H Q I h=>pairTrees_nil_walk ⟨[],H,I,.nil,h⟩
theorem OM {X:Cx}{pos:Pos}{k v:Expr}{ks:List (Option Expr)}{vs:List Expr}{tk tv:TE}{j:List (TE×TE)}(D:PE X k tk)(L:PE X v tv)(O:PPs X pos ks vs j) :
  PPs X pos (some k::ks) (v::vs) ((tk,tv)::j):=λqQ s σ H Q I h=>
 pairTrees_cons_walk (thG (D qQ s σ H _ I h) λu U x H1 Y Z q1=>thG (L qQ U σ H1 _ Y q1) λw2 s2 y H2 I2 ry q2=>
  thG (O qQ s2 σ H2 _ I2 q2) λws s3 ps H3 I3 B q3=>⟨(x,y)::ps,H3,I3,.cons ⟨Z,ry⟩ B,q3⟩)
noncomputable def Jw (kvs more:List (Key×V)):List (Key×V):=more.foldl (λacc j=>JT acc j.1 j.2) kvs
theorem KV.merge:∀{more:List (Key×V)}{rs:List (Key×Value)}{kvs:List (Key×V)}{vs:List (Key×Value)},KV more rs->KV kvs vs->KV (Jw kvs more) (merged vs rs):=by
 intro more rs kvs vs r;unfold KV at r
 induction r generalizing kvs vs with
 | nil=>intro q;exact q
 | @cons p q ps qs h t ih=>
  intro j;have e:KV (JT kvs p.1 p.2) (stored vs q.1 q.2):=by
   have:=j.put p.1 h.2;rw [<-h.1];exact this
  exact ih e
theorem ON:∀(more kvs:List (Key×V)),(Jw kvs more).length<=kvs.length+more.length
 | [],kvs=>by show kvs.length<=kvs.length+0;lia
 | p::r,kvs=>by
  have h1:=ON r (JT kvs p.1 p.2);have h2:=Jp kvs p.1 p.2;show (Jw (JT kvs p.1 p.2) r).length<=_;rw [Ybm];lia
theorem Vd {P:Program}{w:World}:∀{kvs:List (Key×V)}{ws:List (Value×Value)},VV (kvs.map λj=>(kV j.1,j.2)) ws->∃rs,Carries (Jd P w) ws rs/\KV kvs rs
 | [],_,r=>by rw [List.map_nil] at r;cases r;exact ⟨[],True.intro,.nil⟩
 | p::kvs,_,r=>by
  rw [Yaq] at r;cases r with
  | @cons a b as bs h t=>
   obtain ⟨rs,c,q⟩:=Vd (P:=P) (w:=w) t;obtain ⟨D,B⟩:=b;exact ⟨(p.1,B)::rs,⟨ZV h.1,rfl,c⟩,.cons ⟨rfl,h.2⟩ q⟩
noncomputable def Zhb (j:List (TE×TE)):TE:=λσ H Q=>∀p,H p=none->ZZ j σ (upd H p (.dK [])) λps H2=>H2 p=some (.dK [])/\∃kvs:List (Key×V),ps=kvs.map (λB=>(kV B.1,B.2))/\kvs.length<=15/\Q (.ref p) (upd H2 p (.dK (Jw [] kvs)))
theorem Z0 {X:Cx}{pos:Pos}{keys:List (Option Expr)}{j:List Expr}{B:List (TE×TE)}(h:PPs X pos keys j B)(Y:keys.all (·.isSome)=true)(Z:keys.length=j.length)(h0:keys≠[])(L:keys.length<=15):PE X (.Dict keys j pos) (Zhb B):=by
 intro qQ s σ H Q I q;have hn:=I.hok.fresh (Yad s.heap.objs.size);have I1:=I.laid (a:=s.heap.objs.size) (o:=.dK []) (h':=s.heap.push { cls:=.type "dict", data:=.dict #[] }) (t':=s.toks) (λ_ _ q=>Yao _ q) (Yad _) (Yh s.heap I.big);refine wpAny_Dict_walk (knd:=Jd X.prog X.w) Y Z h0 L (thG (h qQ _ σ _ _ I1 (q _ hn)) λws s2 ps H2 U O ⟨e,kvs,ep,lk,q2⟩=>?_);subst ep;obtain ⟨rs,c,rk⟩:=Vd (P:=X.prog) (w:=X.w) O;obtain ⟨z,hd,aa,r0,dd⟩:=Zdj U.hok e;cases r0;refine ⟨rs,c,dd,λh' D hs=>⟨.ref s.heap.objs.size,_,?_,rfl,q2⟩⟩;have hz:(Jw [] kvs).length<=sizeLine:=by
  have h1:=ON kvs [];rw [List.length_nil] at h1;rw [Ybe];lia
 have he:∃q,h'.get? s.heap.objs.size=some q:=let ⟨q,_,_,hq,_⟩:=D;⟨q,hq⟩;exact O5 U (by rw [e];exact True.intro) hs he (ZcH hz hd (rk.merge .nil) D)
structure M2 (X:Cx)(o:Expr)(m:Str)(apos:Pos)(e f:Expr)(qK:Pos):Prop where
 base:attributeBase o m X.env (eval o X.env)=eval o X.env
 few:((backTo qK (starEach [e,f] X.env)).all (λx=>!x.1) && (backToKw qK (keywordEach [] X.env)).all (λx=>x.1.isSome)
  && decide (([e,f]:List Expr).length+([]:List Keyword).length+(if ([]:List Keyword).isEmpty then 0 else 1)<30))=true
 line:(apos.endLine == qK.line)=true
 trees:backTo qK (starEach [e,f] X.env)=[(false,eval e X.env),(false,eval f X.env)]
section
variable {X:Cx}
theorem Zie (K:W.Frag)(hc:X.calm=true)(h:X.K=K:=by rfl):J6 X (.builtin "min") (λxs H Q=>∃(p:Addr)(ns:List Int),xs=[.ref p]/\SqL K H p (ns.map V.int)/\ns≠[]/\∀m,m∈ns->(∀n∈ns,m<=n)->Q (.int m) H):=by
 subst h;intro qQ s σ H xs us Q I rv h;obtain ⟨p,ns,rfl,hq,Y,q⟩:=h;obtain ⟨u,rfl,Z⟩:=rv.one;cases Z;obtain ⟨its,r,pl,hz⟩:=I.list hq;have hh:X.A.in1.handled=none:=I.ok.hd hc;have hl:=r.length;rw [Yab] at hl;have hpos:0<ns.length:=List.length_pos_iff.mpr Y;obtain ⟨o,eo,_⟩:=id pl.isList;have L:p<s.heap.objs.size:=Yal eo;have B:∀(i:Nat)(v:Value),its.toArray[i]?=some v->∃t,v=Value.int (ns.getD i 0) t:=λi v hv=>by
  have D:its[i]?=some v:=by simpa using hv
  have hi:i<its.length:=(Yaj.mp D).1;have ex:(ns.map V.int)[i]?=some (.int (ns[i]'(by lia))):=by rw [Yba,Yap (by lia)];rfl
  obtain ⟨u,gu,Z⟩:=r.get ex;rw [gu] at D;cases D;obtain ⟨t,rfl⟩:=Z;exact ⟨t,by rw [Ydz,Yap (by lia)];rfl⟩
 refine call_min_walk (wpAny_pyIter_list pl.isList ?_);refine ⟨s.heap.objs.size,_,_,_,_,_,_,rfl,Walks.list hh s.heap.objs.size p (Yay L) its.toArray,⟨⟨_,Ybl _ rfl,rfl,rfl⟩,pl.isList.at λo e=>Yao _ e⟩,?_,by rw [Yar];lia,CmpOf.ints_lt (λi=>ns.getD i 0) B,λv h' tk hv hk=>?_⟩
 ·intro b hb;have e:b=s.heap.objs.size\/b=p:=by simpa using hb
  have O:(s.heap.push { cls:=.type "list_iterator", data:=.fields #[.ref p,.int 0 0] }).objs.size=s.heap.objs.size+1:=Ycu ..;show b<(s.heap.push { cls:=.type "list_iterator", data:=.fields #[.ref p,.int 0 0] }).objs.size;rw [O];rcases e with e | e
  ·rw [e];exact Nat.lt_succ_self _
  ·rw [e];exact Nat.lt_succ_of_lt L
 ·obtain ⟨t,rfl⟩:=B _ v hv;have hA:=argBest_lt (λi=>ns.getD i 0) (its.toArray.size-1);have O:its.toArray.size=ns.length:=by rw [Yar];exact hl.symm
  generalize hg:argBest (λi j=>decide (ns.getD i 0<ns.getD j 0)) (its.toArray.size-1)=g at hA ⊢;have U:g<ns.length:=by lia
  have eg:ns.getD g 0=ns[g]:=by rw [Ydz,Yap U];rfl
  refine ⟨.int (ns.getD g 0),H,I.kept λb o e'=>hk b o ?_ (Yao _ e'),⟨t,rfl⟩,q _ (by rw [eg];exact Yea U) λn hn=>?_⟩
  ·intro z;have:b=s.heap.objs.size:=by simpa using z
   exact absurd (Yal e') (by rw [this];exact Yce _)
  ·obtain ⟨j,hj,rfl⟩:=Yel hn;have:=hA.2 j (by lia);have ej:ns.getD j 0=ns[j]:=by rw [Ydz,Yap hj];rfl
   rw [<-ej];exact this
end
theorem ZbC {K:W.Frag}{a:Addr}{xs:List V}{g:TG}{tb:TS}{D:Zi}{σ:St}{H:Hp}(j:Nat->St->Hp->Prop)(h0:j 0 σ H)(B:∀i σ H,i<=xs.length->j i σ H->SqL K H a xs)(L:∀i x σ H T,xs[i]?=some x->j i σ H->H T=none->g (.ref T) σ (upd H T (.tup [.int (i:Nat),x])) λO H2=>tb { D with nx:=j (i+1),ct:=j (i+1),bk:=D.nx } O H2)(U:∀ σ H,j xs.length σ H->D.nx σ H) :
  Zs (Ite K a) g tb D σ H:=Vt j h0 (λi s H hi p=>⟨λz=>⟨xs,xs[i],B i s H hi p,by simp [z]⟩,λe=>⟨xs,B i s H hi p,by lia⟩⟩) (λi s H x H' z p y=>by obtain ⟨T,Y,rfl,Z,rfl,y⟩:=y;exact L i Y s H T (y xs (B i s _ (Ycs z) p)) p Z) U
structure FunD (K:W.Frag)(x qual:Str)(st:Stmt)(dV:Value)(f:Addr)(fd:FuncData):Prop where
 ex:∃(oc:Value)(od:Option Addr)(kV doc pm:Value)(an:Option Addr)(cdv ct:Value)(osl:Array (Option Value)),
  fd=W.fnOf x qual (GX st) (Gx st) (Gg st) dV kV doc pm an cdv ct/\K.lookup f=some ⟨oc,od,.func fd,osl⟩/\W.codeIn K cdv qual=true
 kp:W.keepIn K (.ref f)=true
section
variable {P:Program}{w:World}{K:W.Frag}{mg:Str->Option Value}{base:Heap}
theorem FunD.ok {x qual:Str}{st:Stmt}{L:Value}{f:Addr}{fd:FuncData}{N ps:List Str}{k:Nat}{sp:Sp}(F:FunD K x qual st L f fd)(S:Gu N ps (Gg st))(len:∀vs H Q E,sp vs H Q E->vs.length=ps.length)(O:∀(j:Value)(A:Around)(outer:List Env)(s:Shared)(H:Hp)(vs:List V)(Q:VK)(E:XK),Room k (A.deeper (envOfC qual (Gg st) s.heap.objs.size f j))->sp vs H Q E ->
   ∃t,PSs (YM CX0 P w K mg base N qual (Gg st) f j A outer s H E).nox (Gx st) t/\t { nx:=λ_ H'=>Q .non H',rt:=Q } (start N vs) H):FnOk P w K mg base CX0 (k+1) f fd ps sp:=by
 obtain ⟨oc,od,kV,U,pm,an,j,ct,Y,rfl,Z,B⟩:=F.ex;refine ZI Z B S len λA outer s H vs Q E hr D=>?_;obtain ⟨t,h,q⟩:=O j A outer s H vs Q E hr D;exact ⟨t,h.nox,q⟩
theorem Zdm {x qual:Str}{st:Stmt}{f:Addr}{U:Value}{Y L:Option Addr}{D:Array (Option Value)}{O kV B pm j ct:Value}(l:K.lookup f=some ⟨U,Y,.func (W.fnOf x qual (GX st) (Gx st) (Gg st) O kV B pm L j ct),D⟩)(c:W.codeIn K j qual=true)(k:W.keepIn K (.ref f)=true):FunD K x qual st O f (W.fnOf x qual (GX st) (Gx st) (Gg st) O kV B pm L j ct):=⟨⟨U,Y,kV,B,pm,L,j,ct,D,rfl,l,c⟩,k⟩
end
end L2
namespace L2
open PySem PySem.Spec PyProof.Rows
noncomputable def Oc:Bool->Keyed->Array Keyed->Nat->Nat->Nat->StateT SortSt Sem (Option Nat):=sortPriv% PySem.Builtin.gallop
noncomputable def VE:Array Keyed->Array Keyed->StateT SortSt Sem (Array Keyed):=sortPriv% PySem.Builtin.mergeLo
noncomputable def VF:Array Keyed->Array Keyed->StateT SortSt Sem (Array Keyed):=sortPriv% PySem.Builtin.mergeHi
noncomputable def UI:Nat->StateT SortSt Sem Unit:=sortPriv% PySem.Builtin.setMinGallop
noncomputable def O6 (left:Bool)(key:Keyed)(arr:Array Keyed)(base i:Nat):StateT SortSt Sem (Option Bool):=do
 let x <- elem' arr (base+i)
 if left then lt' x key else return (<- lt' key x).map (!·)
noncomputable def OO (left:Bool)(key:Keyed)(arr:Array Keyed)(base n lo hi:Nat):StateT SortSt Sem (Option Nat):=do
 let mut lo:=lo
 let mut hi:=hi
 for _ in [:n] do
  if lo>=hi then break
  let m:=lo+(hi-lo) / 2
  let some more <- O6 left key arr base m | return none
  if more then lo:=m+1
  else hi:=m
 return some hi
noncomputable def VG (left:Bool)(key:Keyed)(arr:Array Keyed)(base n hint:Nat):StateT SortSt Sem (Option Nat):=do
 let mut lastofs:=0
 let mut ofs:=1
 let maxofs:=n-hint
 for _ in [:n] do
  if ofs>=maxofs then break
  let some more <- O6 left key arr base (hint+ofs) | return none
  if !more then break
  lastofs:=ofs
  ofs:=2 * ofs+1
 OO left key arr base n (hint+lastofs+1) (hint+min ofs maxofs)
noncomputable def O7 (left:Bool)(key:Keyed)(arr:Array Keyed)(base n hint:Nat):StateT SortSt Sem (Option Nat):=do
 let mut lastofs:=0
 let mut ofs:=1
 let maxofs:=hint+1
 for _ in [:n] do
  if ofs>=maxofs then break
  let some found <- O6 left key arr base (hint-ofs) | return none
  if found then break
  lastofs:=ofs
  ofs:=2 * ofs+1
 OO left key arr base n (hint+1-min ofs maxofs) (hint-lastofs)
theorem YV (left:Bool)(key:Keyed)(arr:Array Keyed)(base n hint:Nat):Oc left key arr base n hint=(do
  let some right <- O6 left key arr base hint | return none
  if right then VG left key arr base n hint else O7 left key arr base n hint):=rfl
section
variable {M:Model}{A:Around}{E:EX}{s:Shared}{kd:SortKind}{b:Keyed->Keyed->Bool}{good:Keyed->Prop}
structure WO (b:Keyed->Keyed->Bool):Prop where
 irr:∀x,b x x=false
 tr:∀x y z,b x y=true->b y z=true->b x z=true
 neg:∀x y z,b x z=true->b x y=true\/b y z=true
noncomputable def Ui (M:Model)(A:Around)(E:EX)(s:Shared)(kd:SortKind)(b:Keyed->Keyed->Bool)(good:Keyed->Prop):Prop:=
 ∀(x y:Keyed)(st:SortSt)(Q:Option Bool->SortSt->Prop),good x->good y->kindOf st=kd->Q (some (b x y)) st->wpS M A E s (lt' x y) Q st
theorem GB {arr:Array Keyed}{i:Nat}{x:Keyed}{st:SortSt}{Q:Keyed->SortSt->Prop}(h:arr[i]?=some x)(q:Q x st):wpS M A E s (elem' arr i) Q st:=by
 rw [elem'_eq,h];exact Yae q
noncomputable def byd (b:Keyed->Keyed->Bool)(left:Bool)(key:Keyed)(arr:Array Keyed)(base i:Nat):Bool:=match arr[base+i]? with
 | some x=>if left then b x key else !b key x
 | none=>false
theorem On {left:Bool}{key:Keyed}{arr:Array Keyed}{base i:Nat}{x:Keyed}{st:SortSt}{Q:Option Bool->SortSt->Prop}(L:Ui M A E s kd b good)(j:good key)(B:arr[base+i]?=some x)(D:good x)(O:kindOf st=kd)(q:Q (some (byd b left key arr base i)) st):wpS M A E s (O6 left key arr base i) Q st:=by
 unfold O6;refine Yac (GB B ?_);unfold byd at q;rw [B] at q;cases left with
 | true=>exact L x key st Q D j O q
 | false=>exact Yac (L key x st _ j D O (Yae q))
section
variable {left:Bool}{key:Keyed}{arr:Array Keyed}{base n hint:Nat}{st:SortSt}{Q:Option Nat->SortSt->Prop}
structure Gal (b:Keyed->Keyed->Bool)(good:Keyed->Prop)(left:Bool)(key:Keyed)(arr:Array Keyed)(base n:Nat):Prop where
 gk:good key
 it:∀i,i<n->∃x,arr[base+i]?=some x/\good x
 mono:∀i j,i<=j->j<n->byd b left key arr base j=true->byd b left key arr base i=true
theorem Jc {lo hi:Nat}(L:Ui M A E s kd b good)(G:Gal b good left key arr base n)(U:kindOf st=kd)(h1:lo<=hi)(h2:hi<=n)(B:∀i,i<lo->byd b left key arr base i=true)(D:∀i,hi<=i->i<n->byd b left key arr base i=false)(q:∀k,k<=n->(∀i,i<k->byd b left key arr base i=true)->(∀i,k<=i->i<n->byd b left key arr base i=false)->Q (some k) st):wpS M A E s (OO left key arr base n lo hi) Q st:=by
 unfold OO;refine Yac (Ybz (λk c j=>j=st/\∃lo hi,c=(none,lo,hi)/\lo<=hi/\hi<=n/\hi-lo<=n-k/\(∀i,i<lo->byd b left key arr base i=true)/\(∀i,hi<=i->i<n->byd b left key arr base i=false)) ?_ ?_ ⟨rfl,lo,hi,rfl,h1,h2,by lia,B,D⟩)
 ·rintro k c j _ hk ⟨rfl,lo,hi,rfl,h1,h2,O,B,D⟩;dsimp only;split
  ·rename_i Y;have:lo=hi:=by lia
   subst this;refine Yae ?_;dsimp only;exact Yae (q lo h2 B D)
  ·rename_i Y;obtain ⟨x,Z,gx⟩:=G.it (lo+(hi-lo) / 2) (by lia);refine Yac (On L G.gk Z gx U ?_);dsimp only;cases hb:byd b left key arr base (lo+(hi-lo) / 2) with
   | true=>
    refine Yae ⟨rfl,_,_,rfl,by lia,h2,by lia,λi hi'=>G.mono i (lo+(hi-lo) / 2) (by lia) (by lia) hb,D⟩
   | false=>
    refine Yae ⟨rfl,_,_,rfl,by lia,by lia,by lia,B,λi h8 h9=>?_⟩;cases hc:byd b left key arr base i with
    | false=>rfl
    | true=>rw [G.mono _ i h8 h9 hc] at hb;cases hb
 ·rintro c j ⟨rfl,lo,hi,rfl,h1,h2,O,B,D⟩;have:lo=hi:=by simp at O;lia
  subst this;exact Yae (q lo h2 B D)
theorem JD (L:Ui M A E s kd b good)(G:Gal b good left key arr base n)(U:kindOf st=kd)(hn:hint<n)(q:∀k,k<=n->(∀i,i<k->byd b left key arr base i=true)->(∀i,k<=i->i<n->byd b left key arr base i=false)->Q (some k) st):wpS M A E s (Oc left key arr base n hint) Q st:=by
 rw [YV];obtain ⟨x,hx,gx⟩:=G.it hint hn;have O:∀i j,byd b left key arr base i=false->i<=j->j<n->byd b left key arr base j=false:=λi j h1 h2 h3=>by
  cases hc:byd b left key arr base j with
  | false=>rfl
  | true=>rw [G.mono _ j h2 h3 hc] at h1;cases h1
 refine Yac (On L G.gk hx gx U ?_);cases hb:byd b left key arr base hint with
 | true=>
  show wpS M A E s (VG left key arr base n hint) Q st;unfold VG;refine Yac (Ybz (λk c D=>D=st/\∃last B,c=(none,last,B)/\last<B/\k+1<=B/\hint+last<n/\byd b left key arr base (hint+last)=true) ?_ ?_ ⟨rfl,0,1,rfl,by lia,by lia,hn,hb⟩)
  ·rintro k c D _ hk ⟨rfl,last,B,rfl,h1,h2,h3,Y⟩;dsimp only;split
   ·rename_i Z;refine Yae ?_;dsimp only;rw [Nat.min_eq_right Z];exact Jc L G U (by lia) (by lia) (λi hi=>G.mono i _ (show i<=hint+last by lia) h3 Y) (λi h6 h7=>by lia) q
   ·rename_i Z;obtain ⟨y,hy,gy⟩:=G.it (hint+B) (by lia);refine Yac (On L G.gk hy gy U ?_);dsimp only;cases hb2:byd b left key arr base (hint+B) with
    | true=>exact Yae ⟨rfl,_,_,rfl,by lia,by lia,by lia,hb2⟩
    | false=>
     refine Yae ?_;dsimp only;rw [Ydr (by lia)];exact Jc L G U (by lia) (by lia) (λi hi=>G.mono i _ (show i<=hint+last by lia) h3 Y) (λi h6 h7=>O _ i hb2 h6 h7) q
  ·rintro c D ⟨rfl,last,B,rfl,h1,h2,h3,Y⟩;dsimp only;have Z:n-hint<=B:=by simp at h2;lia
   rw [Nat.min_eq_right Z];exact Jc L G U (by lia) (by lia) (λi hi=>G.mono i _ (show i<=hint+last by lia) h3 Y) (λi h6 h7=>by lia) q
 | false=>
  show wpS M A E s (O7 left key arr base n hint) Q st;unfold O7;refine Yac (Ybz (λk c D=>D=st/\∃last B,c=(none,last,B)/\last<B/\k+1<=B/\last<=hint/\byd b left key arr base (hint-last)=false) ?_ ?_ ⟨rfl,0,1,rfl,by lia,by lia,by lia,hb⟩)
  ·rintro k c D _ hk ⟨rfl,last,B,rfl,h1,h2,h3,Y⟩;dsimp only;split
   ·rename_i Z;refine Yae ?_;dsimp only;rw [Nat.min_eq_right Z];exact Jc L G U (by lia) (by lia) (λi hi=>by lia) (λi h6 h7=>O _ i Y h6 h7) q
   ·rename_i Z;obtain ⟨y,hy,gy⟩:=G.it (hint-B) (by lia);refine Yac (On L G.gk hy gy U ?_);dsimp only;cases hb2:byd b left key arr base (hint-B) with
    | false=>exact Yae ⟨rfl,_,_,rfl,by lia,by lia,by lia,hb2⟩
    | true=>
     refine Yae ?_;dsimp only;rw [Ydr (by lia)];exact Jc L G U (by lia) (by lia) (λi hi=>G.mono i (hint-B) (by lia) (by lia) hb2) (λi h6 h7=>O _ i Y h6 h7) q
  ·rintro c D ⟨rfl,last,B,rfl,h1,h2,h3,Y⟩;dsimp only;have Z:hint+1<=B:=by simp at h2;lia
   rw [Nat.min_eq_right Z];exact Jc L G U (by lia) (by lia) (λi hi=>by lia) (λi h6 h7=>O _ i Y h6 h7) q
end
end
noncomputable abbrev MLs:=Option (Array Keyed)×Array Keyed×Nat×Nat×Nat×Nat
noncomputable abbrev MLt:=Option (Array Keyed)×Array Keyed×Nat×Nat×Nat×Nat×Nat
noncomputable def OA (a b out:Array Keyed)(ia ib:Nat):Array Keyed:=out++a.extract ia++b.extract ib
noncomputable def Ve (a b out:Array Keyed)(ia ib:Nat):Array Keyed:=out++b.extract ib++a.extract ia
noncomputable def ZbD (a b:Array Keyed)(mg:Nat):Nat->MLs->StateT SortSt Sem (ForInStep MLs):=λ_ r=>
 let out:=r.2.1;let ia:=r.2.2.1;let ib:=r.2.2.2.1;let qZ:=r.2.2.2.2.1;let qX:=r.2.2.2.2.2
 do
 let x <- elem' b ib
 let y <- elem' a ia
 match <- lt' x y with
 | some bWins=>
  if bWins=true then do
   let z <- elem' b ib
   let out:=out.push z
   let ib:=ib+1
   let qX:=qX+1
   let qZ:=0
   if (ib == b.size)=true then pure (.done (some (OA a b out ia ib),out,ia,ib,qZ,qX))
   else if qX>=mg then pure (.done (none,out,ia,ib,qZ,qX))
   else pure (.yield (none,out,ia,ib,qZ,qX))
  else do
   let z <- elem' a ia
   let out:=out.push z
   let ia:=ia+1
   let qZ:=qZ+1
   let qX:=0
   if (ia+1 == a.size)=true then pure (.done (some (Ve a b out ia ib),out,ia,ib,qZ,qX))
   else if qZ>=mg then pure (.done (none,out,ia,ib,qZ,qX))
   else pure (.yield (none,out,ia,ib,qZ,qX))
 | _=>pure (.done (some (OA a b out ia ib),out,ia,ib,qZ,qX))
noncomputable def mlD (a b:Array Keyed)(B j k:Nat)(out:Array Keyed)(ia ib:Nat):StateT SortSt Sem (ForInStep MLt):=do
 let qX:=k
 let z <- elem' a ia
 let out:=out.push z
 let ia:=ia+1
 if (ia+1 == a.size)=true then pure (.done (some (Ve a b out ia ib),out,ia,ib,B,j,qX))
 else if (decide (j<7) && decide (qX<7))=true then pure (.done (none,out,ia,ib,B,j,qX))
 else pure (.yield (none,out,ia,ib,B,j,qX))
noncomputable def mlC (a b:Array Keyed)(j B D:Nat)(out:Array Keyed)(ia ib:Nat):StateT SortSt Sem (ForInStep MLt):=do
 let z <- elem' b ib
 let out:=out.push z
 let ib:=ib+1
 if (ib == b.size)=true then pure (.done (some (OA a b out ia ib),out,ia,ib,j,B,D))
 else do
  let y <- elem' a ia
  match <- Oc true y b ib (b.size-ib) 0 with
  | some k=>
   let D:=k
   if k > 0 then
    let out:=out++b.extract ib (ib+k)
    let ib:=ib+k
    if (ib == b.size)=true then pure (.done (some (OA a b out ia ib),out,ia,ib,j,B,D))
    else mlD a b j B k out ia ib
   else mlD a b j B k out ia ib
  | _=>pure (.done (some (OA a b out ia ib),out,ia,ib,j,B,D))
noncomputable def mlB (a b:Array Keyed)(j B D:Nat)(out:Array Keyed)(ia ib:Nat):StateT SortSt Sem (ForInStep MLt):=do
 UI j
 let x <- elem' b ib
 match <- Oc false x a ia (a.size-ia) 0 with
 | some k=>
  let B:=k
  if k > 0 then
   let out:=out++a.extract ia (ia+k)
   let ia:=ia+k
   if (ia+1 == a.size)=true then pure (.done (some (Ve a b out ia ib),out,ia,ib,j,B,D))
   else if (ia == a.size)=true then pure (.done (some (OA a b out ia ib),out,ia,ib,j,B,D))
   else mlC a b j B D out ia ib
  else mlC a b j B D out ia ib
 | _=>pure (.done (some (OA a b out ia ib),out,ia,ib,j,B,D))
noncomputable def ZbE (a b:Array Keyed):Nat->MLt->StateT SortSt Sem (ForInStep MLt):=λ_ r=>
 let out:=r.2.1;let ia:=r.2.2.1;let ib:=r.2.2.2.1;let qJ:=r.2.2.2.2.1;let qZ:=r.2.2.2.2.2.1;let qX:=r.2.2.2.2.2.2
 if qJ > 1 then mlB a b (qJ-1) qZ qX out ia ib else mlB a b qJ qZ qX out ia ib
noncomputable abbrev MLo:=Option (Array Keyed)×Array Keyed×Nat×Nat×Nat
noncomputable def ZbF (a b:Array Keyed):Nat->MLo->StateT SortSt Sem (ForInStep MLo):=λ_ r=>
 let out:=r.2.1;let ia:=r.2.2.1;let ib:=r.2.2.2.1;let qJ:=r.2.2.2.2
 do
 let r <- forIn [:a.size+b.size] ((none,out,ia,ib,0,0):MLs) (ZbD a b qJ)
 match r.1 with
 | some x=>pure (.done (some x,r.2.1,r.2.2.1,r.2.2.2.1,qJ))
 | none=>do
  liftM (rule "list.sort.gallop")
  let r <- forIn [:a.size+b.size] ((none,r.2.1,r.2.2.1,r.2.2.2.1,qJ+1,r.2.2.2.2.1,r.2.2.2.2.2):MLt) (ZbE a b)
  match r.1 with
  | some x=>pure (.done (some x,r.2.1,r.2.2.1,r.2.2.2.1,r.2.2.2.2.1))
  | none=>do
   UI (r.2.2.2.2.1+1)
   pure (.yield (none,r.2.1,r.2.2.1,r.2.2.2.1,r.2.2.2.2.1+1))
theorem Jm {α β:Type}{m:StateT SortSt Sem α}{f g:α->StateT SortSt Sem β}(h:∀x,f x=g x):m >>= f=m >>= g:=by rw [funext h]
theorem VH {α:Type}{c:Prop}[Decidable c]{x y u v:α}(h1:x=y)(h2:u=v):(if c then x else u)=if c then y else v:=by rw [h1,h2]
theorem UJ {β:Type}{r:Std.Legacy.Range}{c:β}{f g:Nat->β->StateT SortSt Sem (ForInStep β)}(h:∀i x,f i x=g i x):forIn r c f=forIn r c g:=by rw [funext λi=>funext (h i)]
theorem Xw (a b:Array Keyed):VE a b=(do
  liftM (rule "list.sort.merge-lo")
  let x <- elem' b 0
  let out:=#[x]
  if (1 == b.size)=true then pure (OA a b out 0 1)
  else if (0+1 == a.size)=true then pure (Ve a b out 0 1)
  else do
   let st <- get
   let r <- forIn [:a.size+b.size] ((none,out,0,1,gallopOf st):MLo) (ZbF a b)
   match r.1 with
   | some r=>pure r
   | none=>liftM (unsupported "internal:list.sort.merge-bound")):=by
 refine Jm (m:=liftM (rule "list.sort.merge-lo")) λ_=>?_;refine Jm (m:=elem' b 0) λx=>?_;refine VH (c:=(1 == b.size)=true) rfl ?_;refine VH (c:=(0+1 == a.size)=true) rfl ?_;refine Jm (m:=get) λst=>?_;refine (Ybi (λm:StateT SortSt Sem MLo=>m >>= _) (UJ (r:=[:a.size+b.size]) (c:=((none,#[x],0,1,gallopOf st):MLo)) (g:=ZbF a b) λi r=>?_)).trans ?_;rotate_left
 ·refine Jm λr=>?_;obtain ⟨B,L⟩:=r;cases B <;> rfl
 unfold ZbF;refine (Ybi (λm:StateT SortSt Sem MLs=>m >>= _) (UJ (r:=[:a.size+b.size]) (g:=ZbD a b r.2.2.2.2) λi r=>rfl)).trans ?_;refine Jm λq=>?_;obtain ⟨j,D⟩:=q;cases j with
 | some z=>rfl
 | none=>
  refine Jm (m:=liftM (rule "list.sort.gallop")) λ_=>?_;refine (Ybi (λm:StateT SortSt Sem MLt=>m >>= _) (UJ (r:=[:a.size+b.size]) (g:=ZbE a b) λi r=>rfl)).trans ?_;refine Jm λq=>?_;obtain ⟨j,D⟩:=q;cases j <;> rfl
section
variable {b:Keyed->Keyed->Bool}
noncomputable abbrev kle (b:Keyed->Keyed->Bool)(x y:Keyed):Prop:=b y x=false
theorem WO.le_trans (W:WO b){x y z:Keyed}(h1:kle b x y)(h2:kle b y z):kle b x z:=by
 cases h:b z x with
 | false=>exact h
 | true=>
  rcases W.neg z y x h with q | q
  ·rw [show b z y=false from h2] at q;cases q
  ·rw [show b y x=false from h1] at q;cases q
theorem WO.le_of_lt (W:WO b){x y:Keyed}(h:b x y=true):kle b x y:=by
 cases q:b y x with
 | false=>exact q
 | true=>
  have:=W.tr _ _ _ h q;rw [W.irr] at this;cases this
theorem WO.le_refl (W:WO b)(x:Keyed):kle b x x:=W.irr x
structure Mrg (b:Keyed->Keyed->Bool)(all out ra rb:List Keyed):Prop where
 perm:(out++ra++rb).Perm all
 so:out.Pairwise (kle b)
 le:∀x∈out,∀y∈ra++rb,kle b x y
 sa:ra.Pairwise (kle b)
 sb:rb.Pairwise (kle b)
theorem Mrg.len {all out j B:List Keyed}(h:Mrg b all out j B):out.length+j.length+B.length=all.length:=by
 have:=h.perm.length_eq;rw [Yag,Yag] at this;exact this
theorem Mrg.moveA {all out u D L:List Keyed}(h:Mrg b all out (u++D) L)(U:∀x∈u,∀y∈L,kle b x y):Mrg b all (out++u) D L:=by
 have O:=Ybu.mp h.sa;refine ⟨by rw [Ybg out u D];exact h.perm,Ybu.mpr ⟨h.so,O.1,λx B y j=>h.le x B y (by simp [j])⟩,λx B y j=>?_,O.2.1,h.sb⟩;rcases Yah.mp B with B | B
 ·refine h.le x B y ?_;rcases Yah.mp j with j | j
  ·simp [j]
  ·simp [j]
 ·rcases Yah.mp j with j | j
  ·exact O.2.2 x B y j
  ·exact U x B y j
theorem Mrg.moveB {all out u D O:List Keyed}(h:Mrg b all out D (u++O))(U:∀x∈u,∀y∈D,kle b x y):Mrg b all (out++u) D O:=by
 have L:=Ybu.mp h.sb;refine ⟨?_,Ybu.mpr ⟨h.so,L.1,λx B y j=>h.le x B y (by simp [j])⟩,λx B y j=>?_,h.sa,L.2.1⟩
 ·refine List.Perm.trans ?_ h.perm;simp only [Ybg];refine List.Perm.append_left _ ?_;rw [<-Ybg,<-Ybg];exact List.Perm.append_right _ List.perm_append_comm
 ·rcases Yah.mp B with B | B
  ·refine h.le x B y ?_;rcases Yah.mp j with j | j
   ·simp [j]
   ·simp [j]
  ·rcases Yah.mp j with j | j
   ·exact U x B y j
   ·exact L.2.2 x B y j
noncomputable def Ju (b:Keyed->Keyed->Bool)(all r:List Keyed):Prop:=r.Perm all/\r.Pairwise (kle b)
theorem Mrg.endA {all out j B:List Keyed}(h:Mrg b all out j B)(hz:∀x∈j,∀y∈B,kle b x y):Ju b all (out++j++B):=by
 refine ⟨h.perm,?_⟩;rw [Ybg];exact Ybu.mpr ⟨h.so,Ybu.mpr ⟨h.sa,h.sb,hz⟩,h.le⟩
theorem Mrg.endB {all out B D:List Keyed}(h:Mrg b all out B D)(hz:∀x∈D,∀y∈B,kle b x y):Ju b all (out++D++B):=by
 refine ⟨?_,?_⟩
 ·refine List.Perm.trans ?_ h.perm;rw [Ybg,Ybg];exact List.Perm.append_left _ List.perm_append_comm
 ·rw [Ybg];exact Ybu.mpr ⟨h.so,Ybu.mpr ⟨h.sb,h.sa,hz⟩,λx L y j=>h.le x L y (by
   rcases Yah.mp j with j | j <;> simp [j])⟩
end
theorem Us (a:Array Keyed)(i:Nat):(a.extract i).toList=a.toList.drop i:=by
 rw [Yeb,Yec,Yek];rw [Ydw];exact Yad _
theorem Yi (a:Array Keyed)(i k:Nat):(a.extract i (i+k)).toList=(a.toList.drop i).take k:=by
 rw [Yeb,Yec,Nat.add_sub_cancel_left]
theorem JH {a:Array Keyed}{i:Nat}{x:Keyed}(h:a[i]?=some x):a.toList.drop i=x::a.toList.drop (i+1):=by
 rw [<-Ybx] at h;obtain ⟨h1,h2⟩:=Yaj.mp h;rw [Yde h1,h2]
noncomputable def SameG (st j:SortSt):Prop:=kindOf j=kindOf st/\arrOf j=arrOf st/\pendingOf j=pendingOf st/\failedOf j=failedOf st
theorem SameG.refl (st:SortSt):SameG st st:=⟨rfl,rfl,rfl,rfl⟩
theorem SameG.trans {st B j:SortSt}(h:SameG st B)(k:SameG B j):SameG st j:=⟨k.1.trans h.1,k.2.1.trans h.2.1,k.2.2.1.trans h.2.2.1,k.2.2.2.trans h.2.2.2⟩
section
variable {M:Model}{A:Around}{E:EX}{s:Shared}{kd:SortKind}{b:Keyed->Keyed->Bool}{good:Keyed->Prop}
theorem Oo {g:Nat}{st:SortSt}{Q:Unit->SortSt->Prop}(q:∀j,SameG st j->Q () j):wpS M A E s (UI g) Q st:=by
 refine Ycj (f:=λs=>SortSt.mk' (kindOf s) (arrOf s) (pendingOf s) g (failedOf s)) (q _ ⟨rfl,rfl,rfl,rfl⟩)
structure Two (b:Keyed->Keyed->Bool)(good:Keyed->Prop)(a c:Array Keyed):Prop where
 ga:∀x∈a.toList,good x
 gc:∀x∈c.toList,good x
 sa:a.toList.Pairwise (kle b)
 sc:c.toList.Pairwise (kle b)
 na:0<a.size
 nc:0<c.size
 first:∀x,c[0]?=some x->∀y∈a.toList,kle b x y
 last:∀z,a[a.size-1]?=some z->∀y∈c.toList,kle b y z
variable {a c:Array Keyed}
theorem Two.at (T:Two b good a c){i:Nat}(h:i<a.size):∃x,a[i]?=some x/\good x:=⟨a[i],by simp [h],T.ga _ (by simp)⟩
theorem Two.ct (T:Two b good a c){i:Nat}(h:i<c.size):∃x,c[i]?=some x/\good x:=⟨c[i],by simp [h],T.gc _ (by simp)⟩
noncomputable def ML (b:Keyed->Keyed->Bool)(a c out:Array Keyed)(ia ib:Nat):Prop:=Mrg b (a.toList++c.toList) out.toList (a.toList.drop ia) (c.toList.drop ib)
theorem ML.done {out:Array Keyed}{ia ib:Nat}(h:ML b a c out ia ib)(e:ib=c.size\/ia=a.size):Ju b (a.toList++c.toList) (OA a c out ia ib).toList:=by
 unfold OA;rw [Ycl,Ycl,Us,Us];refine Mrg.endA h λx j y B=>?_;rcases e with e | e
 ·rw [Yem (by rw [e,Ybd];exact Yad _)] at B;cases B
 ·rw [Yem (by rw [e,Ybd];exact Yad _)] at j;cases j
theorem ML.last {out:Array Keyed}{ia ib:Nat}(T:Two b good a c)(h:ML b a c out ia ib)(e:ia+1=a.size):Ju b (a.toList++c.toList) (Ve a c out ia ib).toList:=by
 unfold Ve;rw [Ycl,Ycl,Us,Us];refine Mrg.endB h λx D y j=>?_;obtain ⟨z,B,_⟩:=T.at (i:=ia) (by lia);rw [JH B,Yem (by rw [Ybd];lia)] at j;have:y=z:=by simpa using j
 subst this;exact T.last y (by rw [<-e];exact B) x (List.mem_of_mem_drop D)
theorem ML.pushB {out:Array Keyed}{ia ib:Nat}{x:Keyed}(h:ML b a c out ia ib)(j:c[ib]?=some x)(B:∀y∈a.toList.drop ia,kle b x y):ML b a c (out.push x) ia (ib+1):=by
 unfold ML at h ⊢;rw [Yed];rw [JH j] at h;exact Mrg.moveB (u:=[x]) h λz D y L=>by
  have:z=x:=by simpa using D
  subst this;exact B y L
theorem ML.pushA {out:Array Keyed}{ia ib:Nat}{x:Keyed}(h:ML b a c out ia ib)(j:a[ia]?=some x)(B:∀y∈c.toList.drop ib,kle b x y):ML b a c (out.push x) (ia+1) ib:=by
 unfold ML at h ⊢;rw [Yed];rw [JH j] at h;exact Mrg.moveA (u:=[x]) h λz D y L=>by
  have:z=x:=by simpa using D
  subst this;exact B y L
theorem ML.takeA {out:Array Keyed}{ia ib k:Nat}(h:ML b a c out ia ib)(j:∀x∈(a.toList.drop ia).take k,∀y∈c.toList.drop ib,kle b x y):ML b a c (out++a.extract ia (ia+k)) (ia+k) ib:=by
 unfold ML at h ⊢;rw [Ycl,Yi];rw [<-Ycw k (a.toList.drop ia),List.drop_drop] at h;exact Mrg.moveA h j
theorem ML.takeB {out:Array Keyed}{ia ib k:Nat}(h:ML b a c out ia ib)(j:∀x∈(c.toList.drop ib).take k,∀y∈a.toList.drop ia,kle b x y):ML b a c (out++c.extract ib (ib+k)) ia (ib+k):=by
 unfold ML at h ⊢;rw [Ycl,Yi];rw [<-Ycw k (c.toList.drop ib),List.drop_drop] at h;exact Mrg.moveB h j
theorem VI {l:List Keyed}{x:Keyed}(W:WO b)(h:(x::l).Pairwise (kle b)):∀y∈x::l,kle b x y:=λy j=>by
 rcases Yaz.mp j with rfl | j
 ·exact W.le_refl _
 ·exact (Yds.mp h).1 y j
theorem Z1 (W:WO b)(L:Ui M A E s kd b good)(T:Two b good a c){out:Array Keyed}{ia ib mg:Nat}{st:SortSt}(hs:kindOf st=kd)(h:ML b a c out ia ib)(h1:ia+1<a.size)(h2:ib<c.size){Q:MLs->SortSt->Prop}(q1:∀r y O,SameG st O->Ju b (a.toList++c.toList) r.toList->Q (some r,y) O)(q2:∀j B D Z bc O,SameG st O->ML b a c j B D->B+1<a.size->D<c.size->out.size<j.size->Q (none,j,B,D,Z,bc) O) :
  wpS M A E s (forIn [:a.size+c.size] ((none,out,ia,ib,0,0):MLs) (ZbD a c mg)) Q st:=by
 refine Ybz (λk r O=>SameG st O/\∃j B D Z bc,r=(none,j,B,D,Z,bc)/\ML b a c j B D/\B+1<a.size/\D<c.size/\out.size+k<=j.size) ?_ ?_ ⟨SameG.refl _,_,_,_,_,_,rfl,h,h1,h2,Yad _⟩
 ·rintro k r Y _ hk ⟨U,j,B,D,Z,bc,rfl,h,h1,h2,h3⟩;have aa:kindOf Y=kd:=U.1.trans hs;unfold ZbD;dsimp only;obtain ⟨x,hx,gx⟩:=T.ct h2;obtain ⟨y,hy,gy⟩:=T.at (i:=B) (by lia);refine Yac (GB hx (Yac (GB hy (Yac (L x y Y _ gx gy aa ?_)))));have sA:(a.toList.drop B).Pairwise (kle b):=h.sa;have sB:(c.toList.drop D).Pairwise (kle b):=h.sb;rw [JH hy] at sA;rw [JH hx] at sB;dsimp only;cases hb:b x y with
  | true=>
   rw [if_pos rfl];refine Yac (GB hx ?_);have h':=h.pushB hx λz hz=>by
    rw [JH hy] at hz;exact W.le_trans (W.le_of_lt hb) (VI W sA z hz)
   split
   ·rename_i e;exact Yae (q1 _ _ _ U (h'.done (.inl (eq_of_beq e))))
   ·rename_i e;have e:D+1<c.size:=by
     have:D+1≠c.size:=λz=>e (Ybf.mpr z)
     lia
    split
    ·exact Yae (q2 _ _ _ _ _ _ U h' h1 e (by rw [Ycm];lia))
    ·exact Yae ⟨U,_,_,_,_,_,rfl,h',h1,e,by rw [Ycm];lia⟩
  | false=>
   rw [if_neg Yas];refine Yac (GB hy ?_);have h':=h.pushA hy λz hz=>by
    rw [JH hx] at hz;exact W.le_trans hb (VI W sB z hz)
   split
   ·rename_i e;exact Yae (q1 _ _ _ U (h'.last T (eq_of_beq e)))
   ·rename_i e;have e:B+1+1<a.size:=by
     have:B+1+1≠a.size:=λz=>e (Ybf.mpr z)
     lia
    split
    ·exact Yae (q2 _ _ _ _ _ _ U h' e h2 (by rw [Ycm];lia))
    ·exact Yae ⟨U,_,_,_,_,_,rfl,h',e,h2,by rw [Ycm];lia⟩
 ·rintro r Y ⟨U,j,B,D,Z,bc,rfl,h,h1,h2,h3⟩;exact q2 _ _ _ _ _ _ U h h1 h2 (by have:=T.na;simp at h3;lia)
end
noncomputable def Rng (b:Keyed->Keyed->Bool)(arr:Array Keyed)(lo hi:Nat):Prop:=∀i j x y,lo<=i->i<=j->j<hi->arr[i]?=some x->arr[j]?=some y->kle b x y
section
variable {M:Model}{A:Around}{E:EX}{s:Shared}{kd:SortKind}{b:Keyed->Keyed->Bool}{good:Keyed->Prop}
theorem ZbG (W:WO b):∀{l:List Keyed}{i j:Nat}{x y:Keyed},l.Pairwise (kle b)->i<=j->l[i]?=some x->l[j]?=some y->kle b x y
 | [],_,_,_,_,_,_,h,_=>by simp at h
 | z::l,0,0,x,y,_,_,h1,h2=>by
  simp at h1 h2;subst h1 h2;exact W.le_refl _
 | z::l,0,j+1,x,y,h,_,h1,h2=>by
  simp at h1 h2;subst h1;exact (Yds.mp h).1 y (Yau h2)
 | z::l,i+1,0,_,_,_,h,_,_=>by lia
 | z::l,i+1,j+1,x,y,h,hij,h1,h2=>by
  simp at h1 h2;exact ZbG W (Yds.mp h).2 (by lia) h1 h2
theorem ZcI (W:WO b){arr:Array Keyed}{lo:Nat}(h:(arr.toList.drop lo).Pairwise (kle b)):Rng b arr lo arr.size:=λi j x y h1 h2 L B D=>by
 refine ZbG (i:=i-lo) (j:=j-lo) W h (by lia) ?_ ?_
 ·rw [Yee,Ycx h1,Ybx];exact B
 ·rw [Yee,Ycx (Ycb h1 h2),Ybx];exact D
theorem Vf (W:WO b){left:Bool}{key:Keyed}{arr:Array Keyed}{base n:Nat}(Y:good key)(L:∀i,i<n->∃x,arr[base+i]?=some x/\good x)(h:Rng b arr base (base+n)):Gal b good left key arr base n:=by
 refine ⟨Y,L,λi j h1 h2 B=>?_⟩;obtain ⟨x,O,_⟩:=L i (by lia);obtain ⟨y,U,_⟩:=L j h2;have D:=h (base+i) (base+j) x y (by lia) (by lia) (by lia) O U;unfold byd at B ⊢;rw [U] at B;rw [O];dsimp only at B ⊢;cases left with
 | true=>
  rw [if_pos rfl] at B ⊢;rcases W.neg y x key B with z | z
  ·rw [show b y x=false from D] at z;cases z
  ·exact z
 | false=>
  rw [if_neg Yas] at B ⊢;rw [Bool.not_eq_true'] at B ⊢;exact W.le_trans (x:=x) (y:=y) (z:=key) D B
variable {a c:Array Keyed}
theorem Yj {arr:Array Keyed}{base k:Nat}{x:Keyed}(h:x∈(arr.toList.drop base).take k):∃i,i<k/\arr[base+i]?=some x:=by
 obtain ⟨i,hi⟩:=Ydt.mp h;rw [Yef] at hi;split at hi
 ·rw [Yee,Ybx] at hi;exact ⟨i,by assumption,hi⟩
 ·cases hi
theorem Yk {arr:Array Keyed}{base:Nat}{x:Keyed}(h:x∈arr.toList.drop base):∃i,base+i<arr.size/\arr[base+i]?=some x:=by
 obtain ⟨i,hi⟩:=Ydt.mp h;rw [Yee,Ybx] at hi;exact ⟨i,(Array.getElem?_eq_some_iff.mp hi).1,hi⟩
section
variable {out:Array Keyed}{ia ib:Nat}{st:SortSt}{Q:ForInStep MLt->SortSt->Prop}
structure ZbH (b:Keyed->Keyed->Bool)(a c:Array Keyed)(n:Nat)(st:SortSt)(Q:ForInStep MLt->SortSt->Prop):Prop where
 fin:∀r y st',SameG st st'->Ju b (a.toList++c.toList) r.toList->Q (.done (some r,y)) st'
 brk:∀out' ia' ib' y st',SameG st st'->ML b a c out' ia' ib'->ia'+1<a.size->ib'<c.size->n<=out'.size->Q (.done (none,out',ia',ib',y)) st'
 go:∀out' ia' ib' y st',SameG st st'->ML b a c out' ia' ib'->ia'+1<a.size->ib'<c.size->n<=out'.size->Q (.yield (none,out',ia',ib',y)) st'
theorem Z2 (T:Two b good a c){mg D k n:Nat}(R:ZbH b a c n st Q)(h:ML b a c out ia ib)(h1:ia+1<a.size)(h2:ib<c.size)(O:n<=out.size)(L:∀x,a[ia]?=some x->∀y∈c.toList.drop ib,kle b x y) :
  wpS M A E s (mlD a c mg D k out ia ib) Q st:=by
 unfold mlD;obtain ⟨x,B,U⟩:=T.at (i:=ia) (by lia);refine Yac (GB B ?_);have h':=h.pushA B (L x B);have j:n<=(out.push x).size:=by rw [Ycm];lia
 dsimp only;split
 ·rename_i e;exact Yae (R.fin _ _ _ (SameG.refl _) (h'.last T (eq_of_beq e)))
 ·rename_i e;have e:ia+1+1<a.size:=by
   have:ia+1+1≠a.size:=λz=>e (Ybf.mpr z)
   lia
  split
  ·exact Yae (R.brk _ _ _ _ _ (SameG.refl _) h' e h2 j)
  ·exact Yae (R.go _ _ _ _ _ (SameG.refl _) h' e h2 j)
theorem Z3 (W:WO b)(L:Ui M A E s kd b good)(T:Two b good a c){mg ac bc n:Nat}(R:ZbH b a c n st Q)(hs:kindOf st=kd)(h:ML b a c out ia ib)(h1:ia+1<a.size)(h2:ib<c.size)(hn:n<=out.size)(hl:∀x,c[ib]?=some x->∀y∈a.toList.drop ia,kle b x y):wpS M A E s (mlC a c mg ac bc out ia ib) Q st:=by
 unfold mlC;obtain ⟨x,Z,gx⟩:=T.ct h2;obtain ⟨y,D,gy⟩:=T.at (i:=ia) (by lia);refine Yac (GB Z ?_);have h':=h.pushB Z (hl x Z);have O:n<=(out.push x).size:=by rw [Ycm];lia
 generalize out.push x=U at h' O;dsimp only;split
 ·rename_i e;exact Yae (R.fin _ _ _ (SameG.refl _) (h'.done (.inl (eq_of_beq e))))
 ·rename_i e;have e:ib+1<c.size:=by
   have:ib+1≠c.size:=λz=>e (Ybf.mpr z)
   lia
  refine Yac (GB D ?_);have sB:Rng b c (ib+1) c.size:=ZcI W h'.sb;have sA:(a.toList.drop ia).Pairwise (kle b):=h'.sa;rw [JH D] at sA;have G:Gal b good true y c (ib+1) (c.size-(ib+1)):=Vf W gy (λi hi=>T.ct (by lia)) (by rw [Ycx (by lia)];exact sB);refine Yac (JD L G hs (by lia) λk hk k1 k2=>?_);dsimp only;have tk:∀z∈(c.toList.drop (ib+1)).take k,∀v∈a.toList.drop ia,kle b z v:=λz hz v B=>by
   obtain ⟨i,hi,ez⟩:=Yj hz;have:=k1 i hi;unfold byd at this;rw [ez] at this;dsimp only at this;rw [if_pos rfl] at this;rw [JH D] at B;exact W.le_trans (W.le_of_lt this) (VI W sA v B)
  have tr:∀v∈c.toList.drop (ib+1+k),kle b y v:=λv B=>by
   obtain ⟨i,hi,ev⟩:=Yk B;have:=k2 (k+i) (by lia) (by lia);unfold byd at this;rw [show ib+1+(k+i)=ib+1+k+i by lia,ev] at this;dsimp only at this;rw [if_pos rfl] at this;exact this
  split
  ·have h3:=h'.takeB tk;have aa:n<=(U++c.extract (ib+1) (ib+1+k)).size:=by rw [Array.size_append];lia
   split
   ·rename_i Y;exact Yae (R.fin _ _ _ (SameG.refl _) (h3.done (.inl (eq_of_beq Y))))
   ·rename_i Y;have Y:ib+1+k<c.size:=by
     have:ib+1+k≠c.size:=λz=>Y (Ybf.mpr z)
     lia
    exact Z2 T R h3 h1 Y aa λx' j v B=>by
     rw [D] at j;cases j;exact tr v B
  ·rename_i ab;have:k=0:=by lia
   subst this;exact Z2 T R h' h1 e O λx' j v B=>by
    rw [D] at j;cases j;exact tr v B
theorem Zdn (W:WO b)(L:Ui M A E s kd b good)(T:Two b good a c){mg ac bc n:Nat}(R:∀O,SameG st O->ZbH b a c n O Q)(hs:kindOf st=kd)(h:ML b a c out ia ib)(h1:ia+1<a.size)(h2:ib<c.size)(hn:n<=out.size) :
  wpS M A E s (mlB a c mg ac bc out ia ib) Q st:=by
 unfold mlB;refine Yac (Oo λU sg=>?_);have R:=R U sg;have D:kindOf U=kd:=sg.1.trans hs;obtain ⟨x,Y,gx⟩:=T.ct h2;refine Yac (GB Y ?_);have sA:Rng b a ia a.size:=ZcI W h.sa;have sB:(c.toList.drop ib).Pairwise (kle b):=h.sb;rw [JH Y] at sB;have G:Gal b good false x a ia (a.size-ia):=Vf W gx (λi hi=>T.at (by lia)) (by rw [Ycx (by lia)];exact sA);refine Yac (JD L G D (by lia) λk hk k1 k2=>?_);dsimp only;have tk:∀z∈(a.toList.drop ia).take k,∀v∈c.toList.drop ib,kle b z v:=λz hz v B=>by
  obtain ⟨i,hi,ez⟩:=Yj hz;have:=k1 i hi;unfold byd at this;rw [ez] at this;dsimp only at this;rw [if_neg Yas,Bool.not_eq_true'] at this;rw [JH Y] at B;exact W.le_trans this (VI W sB v B)
 have tr:∀v∈a.toList.drop (ia+k),kle b x v:=λv B=>by
  obtain ⟨i,hi,ev⟩:=Yk B;have:=k2 (k+i) (by lia) (by lia);unfold byd at this;rw [show ia+(k+i)=ia+k+i by lia,ev] at this;dsimp only at this;rw [if_neg Yas,Bool.not_eq_false'] at this;exact W.le_of_lt this
 split
 ·have Z:=h.takeA tk;have aa:n<=(out++a.extract ia (ia+k)).size:=by rw [Array.size_append];lia
  split
  ·rename_i e2;exact Yae (R.fin _ _ _ (SameG.refl _) (Z.last T (eq_of_beq e2)))
  ·rename_i e2;split
   ·rename_i e3;exact Yae (R.fin _ _ _ (SameG.refl _) (Z.done (.inr (eq_of_beq e3))))
   ·rename_i e3;have e4:ia+k+1<a.size:=by
     have:ia+k+1≠a.size:=λz=>e2 (Ybf.mpr z);have:ia+k≠a.size:=λz=>e3 (Ybf.mpr z)
     lia
    exact Z3 W L T R D Z e4 h2 aa λx' j v B=>by
     rw [Y] at j;cases j;exact tr v B
 ·have:k=0:=by lia
  subst this;exact Z3 W L T R D h h1 h2 hn λx' j v B=>by
   rw [Y] at j;cases j;exact tr v B
end
theorem Z4 (W:WO b)(L:Ui M A E s kd b good)(T:Two b good a c){out:Array Keyed}{ia ib n:Nat}{y:Nat×Nat×Nat}{st:SortSt}(hs:kindOf st=kd)(h:ML b a c out ia ib)(h1:ia+1<a.size)(h2:ib<c.size){Q:MLt->SortSt->Prop}(q1:∀r y D,SameG st D->Ju b (a.toList++c.toList) r.toList->Q (some r,y) D)(q2:∀B O U y D,SameG st D->ML b a c B O U->O+1<a.size->U<c.size->out.size<=B.size->Q (none,B,O,U,y) D) :
  wpS M A E s (forIn [:n] ((none,out,ia,ib,y):MLt) (ZbE a c)) Q st:=by
 refine Ybz (λk r D=>SameG st D/\∃B O U y,r=(none,B,O,U,y)/\ML b a c B O U/\O+1<a.size/\U<c.size/\out.size<=B.size) ?_ ?_ ⟨SameG.refl _,_,_,_,_,rfl,h,h1,h2,Yad _⟩
 ·rintro k r Y _ hk ⟨sg,B,O,U,y,rfl,h,h1,h2,h3⟩;have ab:kindOf Y=kd:=sg.1.trans hs;have R:∀D,SameG Y D->ZbH b a c out.size D (λr D=>match r with
   | .done c'=>Q c' D
   | .yield c'=>SameG st D/\∃B O U y,c'=(none,B,O,U,y)/\ML b a c B O U/\O+1<a.size/\U<c.size/\out.size<=B.size):=λD aa=>
   ⟨λr y Z g m=>q1 r y Z ((sg.trans aa).trans g) m,λo i j y Z g m p1 p2 p3=>q2 o i j y Z ((sg.trans aa).trans g) m p1 p2 p3,λo i j y Z g m p1 p2 p3=>⟨(sg.trans aa).trans g,o,i,j,y,rfl,m,p1,p2,p3⟩⟩
  unfold ZbE;dsimp only;have mono:∀mg,wpS M A E s (mlB a c mg y.2.1 y.2.2 B O U) _ Y:=λmg=>Zdn W L T R ab h h1 h2 h3;split
  ·exact wpS_mono (mono _) λr D hr=>by cases r <;> exact hr
  ·exact wpS_mono (mono _) λr D hr=>by cases r <;> exact hr
 ·rintro r Y ⟨sg,B,O,U,y,rfl,h,h1,h2,h3⟩;exact q2 _ _ _ _ _ sg h h1 h2 h3
theorem Xx (W:WO b)(L:Ui M A E s kd b good)(T:Two b good a c){st:SortSt}(hs:kindOf st=kd){Q:Array Keyed->SortSt->Prop}(q:∀r U,SameG st U->Ju b (a.toList++c.toList) r.toList->Q r U):wpS M A E s (VE a c) Q st:=by
 rw [Xw];refine Yac (wpS_lift (wpAny_rule ⟨rfl,?_⟩));obtain ⟨x,hx,gx⟩:=T.ct T.nc;refine Yac (GB hx ?_);have h0:ML b a c #[x] 0 1:=by
  have z:ML b a c #[] 0 0:=⟨by simp,by simp,by simp,by simpa using T.sa,by simpa using T.sc⟩;exact z.pushB hx λy hy=>T.first x hx y (by simpa using hy)
 have hc:=T.nc;have ha:=T.na;dsimp only;split
 ·rename_i e;exact Yae (q _ _ (SameG.refl _) (h0.done (.inl (eq_of_beq e))))
 ·rename_i e;have e:1<c.size:=by
   have:1≠c.size:=λz=>e (Ybf.mpr z)
   lia
  split
  ·rename_i Y;exact Yae (q _ _ (SameG.refl _) (h0.last T (eq_of_beq Y)))
  ·rename_i Y;have Y:0+1<a.size:=by
    have:0+1≠a.size:=λz=>Y (Ybf.mpr z)
    lia
   refine Yac (wpS_get ?_);refine Yac (Ybz (λk r U=>SameG st U/\∃B D O mg,r=(none,B,D,O,mg)/\ML b a c B D O/\D+1<a.size/\O<c.size/\k<B.size) ?_ ?_ ⟨SameG.refl _,_,_,_,_,rfl,h0,Y,e,by simp⟩)
   ·rintro k r Z _ hk ⟨sg,B,D,O,mg,rfl,h,h1,h2,h3⟩;have aa:kindOf Z=kd:=sg.1.trans hs;unfold ZbF;dsimp only;refine Yac (Z1 W L T aa h h1 h2 (λr y ab g m=>?_) (λo i j ac bc ab g m p1 p2 p3=>?_))
    ·refine Yae ?_;dsimp only;exact Yae (q r ab (sg.trans g) m)
    ·dsimp only;refine Yac (wpS_lift (wpAny_rule ⟨rfl,?_⟩));refine Yac (Z4 W L T (g.1.trans aa) m p1 p2 (λr y ad g3 m3=>?_) (λo3 i3 j3 y3 ad g3 m3 r1 r2 r3=>?_))
     ·refine Yae ?_;dsimp only;exact Yae (q r ad ((sg.trans g).trans g3) m3)
     ·dsimp only;refine Yac (Oo λae g4=>?_);exact Yae ⟨((sg.trans g).trans g3).trans g4,_,_,_,_,rfl,m3,r1,r2,by lia⟩
   ·rintro r Z ⟨sg,B,D,O,mg,rfl,h,h1,h2,h3⟩;exfalso;have:=Mrg.len h;rw [Yag,Ydw,Ydw,Ybd,Ybd,Ybd] at this;simp at h3
    lia
end
noncomputable abbrev MHs:=Option (Array Keyed)×Nat×Nat×Array Keyed×Nat×Nat
noncomputable abbrev MHt:=Option (Array Keyed)×Nat×Nat×Array Keyed×Nat×Nat×Nat
noncomputable abbrev MHo:=Option (Array Keyed)×Nat×Nat×Array Keyed×Nat
noncomputable def OB (a b out:Array Keyed)(na nb:Nat):Array Keyed:=a.extract 0 na++b.extract 0 nb++out.reverse
noncomputable def O8 (a b out:Array Keyed)(na nb:Nat):Array Keyed:=b.extract 0 nb++a.extract 0 na++out.reverse
noncomputable def ZbI (a b:Array Keyed)(mg:Nat):Nat->MHs->StateT SortSt Sem (ForInStep MHs):=λ_ r=>
 let na:=r.2.1;let nb:=r.2.2.1;let out:=r.2.2.2.1;let qZ:=r.2.2.2.2.1;let qX:=r.2.2.2.2.2
 do
 let x <- elem' b (nb-1)
 let y <- elem' a (na-1)
 match <- lt' x y with
 | some aWins=>
  if aWins=true then do
   let na:=na-1
   let z <- elem' a na
   let out:=out.push z
   let qZ:=qZ+1
   let qX:=0
   if (na == 0)=true then pure (.done (some (OB a b out na nb),na,nb,out,qZ,qX))
   else if qZ>=mg then pure (.done (none,na,nb,out,qZ,qX))
   else pure (.yield (none,na,nb,out,qZ,qX))
  else do
   let nb:=nb-1
   let z <- elem' b nb
   let out:=out.push z
   let qX:=qX+1
   let qZ:=0
   if (nb == 1)=true then pure (.done (some (O8 a b out na nb),na,nb,out,qZ,qX))
   else if qX>=mg then pure (.done (none,na,nb,out,qZ,qX))
   else pure (.yield (none,na,nb,out,qZ,qX))
 | _=>pure (.done (some (OB a b out na nb),na,nb,out,qZ,qX))
noncomputable def mhD (a b:Array Keyed)(D j B:Nat)(na nb:Nat)(out:Array Keyed):StateT SortSt Sem (ForInStep MHt):=do
 let na:=na-1
 let z <- elem' a na
 let out:=out.push z
 if (na == 0)=true then pure (.done (some (OB a b out na nb),na,nb,out,D,j,B))
 else if (decide (j<7) && decide (B<7))=true then pure (.done (none,na,nb,out,D,j,B))
 else pure (.yield (none,na,nb,out,D,j,B))
noncomputable def mhC (a b:Array Keyed)(B D j:Nat)(na nb:Nat)(out:Array Keyed):StateT SortSt Sem (ForInStep MHt):=do
 let nb:=nb-1
 let z <- elem' b nb
 let out:=out.push z
 if (nb == 1)=true then pure (.done (some (O8 a b out na nb),na,nb,out,B,D,j))
 else do
  let y <- elem' a (na-1)
  match <- Oc true y b 0 nb (nb-1) with
  | some at_=>
   let k:=nb-at_
   let j:=k
   if k > 0 then
    let out:=out++(b.extract at_ nb).reverse
    let nb:=at_
    if (nb == 1)=true then pure (.done (some (O8 a b out na nb),na,nb,out,B,D,j))
    else if (nb == 0)=true then pure (.done (some (OB a b out na nb),na,nb,out,B,D,j))
    else mhD a b B D j na nb out
   else mhD a b B D j na nb out
  | _=>pure (.done (some (OB a b out na nb),na,nb,out,B,D,j))
noncomputable def mhB (a b:Array Keyed)(j B D:Nat)(na nb:Nat)(out:Array Keyed):StateT SortSt Sem (ForInStep MHt):=do
 UI j
 let x <- elem' b (nb-1)
 match <- Oc false x a 0 na (na-1) with
 | some at_=>
  let k:=na-at_
  let B:=k
  if k > 0 then
   let out:=out++(a.extract at_ na).reverse
   let na:=at_
   if (na == 0)=true then pure (.done (some (OB a b out na nb),na,nb,out,j,B,D))
   else mhC a b j B D na nb out
  else mhC a b j B D na nb out
 | _=>pure (.done (some (OB a b out na nb),na,nb,out,j,B,D))
noncomputable def ZbJ (a b:Array Keyed):Nat->MHt->StateT SortSt Sem (ForInStep MHt):=λ_ r=>
 let na:=r.2.1;let nb:=r.2.2.1;let out:=r.2.2.2.1;let qJ:=r.2.2.2.2.1;let qZ:=r.2.2.2.2.2.1;let qX:=r.2.2.2.2.2.2
 if qJ > 1 then mhB a b (qJ-1) qZ qX na nb out else mhB a b qJ qZ qX na nb out
noncomputable def ZbK (a b:Array Keyed):Nat->MHo->StateT SortSt Sem (ForInStep MHo):=λ_ r=>
 let na:=r.2.1;let nb:=r.2.2.1;let out:=r.2.2.2.1;let qJ:=r.2.2.2.2
 do
 let r <- forIn [:a.size+b.size] ((none,na,nb,out,0,0):MHs) (ZbI a b qJ)
 match r.1 with
 | some x=>pure (.done (some x,r.2.1,r.2.2.1,r.2.2.2.1,qJ))
 | none=>do
  liftM (rule "list.sort.gallop")
  let r <- forIn [:a.size+b.size] ((none,r.2.1,r.2.2.1,r.2.2.2.1,qJ+1,r.2.2.2.2.1,r.2.2.2.2.2):MHt) (ZbJ a b)
  match r.1 with
  | some x=>pure (.done (some x,r.2.1,r.2.2.1,r.2.2.2.1,r.2.2.2.2.1))
  | none=>do
   UI (r.2.2.2.2.1+1)
   pure (.yield (none,r.2.1,r.2.2.1,r.2.2.2.1,r.2.2.2.2.1+1))
theorem Xy (a b:Array Keyed):VF a b=(do
  liftM (rule "list.sort.merge-hi")
  let x <- elem' a (a.size-1)
  let out:=#[x]
  if (a.size-1 == 0)=true then pure (OB a b out (a.size-1) b.size)
  else if (b.size == 1)=true then pure (O8 a b out (a.size-1) b.size)
  else do
   let st <- get
   let r <- forIn [:a.size+b.size] ((none,a.size-1,b.size,out,gallopOf st):MHo) (ZbK a b)
   match r.1 with
   | some r=>pure r
   | none=>liftM (unsupported "internal:list.sort.merge-bound")):=by
 refine Jm (m:=liftM (rule "list.sort.merge-hi")) λ_=>?_;refine Jm (m:=elem' a (a.size-1)) λx=>?_;refine VH (c:=(a.size-1 == 0)=true) rfl ?_;refine VH (c:=(b.size == 1)=true) rfl ?_;refine Jm (m:=get) λst=>?_;refine (Ybi (λm:StateT SortSt Sem MHo=>m >>= _) (UJ (r:=[:a.size+b.size]) (c:=((none,a.size-1,b.size,#[x],gallopOf st):MHo)) (g:=ZbK a b) λi r=>?_)).trans ?_;rotate_left
 ·refine Jm λr=>?_;obtain ⟨B,L⟩:=r;cases B <;> rfl
 unfold ZbK;refine (Ybi (λm:StateT SortSt Sem MHs=>m >>= _) (UJ (r:=[:a.size+b.size]) (g:=ZbI a b r.2.2.2.2) λi r=>rfl)).trans ?_;refine Jm λq=>?_;obtain ⟨j,D⟩:=q;cases j with
 | some z=>rfl
 | none=>
  refine Jm (m:=liftM (rule "list.sort.gallop")) λ_=>?_;refine (Ybi (λm:StateT SortSt Sem MHt=>m >>= _) (UJ (r:=[:a.size+b.size]) (g:=ZbJ a b) λi r=>rfl)).trans ?_;refine Jm λq=>?_;obtain ⟨j,D⟩:=q;cases j <;> rfl
section
variable {b:Keyed->Keyed->Bool}
structure MrgH (b:Keyed->Keyed->Bool)(all out ra rb:List Keyed):Prop where
 perm:(ra++rb++out).Perm all
 so:out.Pairwise (kle b)
 le:∀x∈ra++rb,∀y∈out,kle b x y
 sa:ra.Pairwise (kle b)
 sb:rb.Pairwise (kle b)
theorem MrgH.len {all out j B:List Keyed}(h:MrgH b all out j B):j.length+B.length+out.length=all.length:=by
 have:=h.perm.length_eq;rw [Yag,Yag] at this;exact this
theorem MrgH.moveB {all out u D O:List Keyed}(h:MrgH b all out D (O++u))(U:∀x∈u,∀y∈D,kle b y x):MrgH b all (u++out) D O:=by
 have L:=Ybu.mp h.sb;refine ⟨?_,Ybu.mpr ⟨L.2.1,h.so,λx j y B=>h.le x (by simp [j]) y B⟩,λx j y B=>?_,h.sa,L.1⟩
 ·have:=h.perm;simp only [Ybg] at this ⊢;exact this
 ·rcases Yah.mp B with B | B
  ·rcases Yah.mp j with j | j
   ·exact U y B x j
   ·exact L.2.2 x j y B
  ·refine h.le x ?_ y B;rcases Yah.mp j with j | j <;> simp [j]
theorem MrgH.moveA {all out u O D:List Keyed}(h:MrgH b all out (O++u) D)(U:∀x∈u,∀y∈D,kle b y x):MrgH b all (u++out) O D:=by
 have L:=Ybu.mp h.sa;refine ⟨?_,Ybu.mpr ⟨L.2.1,h.so,λx j y B=>h.le x (by simp [j]) y B⟩,λx j y B=>?_,L.1,h.sb⟩
 ·refine List.Perm.trans ?_ h.perm;simp only [Ybg];refine List.Perm.append_left _ ?_;rw [<-Ybg,<-Ybg];exact List.Perm.append_right _ List.perm_append_comm
 ·rcases Yah.mp B with B | B
  ·rcases Yah.mp j with j | j
   ·exact L.2.2 x j y B
   ·exact U y B x j
  ·refine h.le x ?_ y B;rcases Yah.mp j with j | j <;> simp [j]
theorem MrgH.endA {all out j B:List Keyed}(h:MrgH b all out j B)(hz:∀x∈j,∀y∈B,kle b x y):Ju b all (j++B++out):=
 ⟨h.perm,Ybu.mpr ⟨Ybu.mpr ⟨h.sa,h.sb,hz⟩,h.so,h.le⟩⟩
theorem MrgH.endB {all out B D:List Keyed}(h:MrgH b all out B D)(hz:∀x∈D,∀y∈B,kle b x y):Ju b all (D++B++out):=by
 refine ⟨List.Perm.trans (List.Perm.append_right _ List.perm_append_comm) h.perm,Ybu.mpr ⟨Ybu.mpr ⟨h.sb,h.sa,hz⟩,h.so,λx j y L=>h.le x ?_ y L⟩⟩;rcases Yah.mp j with j | j <;> simp [j]
end
theorem Yl (a:Array Keyed)(k:Nat):(a.extract 0 k).toList=a.toList.take k:=by
 rw [Yeb,Yec,List.drop_zero,Nat.sub_zero]
theorem Z5 (a:Array Keyed){i j:Nat}(h:i<=j):a.toList.take j=a.toList.take i++(a.extract i j).toList:=by
 rw [Yeb,Yec];have:=Ycw i (a.toList.take j);rw [List.take_take,Ydr h,List.drop_take] at this;exact this.symm
theorem Z6 {a:Array Keyed}{i:Nat}{x:Keyed}(h:a[i]?=some x):a.toList.take (i+1)=a.toList.take i++[x]:=by
 rw [<-Ybx] at h;rw [Ybs,h]
 rfl
theorem ZbL {arr:Array Keyed}{k:Nat}{x:Keyed}(h:x∈arr.toList.take k):∃i,i<k/\arr[i]?=some x:=by
 obtain ⟨i,hi⟩:=Ydt.mp h;rw [Yef] at hi;split at hi
 ·rw [Ybx] at hi;exact ⟨i,by assumption,hi⟩
 ·cases hi
theorem Xz {arr:Array Keyed}{i j:Nat}{x:Keyed}(h:x∈(arr.extract i j).toList):∃k,i<=k/\k<j/\arr[k]?=some x:=by
 rw [Yeb,Yec] at h;obtain ⟨k,B⟩:=Ydt.mp h;rw [Yef] at B;split at B
 ·rw [Yee,Ybx] at B;exact ⟨i+k,by lia,by lia,B⟩
 ·cases B
section
variable {M:Model}{A:Around}{E:EX}{s:Shared}{kd:SortKind}{b:Keyed->Keyed->Bool}{good:Keyed->Prop}{a c:Array Keyed}
noncomputable def MH (b:Keyed->Keyed->Bool)(a c:Array Keyed)(na nb:Nat)(out:Array Keyed):Prop:=MrgH b (a.toList++c.toList) out.toList.reverse (a.toList.take na) (c.toList.take nb)
theorem Z7 (W:WO b){arr:Array Keyed}{hi:Nat}(h:(arr.toList.take hi).Pairwise (kle b)):Rng b arr 0 (0+hi):=λi j x y h1 h2 L B D=>by
 refine ZbG (i:=i) (j:=j) W h h2 ?_ ?_
 ·rw [Yef,if_pos (by lia),Ybx];exact B
 ·rw [Yef,if_pos (by lia),Ybx];exact D
theorem MH.done {out:Array Keyed}{na nb:Nat}(h:MH b a c na nb out)(e:na=0\/nb=0):Ju b (a.toList++c.toList) (OB a c out na nb).toList:=by
 unfold OB;rw [Ycl,Ycl,Yl,Yl,Ydk];refine MrgH.endA h λx j y B=>?_;rcases e with e | e
 ·rw [e] at j;simp at j
 ·rw [e] at B;simp at B
theorem MH.first {out:Array Keyed}{na nb:Nat}(T:Two b good a c)(h:MH b a c na nb out)(e:nb=1):Ju b (a.toList++c.toList) (O8 a c out na nb).toList:=by
 unfold O8;rw [Ycl,Ycl,Yl,Yl,Ydk];refine MrgH.endB h λx j y B=>?_;obtain ⟨i,hi,ex⟩:=ZbL j;have:i=0:=by lia
 subst this;exact T.first x ex y (List.mem_of_mem_take B)
theorem MH.pushB {out:Array Keyed}{na nb:Nat}{x:Keyed}(h:MH b a c na (nb+1) out)(j:c[nb]?=some x)(B:∀y∈a.toList.take na,kle b y x):MH b a c na nb (out.push x):=by
 unfold MH at h ⊢;rw [Yed,List.reverse_append];rw [Z6 j] at h;exact MrgH.moveB (u:=[x]) h λz D y L=>by
  have:z=x:=by simpa using D
  subst this;exact B y L
theorem MH.pushA {out:Array Keyed}{na nb:Nat}{x:Keyed}(h:MH b a c (na+1) nb out)(j:a[na]?=some x)(B:∀y∈c.toList.take nb,kle b y x):MH b a c na nb (out.push x):=by
 unfold MH at h ⊢;rw [Yed,List.reverse_append];rw [Z6 j] at h;exact MrgH.moveA (u:=[x]) h λz D y L=>by
  have:z=x:=by simpa using D
  subst this;exact B y L
theorem MH.takeA {out:Array Keyed}{na nb k:Nat}(h:MH b a c na nb out)(j:k<=na)(B:∀x∈(a.extract k na).toList,∀y∈c.toList.take nb,kle b y x):MH b a c k nb (out++(a.extract k na).reverse):=by
 unfold MH at h ⊢;rw [Ycl,Ydk,List.reverse_append,List.reverse_reverse];rw [Z5 a j] at h;exact MrgH.moveA h B
theorem MH.takeB {out:Array Keyed}{na nb k:Nat}(h:MH b a c na nb out)(j:k<=nb)(B:∀x∈(c.extract k nb).toList,∀y∈a.toList.take na,kle b y x):MH b a c na k (out++(c.extract k nb).reverse):=by
 unfold MH at h ⊢;rw [Ycl,Ydk,List.reverse_append,List.reverse_reverse];rw [Z5 c j] at h;exact MrgH.moveB h B
theorem VJ (W:WO b){arr:Array Keyed}{k:Nat}{x:Keyed}(h:(arr.toList.take (k+1)).Pairwise (kle b))(j:arr[k]?=some x):∀y∈arr.toList.take (k+1),kle b y x:=λy B=>by
 obtain ⟨i,hi,D⟩:=ZbL B;exact Z7 W h i k y x (Yan _) (by lia) (by lia) D j
theorem Z8 (W:WO b)(L:Ui M A E s kd b good)(T:Two b good a c){out:Array Keyed}{na nb mg:Nat}{st:SortSt}(hs:kindOf st=kd)(h:MH b a c na nb out)(h1:0<na/\na<=a.size)(h2:1<nb/\nb<=c.size){Q:MHs->SortSt->Prop}(q1:∀r y O,SameG st O->Ju b (a.toList++c.toList) r.toList->Q (some r,y) O)(q2:∀j B D Z bc O,SameG st O->MH b a c j B D->(0<j/\j<=a.size)->(1<B/\B<=c.size)->out.size<D.size->Q (none,j,B,D,Z,bc) O) :
  wpS M A E s (forIn [:a.size+c.size] ((none,na,nb,out,0,0):MHs) (ZbI a c mg)) Q st:=by
 refine Ybz (λk r O=>SameG st O/\∃j B D Z bc,r=(none,j,B,D,Z,bc)/\MH b a c j B D/\(0<j/\j<=a.size)/\(1<B/\B<=c.size)/\out.size+k<=D.size) ?_ ?_ ⟨SameG.refl _,_,_,_,_,_,rfl,h,h1,h2,Yad _⟩
 ·rintro k r Y _ hk ⟨U,j,B,D,Z,bc,rfl,h,h1,h2,h3⟩;have aa:kindOf Y=kd:=U.1.trans hs;obtain ⟨j,rfl⟩:∃n,j=n+1:=⟨j - 1,by lia⟩;obtain ⟨B,rfl⟩:∃n,B=n+1:=⟨B - 1,by lia⟩;unfold ZbI;dsimp only [Nat.add_sub_cancel];obtain ⟨x,hx,gx⟩:=T.ct (i:=B) (by lia);obtain ⟨y,hy,gy⟩:=T.at (i:=j) (by lia);refine Yac (GB hx (Yac (GB hy (Yac (L x y Y _ gx gy aa ?_)))));dsimp only;cases hb:b x y with
  | true=>
   rw [if_pos rfl];refine Yac (GB hy ?_);have h':=h.pushA hy λz hz=>W.le_trans (VJ W h.sb hx z hz) (W.le_of_lt hb);split
   ·rename_i e;exact Yae (q1 _ _ _ U (h'.done (.inl (eq_of_beq e))))
   ·rename_i e;have e:0<j:=by
     have:j≠0:=λz=>e (Ybf.mpr z)
     lia
    split
    ·exact Yae (q2 _ _ _ _ _ _ U h' ⟨e,by lia⟩ h2 (by rw [Ycm];lia))
    ·exact Yae ⟨U,_,_,_,_,_,rfl,h',⟨e,by lia⟩,h2,by rw [Ycm];lia⟩
  | false=>
   rw [if_neg Yas];refine Yac (GB hx ?_);have h':=h.pushB hx λz hz=>W.le_trans (VJ W h.sa hy z hz) hb;split
   ·rename_i e;exact Yae (q1 _ _ _ U (h'.first T (eq_of_beq e)))
   ·rename_i e;have e:1<B:=by
     have:B≠1:=λz=>e (Ybf.mpr z)
     lia
    split
    ·exact Yae (q2 _ _ _ _ _ _ U h' h1 ⟨e,by lia⟩ (by rw [Ycm];lia))
    ·exact Yae ⟨U,_,_,_,_,_,rfl,h',h1,⟨e,by lia⟩,by rw [Ycm];lia⟩
 ·rintro r Y ⟨U,j,B,D,Z,bc,rfl,h,h1,h2,h3⟩;exact q2 _ _ _ _ _ _ U h h1 h2 (by have:=T.na;simp at h3;lia)
section
variable {out:Array Keyed}{na nb:Nat}{st:SortSt}{Q:ForInStep MHt->SortSt->Prop}
structure ZbM (b:Keyed->Keyed->Bool)(a c:Array Keyed)(n:Nat)(st:SortSt)(Q:ForInStep MHt->SortSt->Prop):Prop where
 fin:∀r y st',SameG st st'->Ju b (a.toList++c.toList) r.toList->Q (.done (some r,y)) st'
 brk:∀na' nb' out' y st',SameG st st'->MH b a c na' nb' out'->(0<na'/\na'<=a.size)->(1<nb'/\nb'<=c.size)->n<=out'.size->Q (.done (none,na',nb',out',y)) st'
 go:∀na' nb' out' y st',SameG st st'->MH b a c na' nb' out'->(0<na'/\na'<=a.size)->(1<nb'/\nb'<=c.size)->n<=out'.size->Q (.yield (none,na',nb',out',y)) st'
theorem Z9 (T:Two b good a c){mg D L n:Nat}(R:ZbM b a c n st Q)(h:MH b a c (na+1) nb out)(h1:na+1<=a.size)(h2:1<nb/\nb<=c.size)(U:n<=out.size)(O:∀x,a[na]?=some x->∀y∈c.toList.take nb,kle b y x) :
  wpS M A E s (mhD a c mg D L (na+1) nb out) Q st:=by
 unfold mhD;dsimp only [Nat.add_sub_cancel];obtain ⟨x,B,Y⟩:=T.at (i:=na) (by lia);refine Yac (GB B ?_);have h':=h.pushA B (O x B);have j:n<=(out.push x).size:=by rw [Ycm];lia
 split
 ·rename_i e;exact Yae (R.fin _ _ _ (SameG.refl _) (h'.done (.inl (eq_of_beq e))))
 ·rename_i e;have e:0<na:=by
   have:na≠0:=λz=>e (Ybf.mpr z)
   lia
  split
  ·exact Yae (R.brk _ _ _ _ _ (SameG.refl _) h' ⟨e,by lia⟩ h2 j)
  ·exact Yae (R.go _ _ _ _ _ (SameG.refl _) h' ⟨e,by lia⟩ h2 j)
theorem Zaa (W:WO b)(L:Ui M A E s kd b good)(T:Two b good a c){mg ac bc n:Nat}(R:ZbM b a c n st Q)(hs:kindOf st=kd)(h:MH b a c (na+1) (nb+1) out)(h1:na+1<=a.size)(h2:0<nb/\nb+1<=c.size)(hn:n<=out.size)(hl:∀x,c[nb]?=some x->∀y∈a.toList.take (na+1),kle b y x):wpS M A E s (mhC a c mg ac bc (na+1) (nb+1) out) Q st:=by
 unfold mhC;dsimp only [Nat.add_sub_cancel];obtain ⟨x,Y,gx⟩:=T.ct (i:=nb) (by lia);obtain ⟨y,U,gy⟩:=T.at (i:=na) (by lia);refine Yac (GB Y ?_);have h':=h.pushB Y (hl x Y);have D:n<=(out.push x).size:=by rw [Ycm];lia
 generalize out.push x=O at h' D;split
 ·rename_i e;exact Yae (R.fin _ _ _ (SameG.refl _) (h'.first T (eq_of_beq e)))
 ·rename_i e;have e:1<nb:=by
   have:nb≠1:=λz=>e (Ybf.mpr z)
   lia
  refine Yac (GB U ?_);have G:Gal b good true y c 0 nb:=Vf W gy (λi hi=>by rw [Ydl];exact T.ct (by lia)) (Z7 W h'.sb);refine Yac (JD L G hs (by lia) λk hk k1 k2=>?_);dsimp only;have tk:∀z∈(c.extract k nb).toList,∀v∈a.toList.take (na+1),kle b v z:=λz hz v B=>by
   obtain ⟨i,hi,hj,ez⟩:=Xz hz;have:=k2 i hi hj;unfold byd at this;rw [Ydl,ez] at this;dsimp only at this;rw [if_pos rfl] at this;exact W.le_trans (VJ W h'.sa U v B) this
  have tr:∀v∈c.toList.take k,kle b v y:=λv B=>by
   obtain ⟨i,hi,ev⟩:=ZbL B;have:=k1 i hi;unfold byd at this;rw [Ydl,ev] at this;dsimp only at this;rw [if_pos rfl] at this;exact W.le_of_lt this
  split
  ·have Z:=h'.takeB hk tk;have aa:n<=(O++(c.extract k nb).reverse).size:=by rw [Array.size_append];lia
   split
   ·rename_i e2;exact Yae (R.fin _ _ _ (SameG.refl _) (Z.first T (eq_of_beq e2)))
   ·rename_i e2;split
    ·rename_i e3;exact Yae (R.fin _ _ _ (SameG.refl _) (Z.done (.inr (eq_of_beq e3))))
    ·rename_i e3;have e4:1<k:=by
      have:k≠1:=λz=>e2 (Ybf.mpr z);have:k≠0:=λz=>e3 (Ybf.mpr z)
      lia
     exact Z9 T R Z h1 ⟨e4,by lia⟩ aa λx' j v B=>by
      rw [U] at j;cases j;exact tr v B
  ·have:k=nb:=by lia
   subst this;exact Z9 T R h' h1 ⟨e,by lia⟩ D λx' j v B=>by
    rw [U] at j;cases j;exact tr v B
theorem Zdo (W:WO b)(L:Ui M A E s kd b good)(T:Two b good a c){mg ac bc n:Nat}(R:∀O,SameG st O->ZbM b a c n O Q)(hs:kindOf st=kd)(h:MH b a c na (nb+1) out)(h1:0<na/\na<=a.size)(h2:0<nb/\nb+1<=c.size)(hn:n<=out.size) :
  wpS M A E s (mhB a c mg ac bc na (nb+1) out) Q st:=by
 unfold mhB;refine Yac (Oo λU sg=>?_);have R:=R U sg;have B:kindOf U=kd:=sg.1.trans hs;dsimp only [Nat.add_sub_cancel];obtain ⟨x,Y,gx⟩:=T.ct (i:=nb) (by lia);refine Yac (GB Y ?_);have G:Gal b good false x a 0 na:=Vf W gx (λi hi=>by rw [Ydl];exact T.at (by lia)) (Z7 W h.sa);refine Yac (JD L G B (by lia) λk hk k1 k2=>?_);dsimp only;have tk:∀z∈(a.extract k na).toList,∀v∈c.toList.take (nb+1),kle b v z:=λz hz v D=>by
  obtain ⟨i,hi,hj,ez⟩:=Xz hz;have:=k2 i hi hj;unfold byd at this;rw [Ydl,ez] at this;dsimp only at this;rw [if_neg Yas,Bool.not_eq_false'] at this;exact W.le_trans (VJ W h.sb Y v D) (W.le_of_lt this)
 have tr:∀v∈a.toList.take k,kle b v x:=λv D=>by
  obtain ⟨i,hi,ev⟩:=ZbL D;have:=k1 i hi;unfold byd at this;rw [Ydl,ev] at this;dsimp only at this;rw [if_neg Yas,Bool.not_eq_true'] at this;exact this
 split
 ·have h3:=h.takeA hk tk;have Z:n<=(out++(a.extract k na).reverse).size:=by rw [Array.size_append];lia
  split
  ·rename_i e2;exact Yae (R.fin _ _ _ (SameG.refl _) (h3.done (.inl (eq_of_beq e2))))
  ·rename_i e2;have:k≠0:=λz=>e2 (Ybf.mpr z);obtain ⟨k,rfl⟩:∃n,k=n+1:=⟨k-1,by lia⟩;exact Zaa W L T R B h3 (by lia) h2 Z λx' j v D=>by
    rw [Y] at j;cases j;exact tr v D
 ·have:k=na:=by lia
  subst this;obtain ⟨k,rfl⟩:∃n,k=n+1:=⟨k-1,by lia⟩;exact Zaa W L T R B h (by lia) h2 hn λx' j v D=>by
   rw [Y] at j;cases j;exact tr v D
end
theorem Zab (W:WO b)(L:Ui M A E s kd b good)(T:Two b good a c){out:Array Keyed}{na nb n:Nat}{y:Nat×Nat×Nat}{st:SortSt}(hs:kindOf st=kd)(h:MH b a c na nb out)(h1:0<na/\na<=a.size)(h2:1<nb/\nb<=c.size){Q:MHt->SortSt->Prop}(q1:∀r y U,SameG st U->Ju b (a.toList++c.toList) r.toList->Q (some r,y) U)(q2:∀O D B y U,SameG st U->MH b a c O D B->(0<O/\O<=a.size)->(1<D/\D<=c.size)->out.size<=B.size->Q (none,O,D,B,y) U) :
  wpS M A E s (forIn [:n] ((none,na,nb,out,y):MHt) (ZbJ a c)) Q st:=by
 refine Ybz (λk r U=>SameG st U/\∃O D B y,r=(none,O,D,B,y)/\MH b a c O D B/\(0<O/\O<=a.size)/\(1<D/\D<=c.size)/\out.size<=B.size) ?_ ?_ ⟨SameG.refl _,_,_,_,_,rfl,h,h1,h2,Yad _⟩
 ·rintro k r Y _ hk ⟨sg,O,D,B,y,rfl,h,h1,h2,h3⟩;have ab:kindOf Y=kd:=sg.1.trans hs;have R:∀U,SameG Y U->ZbM b a c out.size U (λr U=>match r with
   | .done c'=>Q c' U
   | .yield c'=>SameG st U/\∃O D B y,c'=(none,O,D,B,y)/\MH b a c O D B/\(0<O/\O<=a.size)/\(1<D/\D<=c.size)/\out.size<=B.size):=λU aa=>
   ⟨λr y Z g m=>q1 r y Z ((sg.trans aa).trans g) m,λo i j y Z g m p1 p2 p3=>q2 o i j y Z ((sg.trans aa).trans g) m p1 p2 p3,λo i j y Z g m p1 p2 p3=>⟨(sg.trans aa).trans g,o,i,j,y,rfl,m,p1,p2,p3⟩⟩
  unfold ZbJ;dsimp only;obtain ⟨D,rfl⟩:∃n,D=n+1:=⟨D - 1,by lia⟩;have mono:∀mg,wpS M A E s (mhB a c mg y.2.1 y.2.2 O (D+1) B) _ Y:=λmg=>Zdo W L T R ab h h1 ⟨by lia,h2.2⟩ h3;split
  ·exact wpS_mono (mono _) λr U hr=>by cases r <;> exact hr
  ·exact wpS_mono (mono _) λr U hr=>by cases r <;> exact hr
 ·rintro r Y ⟨sg,O,D,B,y,rfl,h,h1,h2,h3⟩;exact q2 _ _ _ _ _ sg h h1 h2 h3
theorem XA (W:WO b)(L:Ui M A E s kd b good)(T:Two b good a c){st:SortSt}(hs:kindOf st=kd){Q:Array Keyed->SortSt->Prop}(q:∀r U,SameG st U->Ju b (a.toList++c.toList) r.toList->Q r U):wpS M A E s (VF a c) Q st:=by
 rw [Xy];refine Yac (wpS_lift (wpAny_rule ⟨rfl,?_⟩));have hc:=T.nc;have ha:=T.na;obtain ⟨x,hx,gx⟩:=T.at (i:=a.size-1) (by lia);refine Yac (GB hx ?_);have h0:MH b a c (a.size-1) c.size #[x]:=by
  have z:MH b a c (a.size-1+1) c.size #[]:=by
   unfold MH;rw [Nat.sub_add_cancel (by lia),Yek (by simp),Yek (by simp)];exact ⟨by simp,by simp,by simp,T.sa,T.sc⟩
  exact z.pushA hx λy hy=>T.last x hx y (List.mem_of_mem_take hy)
 dsimp only;split
 ·rename_i e;exact Yae (q _ _ (SameG.refl _) (h0.done (.inl (eq_of_beq e))))
 ·rename_i e;have e:0<a.size-1:=by
   have:a.size-1≠0:=λz=>e (Ybf.mpr z)
   lia
  split
  ·rename_i Y;exact Yae (q _ _ (SameG.refl _) (h0.first T (eq_of_beq Y)))
  ·rename_i Y;have Y:1<c.size:=by
    have:c.size≠1:=λz=>Y (Ybf.mpr z)
    lia
   refine Yac (wpS_get ?_);refine Yac (Ybz (λk r U=>SameG st U/\∃D O B mg,r=(none,D,O,B,mg)/\MH b a c D O B/\(0<D/\D<=a.size)/\(1<O/\O<=c.size)/\k<B.size) ?_ ?_ ⟨SameG.refl _,_,_,_,_,rfl,h0,⟨e,by lia⟩,⟨Y,Yad _⟩,by simp⟩)
   ·rintro k r Z _ hk ⟨sg,D,O,B,mg,rfl,h,h1,h2,h3⟩;have aa:kindOf Z=kd:=sg.1.trans hs;unfold ZbK;dsimp only;refine Yac (Z8 W L T aa h h1 h2 (λr y ab g m=>?_) (λo i j ac bc ab g m p1 p2 p3=>?_))
    ·refine Yae ?_;dsimp only;exact Yae (q r ab (sg.trans g) m)
    ·dsimp only;refine Yac (wpS_lift (wpAny_rule ⟨rfl,?_⟩));refine Yac (Zab W L T (g.1.trans aa) m p1 p2 (λr y ad g3 m3=>?_) (λo3 i3 j3 y3 ad g3 m3 r1 r2 r3=>?_))
     ·refine Yae ?_;dsimp only;exact Yae (q r ad ((sg.trans g).trans g3) m3)
     ·dsimp only;refine Yac (Oo λae g4=>?_);exact Yae ⟨((sg.trans g).trans g3).trans g4,_,_,_,_,rfl,m3,r1,r2,by lia⟩
   ·rintro r Z ⟨sg,D,O,B,mg,rfl,h,h1,h2,h3⟩;exfalso;have:=MrgH.len h;rw [Yag,Ybj,Ybj,List.length_reverse,Ybd,Ybd,Ybd] at this;simp at h3
    lia
end
noncomputable abbrev Asc:=Option (Option Nat)×Nat
noncomputable abbrev Dsc:=Option (Option Nat)×Nat×Nat
noncomputable def Zdp (lo:Nat):Nat->Asc->StateT SortSt Sem (ForInStep Asc):=λ_ r=>do
 match <- ltAt' (lo+r.2) (lo+r.2-1) with
 | some smaller=>if smaller=true then pure (.done (none,r.2)) else pure (.yield (none,r.2+1))
 | _=>pure (.done (some none,r.2))
noncomputable def Zgr (lo:Nat):Nat->Dsc->StateT SortSt Sem (ForInStep Dsc):=λ_ r=>do
 match <- ltAt' (lo+r.2.1) (lo+r.2.1-1) with
 | some smaller=>
  if smaller=true then
   if r.2.2 > 0 then do
    reverseSlice' (lo+r.2.1-(r.2.2+1)) (lo+r.2.1)
    pure (.yield (none,r.2.1+1,0))
   else pure (.yield (none,r.2.1+1,0))
  else do
   match <- ltAt' (lo+r.2.1-1) (lo+r.2.1) with
   | some larger=>if larger=true then pure (.done (none,r.2.1,r.2.2)) else pure (.yield (none,r.2.1+1,r.2.2+1))
   | _=>pure (.done (some none,r.2.1,r.2.2))
 | _=>pure (.done (some none,r.2.1,r.2.2))
noncomputable def WU (lo n j:Nat):StateT SortSt Sem (Option Nat):=do
 reverseSlice' lo (lo+n)
 let r <- forIn [n:j] ((none,n):Asc) (Zdp lo)
 match r.1 with
 | some x=>pure x
 | none=>pure (some r.2)
noncomputable def YW (lo n j:Nat):StateT SortSt Sem (Option Nat):=do
 liftM (rule "list.sort.descending-run")
 let r <- forIn [n+1:j] ((none,n+1,0):Dsc) (Zgr lo)
 match r.1 with
 | some x=>pure x
 | none=>(if r.2.2 > 0 then (do
   reverseSlice' (lo+r.2.1-(r.2.2+1)) (lo+r.2.1)
   WU lo r.2.1 j) else WU lo r.2.1 j)
theorem XB (lo B:Nat):countRun' lo B=(do
  let r <- forIn [1:B] ((none,1):Asc) (Zdp lo)
  match r.1 with
  | some x=>pure x
  | none=>(if (r.2 == B)=true then pure (some r.2) else (if r.2 > 1 then (do
    match <- ltAt' lo (lo+r.2-1) with
    | some rose=>(if rose=true then pure (some r.2) else (do
      reverseSlice' lo (lo+r.2)
      YW lo r.2 B))
    | _=>pure none)
   else YW lo r.2 B))):=by
 rw [countRun'_eq];refine (Ybi (λm:StateT SortSt Sem Asc=>m >>= _) (UJ (r:=[1:B]) (c:=((none,1):Asc)) (g:=Zdp lo) λi r=>rfl)).trans ?_;refine Jm λr=>?_;obtain ⟨D,j⟩:=r;cases D with
 | some z=>rfl
 | none=>
  refine VH (c:=(j == B)=true) rfl ?_;refine VH (c:=j > 1) ?_ ?_
  ·refine Jm λz=>?_;cases z with
   | none=>rfl
   | some z=>
    refine VH (c:=z=true) rfl ?_;refine Jm λ_=>?_;unfold YW;refine Jm λ_=>?_;refine (Ybi (λm:StateT SortSt Sem Dsc=>m >>= _) (UJ (r:=[j+1:B]) (c:=((none,j+1,0):Dsc)) (g:=Zgr lo) λi r=>rfl)).trans ?_;refine Jm λr=>?_;obtain ⟨D,j,L⟩:=r;cases D with
    | some z=>rfl
    | none=>
     refine VH (c:=L > 0) (Jm λ_=>?_) ?_
     all_goals
      unfold WU;refine Jm λ_=>?_;refine (Ybi (λm:StateT SortSt Sem Asc=>m >>= _) (UJ (r:=[j:B]) (c:=((none,j):Asc)) (g:=Zdp lo) λi r=>rfl)).trans ?_;refine Jm λr=>?_;obtain ⟨D,j⟩:=r;cases D <;> rfl
  ·unfold YW;refine Jm λ_=>?_;refine (Ybi (λm:StateT SortSt Sem Dsc=>m >>= _) (UJ (r:=[j+1:B]) (c:=((none,j+1,0):Dsc)) (g:=Zgr lo) λi r=>rfl)).trans ?_;refine Jm λr=>?_;obtain ⟨D,j,L⟩:=r;cases D with
   | some z=>rfl
   | none=>
    refine VH (c:=L > 0) (Jm λ_=>?_) ?_
    all_goals
     unfold WU;refine Jm λ_=>?_;refine (Ybi (λm:StateT SortSt Sem Asc=>m >>= _) (UJ (r:=[j:B]) (c:=((none,j):Asc)) (g:=Zdp lo) λi r=>rfl)).trans ?_;refine Jm λr=>?_;obtain ⟨D,j⟩:=r;cases D <;> rfl
structure Ah (lo:Nat)(st st':SortSt):Prop where
 kd:kindOf st'=kindOf st
 pe:pendingOf st'=pendingOf st
 fa:failedOf st'=failedOf st
 pm:(arrOf st').Perm (arrOf st)
 lw:∀i,i<lo->(arrOf st')[i]?=(arrOf st)[i]?
theorem Ah.refl (lo:Nat)(st:SortSt):Ah lo st st:=⟨rfl,rfl,rfl,.refl _,λ_ _=>rfl⟩
theorem Ah.trans {lo:Nat}{st B j:SortSt}(h:Ah lo st B)(k:Ah lo B j):Ah lo st j:=
 ⟨k.kd.trans h.kd,k.pe.trans h.pe,k.fa.trans h.fa,k.pm.trans h.pm,λi hi=>(k.lw i hi).trans (h.lw i hi)⟩
theorem Ah.size {lo:Nat}{st j:SortSt}(h:Ah lo st j):(arrOf j).size=(arrOf st).size:=h.pm.size_eq
noncomputable def AllG (good:Keyed->Prop)(arr:Array Keyed):Prop:=∀x∈arr.toList,good x
theorem AllG.perm {good:Keyed->Prop}{a c:Array Keyed}(h:AllG good a)(p:c.Perm a):AllG good c:=λx j=>h x (p.toList.mem_iff.mp j)
theorem AllG.at {good:Keyed->Prop}{a:Array Keyed}(h:AllG good a){i:Nat}(hi:i<a.size):∃x,a[i]?=some x/\good x:=⟨a[i],by simp [hi],h _ (by simp)⟩
noncomputable def Za7 (b:Keyed->Keyed->Bool)(arr:Array Keyed)(lo hi:Nat):Prop:=∀i j x y,lo<=i->i<=j->j<hi->arr[i]?=some x->arr[j]?=some y->kle b y x
section
variable {M:Model}{A:Around}{E:EX}{s:Shared}{kd:SortKind}{b:Keyed->Keyed->Bool}{good:Keyed->Prop}
theorem OP {st:SortSt}{i j:Nat}{Q:Option Bool->SortSt->Prop}(L:Ui M A E s kd b good)(O:kindOf st=kd)(G:AllG good (arrOf st))(hi:i<(arrOf st).size)(U:j<(arrOf st).size)(q:∀x y,(arrOf st)[i]?=some x->(arrOf st)[j]?=some y->Q (some (b x y)) st):wpS M A E s (ltAt' i j) Q st:=by
 obtain ⟨x,B,Y⟩:=G.at hi;obtain ⟨y,D,Z⟩:=G.at U;rw [ltAt'_eq];refine Yac (wpS_get ?_);exact Yac (GB B (Yac (GB D (L x y st Q Y Z O (q x y B D)))))
theorem Zdq (arr:Array Keyed)(W:WO b)(lo:Nat):Rng b arr lo (lo+1):=λi j x y h1 h2 L D B=>by
 have:i=j:=by lia
 subst this;rw [D] at B;cases B;exact W.le_refl _
theorem ZbN {arr:Array Keyed}(W:WO b){lo n:Nat}{x y:Keyed}(h:Rng b arr lo (lo+n))(Z:0<n)(U:arr[lo+n-1]?=some x)(O:arr[lo+n]?=some y)(D:kle b x y):Rng b arr lo (lo+n+1):=λi j u v h1 h2 h3 B L=>by
 by_cases Y:j<lo+n
 ·exact h i j u v h1 h2 Y B L
 ·have:j=lo+n:=by lia
  subst this;rw [O] at L;cases L;by_cases hi:i=lo+n
  ·subst hi;rw [O] at B;cases B;exact W.le_refl _
  ·exact W.le_trans (h i (lo+n-1) u x h1 (by lia) (by lia) B U) D
theorem Od {arr:Array Keyed}(W:WO b){lo n:Nat}{x y:Keyed}(h:Za7 b arr lo (lo+n))(Z:0<n)(U:arr[lo+n-1]?=some x)(O:arr[lo+n]?=some y)(D:kle b y x):Za7 b arr lo (lo+n+1):=λi j u v h1 h2 h3 B L=>by
 by_cases Y:j<lo+n
 ·exact h i j u v h1 h2 Y B L
 ·have:j=lo+n:=by lia
  subst this;rw [O] at L;cases L;by_cases hi:i=lo+n
  ·subst hi;rw [O] at B;cases B;exact W.le_refl _
  ·exact W.le_trans D (h i (lo+n-1) u x h1 (by lia) (by lia) B U)
theorem Zac (W:WO b)(L:Ui M A E s kd b good){st:SortSt}{lo a j:Nat}{Q:Asc->SortSt->Prop}(hs:kindOf st=kd)(G:AllG good (arrOf st))(hn:lo+j<=(arrOf st).size)(h1:1<=a)(h2:a<=j)(h3:Rng b (arrOf st) lo (lo+a))(q:∀n,a<=n->n<=j->Rng b (arrOf st) lo (lo+n)->(n=j\/∃x y,(arrOf st)[lo+n-1]?=some x/\(arrOf st)[lo+n]?=some y/\b y x=true)->Q (none,n) st):wpS M A E s (forIn [a:j] ((none,a):Asc) (Zdp lo)) Q st:=by
 refine Ybz (λk r B=>B=st/\r=(none,k)/\a<=k/\k<=j/\Rng b (arrOf st) lo (lo+k)) ?_ ?_ ⟨rfl,rfl,Yad _,h2,h3⟩
 ·rintro k r B _ hk ⟨rfl,rfl,U,Y,D⟩;unfold Zdp;refine Yac (OP L hs G (by show lo+k<_;lia) (by show lo+k-1<_;lia) λy x Z hx=>?_);dsimp only;split
  ·rename_i O;exact Yae (q k U Y D (.inr ⟨x,y,hx,Z,O⟩))
  ·rename_i O;exact Yae ⟨rfl,rfl,by lia,by lia,ZbN W D (by lia) hx Z (Ydy.mpr O)⟩
 ·rintro r B ⟨rfl,rfl,U,Y,D⟩;rw [Nat.max_eq_right h2] at D ⊢;exact q j h2 (Yad _) D (.inl rfl)
noncomputable def Zad (b:Keyed->Keyed->Bool)(arr:Array Keyed)(lo hi:Nat):Prop:=∀i j x y,lo<=i->i<hi->lo<=j->j<hi->arr[i]?=some x->arr[j]?=some y->kle b x y
theorem OQ {st:SortSt}{lo i j:Nat}(h:lo<=i)(B:j<=(arrOf st).size):Ah lo st (setArr st (mirror (arrOf st) i j ((j-i) / 2))):=by
 refine ⟨rfl,rfl,rfl,mirror_perm _ _ _ _,λk D=>?_⟩;show (mirror (arrOf st) i j ((j-i) / 2))[k]?=_;rw [Ydu B,if_neg (by lia)]
theorem YX {arr:Array Keyed}{lo hi:Nat}(L:hi<=arr.size)(h:Za7 b arr lo hi):Rng b (mirror arr lo hi ((hi-lo) / 2)) lo hi:=λi j x y h1 h2 O B D=>by
 rw [Ydu L,if_pos (by lia)] at B D;exact h (lo+hi-1-j) (lo+hi-1-i) y x (by lia) (by lia) (by lia) D B
theorem OE {arr:Array Keyed}{lo hi i j:Nat}(Z:j<=arr.size)(h1:lo<=i)(h2:i<=j)(h3:j<=hi)(hA:Zad b arr i j)(h:Za7 b arr lo hi):Za7 b (mirror arr i j ((j-i) / 2)) lo hi:=λp q x y O k2 U D B=>by
 rw [Ydu Z] at D B;by_cases Y:i<=p/\p<j
 ·rw [if_pos Y] at D;by_cases L:i<=q/\q<j
  ·rw [if_pos L] at B;exact hA (i+j-1-q) (i+j-1-p) y x (by lia) (by lia) (by lia) (by lia) B D
  ·rw [if_neg L] at B;exact h _ q x y (by lia) (by lia) U D B
 ·rw [if_neg Y] at D;by_cases L:i<=q/\q<j
  ·rw [if_pos L] at B;exact h p _ x y O (by lia) (by lia) D B
  ·rw [if_neg L] at B;exact h p q x y O k2 U D B
noncomputable def Zhc (b:Keyed->Keyed->Bool)(lo B:Nat)(st:SortSt)(Q:Option Nat->SortSt->Prop):Prop:=∀m j,Ah lo st j->1<=m->m<=B->Rng b (arrOf j) lo (lo+m)->Q (some m) j
theorem WV (W:WO b)(L:Ui M A E s kd b good){st:SortSt}{lo n O:Nat}{Q:Option Nat->SortSt->Prop}(U:kindOf st=kd)(G:AllG good (arrOf st))(Y:lo+O<=(arrOf st).size)(h1:1<=n)(h2:n<=O)(Z:Za7 b (arrOf st) lo (lo+n))(q:Zhc b lo O st Q):wpS M A E s (WU lo n O) Q st:=by
 unfold WU;rw [reverseSlice'_eq];refine Yac (Ycj ?_);have B:=OQ (st:=st) (lo:=lo) (i:=lo) (j:=lo+n) (Yad _) (by lia);have r:=YX (arr:=arrOf st) (lo:=lo) (hi:=lo+n) (by lia) Z;generalize hst:setArr st (mirror (arrOf st) lo (lo+n) ((lo+n-lo) / 2))=D at B;have e1:arrOf D=mirror (arrOf st) lo (lo+n) ((lo+n-lo) / 2):=by rw [<-hst]
 rw [<-e1] at r;refine Yac (Zac W L (B.kd.trans U) (G.perm B.pm) (by rw [B.size];exact Y) h1 h2 r λm k1 k2 k3 _=>?_);dsimp only;exact Yae (q m D B (by lia) k2 k3)
theorem WW (W:WO b)(L:Ui M A E s kd b good){st:SortSt}{lo n U:Nat}{Q:Option Nat->SortSt->Prop}(hs:kindOf st=kd)(G:AllG good (arrOf st))(hn:lo+U<=(arrOf st).size)(h2:n+1<=U)(h3:Za7 b (arrOf st) lo (lo+(n+1)))(q:Zhc b lo U st Q):wpS M A E s (YW lo n U) Q st:=by
 unfold YW;refine Yac (wpS_lift (wpAny_rule ⟨rfl,?_⟩));have fin:∀m B D,Ah lo st D->n+1<=m->m<=U->Za7 b (arrOf D) lo (lo+m)->B+1<=m->Zad b (arrOf D) (lo+m-(B+1)) (lo+m) ->
   wpS M A E s (if B > 0 then (do reverseSlice' (lo+m-(B+1)) (lo+m);WU lo m U) else WU lo m U) Q D:=by
  intro m B D O k1 k2 k3 k4 k5;have G1:=G.perm O.pm;have ae:lo+U<=(arrOf D).size:=by rw [O.size];exact hn
  split
  ·rw [reverseSlice'_eq];refine Yac (Ycj ?_);have Y:=OQ (st:=D) (lo:=lo) (i:=lo+m-(B+1)) (j:=lo+m) (by lia) (by lia);have r:=OE (arr:=arrOf D) (lo:=lo) (hi:=lo+m) (i:=lo+m-(B+1)) (j:=lo+m) (by lia) (by lia) (by lia) (Yad _) k5 k3;generalize hst:setArr D (mirror (arrOf D) (lo+m-(B+1)) (lo+m) ((lo+m-(lo+m-(B+1))) / 2))=ab at Y;have e1:arrOf ab=mirror (arrOf D) (lo+m-(B+1)) (lo+m) ((lo+m-(lo+m-(B+1))) / 2):=by rw [<-hst]
   rw [<-e1] at r;have aa:=O.trans Y;exact WV W L (aa.kd.trans hs) (G.perm aa.pm) (by rw [aa.size];exact hn) (by lia) k2 r λm' ac a'=>q m' ac (aa.trans a')
  ·exact WV W L (O.kd.trans hs) G1 ae (by lia) k2 k3 λm' ac a'=>q m' ac (O.trans a')
 have ad:∀(arr:Array Keyed) m,Zad b arr (lo+m-(0+1)) (lo+m):=λarr m i j x y i1 i2 i3 i4 e1 e2=>by
  have:i=j:=by lia
  subst this;rw [e1] at e2;cases e2;exact W.le_refl _
 refine Yac (Ybz (λk r D=>Ah lo st D/\∃B,r=(none,k,B)/\n+1<=k/\k<=U/\Za7 b (arrOf D) lo (lo+k)/\B+1<=k/\Zad b (arrOf D) (lo+k-(B+1)) (lo+k)) ?_ ?_ ⟨Ah.refl _ _,0,rfl,Yad _,h2,h3,by lia,ad _ _⟩)
 ·rintro k r D _ hk ⟨O,B,rfl,k1,k2,k3,k4,k5⟩;have G1:=G.perm O.pm;have ae:lo+U<=(arrOf D).size:=by rw [O.size];exact hn
  have ag:=O.kd.trans hs;unfold Zgr;refine Yac (OP L ag G1 (by show lo+k<_;lia) (by show lo+k-1<_;lia) λy x hy hx=>?_);dsimp only;split
  ·rename_i hb;have Z:=W.le_of_lt hb;split
   ·rw [reverseSlice'_eq];refine Yac (Ycj ?_);have Y:=OQ (st:=D) (lo:=lo) (i:=lo+k-(B+1)) (j:=lo+k) (by lia) (by lia);have r:=OE (arr:=arrOf D) (lo:=lo) (hi:=lo+k) (i:=lo+k-(B+1)) (j:=lo+k) (by lia) (by lia) (by lia) (Yad _) k5 k3;have e3:(mirror (arrOf D) (lo+k-(B+1)) (lo+k) ((lo+k-(lo+k-(B+1))) / 2))[lo+k]?=some y:=by rw [Ydu (by lia),if_neg (by lia)];exact hy
    have e4:∃z,(mirror (arrOf D) (lo+k-(B+1)) (lo+k) ((lo+k-(lo+k-(B+1))) / 2))[lo+k-1]?=some z/\kle b y z:=by
     obtain ⟨z,hz,_⟩:=G1.at (i:=lo+k-(B+1)) (by lia);refine ⟨z,?_,W.le_trans Z (k3 (lo+k-(B+1)) (lo+k-1) z x (by lia) (by lia) (by lia) hz hx)⟩;rw [Ydu (by lia),if_pos (by lia),<-hz]
     congr 1
     lia
    generalize hst:setArr D (mirror (arrOf D) (lo+k-(B+1)) (lo+k) ((lo+k-(lo+k-(B+1))) / 2))=ab at Y;have e1:arrOf ab=mirror (arrOf D) (lo+k-(B+1)) (lo+k) ((lo+k-(lo+k-(B+1))) / 2):=by rw [<-hst]
    rw [<-e1] at r e3 e4;obtain ⟨z,hz,am⟩:=e4;exact Yae ⟨O.trans Y,0,rfl,by lia,by lia,Od W r (by lia) hz e3 am,by lia,ad _ _⟩
   ·exact Yae ⟨O,0,rfl,by lia,by lia,Od W k3 (by lia) hx hy Z,by lia,ad _ _⟩
  ·rename_i hb;have an:kle b x y:=Ydy.mpr hb;refine Yac (OP L ag G1 (by show lo+k-1<_;lia) (by show lo+k<_;lia) λx' y' ai aj=>?_);rw [hx] at ai;cases ai;rw [hy] at aj;cases aj;dsimp only;split
   ·refine Yae ?_;dsimp only;exact fin k B D O k1 k2 k3 k4 k5
   ·rename_i ao;have Z:kle b y x:=Ydy.mpr ao;refine Yae ⟨O,B+1,rfl,by lia,by lia,Od W k3 (by lia) hx hy Z,by lia,λi j u v i1 i2 i3 i4 e1 e2=>?_⟩;have ak:∀i u,lo+k-(B+1)<=i->i<lo+(k+1)->(arrOf D)[i]?=some u->kle b u x/\kle b x u:=λi u p1 p2 e=>by
     by_cases hi:i<lo+k
     ·exact ⟨k5 i (lo+k-1) u x p1 hi (by lia) (by lia) e hx,k5 (lo+k-1) i x u (by lia) (by lia) p1 hi hx e⟩
     ·have:i=lo+k:=by lia
      subst this;rw [hy] at e;cases e;exact ⟨Z,an⟩
    exact W.le_trans (ak i u (by lia) i2 e1).1 (ak j v (by lia) i4 e2).2
 ·rintro r D ⟨O,B,rfl,k1,k2,k3,k4,k5⟩;dsimp only;rw [Nat.max_eq_right h2] at *;exact fin U B D O k1 k2 k3 k4 k5
theorem VL (W:WO b)(L:Ui M A E s kd b good){st:SortSt}{lo O:Nat}{Q:Option Nat->SortSt->Prop}(hs:kindOf st=kd)(G:AllG good (arrOf st))(hn:lo+O<=(arrOf st).size)(h1:1<=O)(q:Zhc b lo O st Q):wpS M A E s (countRun' lo O) Q st:=by
 rw [XB];refine Yac (Zac W L hs G hn (Yad _) h1 (Zdq _ W _) λn k1 k2 k3 k4=>?_);dsimp only;split
 ·exact Yae (q n st (Ah.refl _ _) k1 k2 k3)
 ·rename_i e;have e:n≠O:=λz=>e (Ybf.mpr z);obtain ⟨x,y,hx,hy,hb⟩:=k4.resolve_left e;have U:=W.le_of_lt hb;split
  ·rename_i B;refine Yac (OP L hs G (by lia) (by lia) λu v hu hv=>?_);rw [hx] at hv;cases hv;dsimp only;split
   ·exact Yae (q n st (Ah.refl _ _) k1 k2 k3)
   ·rename_i aa;have Y:kle b x u:=Ydy.mpr aa;have al:Zad b (arrOf st) lo (lo+n):=λi j p r i1 i2 i3 i4 B D=>
     W.le_trans (k3 i (lo+n-1) p x i1 (by lia) (by lia) B hx) (W.le_trans Y (k3 lo j u r (Yad _) i3 i4 hu D))
    have ni:Za7 b (arrOf st) lo (lo+n):=λi j p r i1 i2 i3 B D=>al j i r p (by lia) i3 i1 (by lia) D B;rw [reverseSlice'_eq];refine Yac (Ycj ?_);have Z:=OQ (st:=st) (lo:=lo) (i:=lo) (j:=lo+n) (Yad _) (by lia);have r:=OE (arr:=arrOf st) (lo:=lo) (hi:=lo+n) (i:=lo) (j:=lo+n) (by lia) (Yad _) (by lia) (Yad _) al ni;have e3:(mirror (arrOf st) lo (lo+n) ((lo+n-lo) / 2))[lo+n]?=some y:=by rw [Ydu (by lia),if_neg (by lia)];exact hy
    have e4:(mirror (arrOf st) lo (lo+n) ((lo+n-lo) / 2))[lo+n-1]?=some u:=by
     rw [Ydu (by lia),if_pos (by lia),<-hu]
     congr 1
     lia
    generalize hst:setArr st (mirror (arrOf st) lo (lo+n) ((lo+n-lo) / 2))=ab at Z;have B:arrOf ab=mirror (arrOf st) lo (lo+n) ((lo+n-lo) / 2):=by rw [<-hst]
    rw [<-B] at r e3 e4;exact WW W L (Z.kd.trans hs) (G.perm Z.pm) (by rw [Z.size];exact hn) (by lia) (Od W r (by lia) e4 e3 (W.le_trans U Y)) λm' ac a'=>q m' ac (Z.trans a')
  ·have:n=1:=by lia
   subst this;refine WW W L hs G hn (by lia) (Od W (λi j p r i1 i2 i3 B D=>?_) (by lia) hx hy U) q;have:i=j:=by lia
   subst this;rw [B] at D;cases D;exact W.le_refl _
theorem YY (W:WO b){arr:Array Keyed}{lo k l:Nat}{p:Keyed}(hk:lo+k<arr.size)(hl:l<=k)(h:Rng b arr lo (lo+k))(hp:arr[lo+k]?=some p)(h1:∀i x,i<l->arr[lo+i]?=some x->kle b x p)(h2:∀i x,l<=i->i<k->arr[lo+i]?=some x->kle b p x) :
  Rng b (bubble arr (lo+k) (lo+k-(lo+l))) lo (lo+(k+1)):=by
 have e0:lo+k-(lo+k-(lo+l))=lo+l:=by lia
 have at_:∀q,(bubble arr (lo+k) (lo+k-(lo+l)))[q]?=if q=lo+l then some p else if lo+l<q/\q<=lo+k then arr[q-1]? else arr[q]?:=λq=>by
  rw [getElem?_bubble hk _ (by lia),e0,hp]
 intro i j x y i1 i2 i3 D B;rw [at_] at D B;have low:∀q z,lo<=q->q<lo+l->arr[q]?=some z->kle b z p:=λq z O q2 e=>h1 (q-lo) z (by lia) (by rw [Ycx O];exact e);have high:∀q z,lo+l<=q->q<lo+k->arr[q]?=some z->kle b p z:=λq z O q2 e=>h2 (q-lo) z (by lia) (by lia) (by rw [Ycx (by lia)];exact e);by_cases U:i=lo+l
 ·rw [if_pos U] at D;cases D;by_cases L:j=lo+l
  ·rw [if_pos L] at B;cases B;exact W.le_refl _
  ·rw [if_neg L,if_pos (by lia)] at B;exact high (j-1) y (by lia) (by lia) B
 ·rw [if_neg U] at D;by_cases Y:lo+l<i/\i<=lo+k
  ·rw [if_pos Y] at D;rw [if_neg (by lia),if_pos (by lia)] at B;exact h (i-1) (j-1) x y (by lia) (by lia) (by lia) D B
  ·rw [if_neg Y] at D;by_cases L:j=lo+l
   ·rw [if_pos L] at B;cases B;exact low i x i1 (by lia) D
   ·rw [if_neg L] at B;by_cases Z:lo+l<j/\j<=lo+k
    ·rw [if_pos Z] at B;exact h i (j-1) x y i1 (by lia) (by lia) D B
    ·rw [if_neg Z] at B;exact h i j x y i1 i2 (by lia) D B
theorem Zae {st:SortSt}{lo src d:Nat}(h1:src<(arrOf st).size)(h2:d<=src)(j:lo<=src-d):Ah lo st (setArr st (bubble (arrOf st) src d)):=by
 refine ⟨rfl,rfl,rfl,bubble_perm _ _ _,λk B=>?_⟩;show (bubble (arrOf st) src d)[k]?=_;rw [getElem?_bubble h1 _ h2,if_neg (by lia),if_neg (by lia)]
theorem YZ (W:WO b)(L:Ui M A E s kd b good){st:SortSt}{lo n ok:Nat}{Q:Bool->SortSt->Prop}(hs:kindOf st=kd)(G:AllG good (arrOf st))(hn:lo+n<=(arrOf st).size)(h1:1<=ok)(h2:ok<=n)(h3:Rng b (arrOf st) lo (lo+ok))(q:∀D,Ah lo st D->Rng b (arrOf D) lo (lo+n)->Q true D):wpS M A E s (binarySort' lo n ok) Q st:=by
 rw [binarySort'_eq,Nat.max_eq_left h1];refine Yac (Ybz (λk r B=>Ah lo st B/\r=(none,())/\ok<=k/\k<=n/\Rng b (arrOf B) lo (lo+k)) ?_ ?_ ⟨Ah.refl _ _,rfl,Yad _,h2,h3⟩)
 ·rintro k r B _ hk ⟨O,rfl,k1,k2,U⟩;have G1:=G.perm O.pm;have ad:lo+n<=(arrOf B).size:=by rw [O.size];exact hn
  have ab:=O.kd.trans hs;obtain ⟨p,hp,gp⟩:=G1.at (i:=lo+k) (by lia);have fin:∀l,l<=k->(∀i x,i<l->(arrOf B)[lo+i]?=some x->kle b x p)->(∀i x,l<=i->i<k->(arrOf B)[lo+i]?=some x->kle b p x) ->
    wpS M A E s (do moveDown' (lo+k) (lo+l);pure (ForInStep.yield ((none,()):Option Bool×Unit))) (λr D=>match r with
     | .done c'=>False
     | .yield c'=>Ah lo st D/\c'=(none,())/\ok<=k+1/\k+1<=n/\Rng b (arrOf D) lo (lo+(k+1))) B:=by
   intro l hl g1 Y;rw [moveDown'_eq];refine Yac (Ycj ?_);have ac:=Zae (st:=B) (lo:=lo) (src:=lo+k) (d:=lo+k-(lo+l)) (by lia) (by lia) (by lia);exact Yae ⟨O.trans ac,rfl,by lia,by lia,YY W (by lia) hl U hp g1 Y⟩
  dsimp only;refine Yac (Ybz (λi c D=>D=B/\∃l r,c=(none,l,r)/\l<=r/\r<=k/\r-l<=k-i/\(∀i x,i<l->(arrOf B)[lo+i]?=some x->kle b x p)/\(∀i x,r<=i->i<k->(arrOf B)[lo+i]?=some x->kle b p x)) ?_ ?_ ⟨rfl,0,k,rfl,by lia,by lia,by lia,λi x hi=>by lia,λi x h1 h2=>by lia⟩)
  ·rintro i c D _ hi ⟨rfl,l,r,rfl,g1,Y,g3,g4,g5⟩;dsimp only;split
   ·have:l=r:=by lia
    subst this;refine Yae ?_;dsimp only;exact wpS_mono (fin l Y g4 g5) λr D Z=>by
     cases r with
     | done z=>exact False.elim Z
     | yield z=>exact Z
   ·refine Yac (OP L ab G1 (by lia) (by lia) λp' m aa hm=>?_);rw [hp] at aa;cases aa;dsimp only;split
    ·rename_i hb;refine Yae ⟨rfl,_,_,rfl,by lia,by lia,by lia,g4,λj x j1 j2 e=>?_⟩;exact W.le_trans (W.le_of_lt hb) (U _ (lo+j) m x (by lia) (by lia) (by lia) hm e)
    ·rename_i hb;refine Yae ⟨rfl,_,_,rfl,by lia,by lia,by lia,λj x j1 e=>?_,g5⟩;exact W.le_trans (U (lo+j) _ x m (by lia) (by lia) (by lia) e hm) (Ydy.mpr hb)
  ·rintro c D ⟨rfl,l,r,rfl,g1,Y,g3,g4,g5⟩;have:l=r:=by simp at g3;lia
   subst this;dsimp only;exact wpS_mono (fin l Y g4 g5) λr D Z=>by
     cases r with
     | done z=>exact False.elim Z
     | yield z=>exact Z
 ·rintro r B ⟨O,rfl,k1,k2,U⟩;dsimp only;rw [Nat.max_eq_right h2] at U;exact Yae (q B O U)
noncomputable def OR (arr:Array Keyed)(base:Nat)(l:List Keyed):Array Keyed:=List.foldl (λa (x:Keyed×Nat)=>a.setIfInBounds (base+x.2) x.1) arr l.zipIdx
noncomputable def ZbO (B:Nat)(j:Array Keyed):StateT SortSt Sem Bool:=do
 modify λs=>setArr s (OR (arrOf s) B j.toList)
 let s <- get
 pure (failedOf s).isNone
noncomputable def ZeO (st:SortSt)(B na j nb:Nat):StateT SortSt Sem Bool:=(if (nb == 0)=true then pure true else (if na<=nb then (do
  let m <- VE ((arrOf st).extract B j) ((arrOf st).extract j (j+nb))
  ZbO B m) else (do
  let m <- VF ((arrOf st).extract B j) ((arrOf st).extract j (j+nb))
  ZbO B m)))
noncomputable def ZeP (st:SortSt)(j na B nb:Nat):StateT SortSt Sem Bool:=(if (na == 0)=true then pure true else (do
  let y <- elem' (arrOf st) (j+na-1)
  match <- Oc true y (arrOf st) B nb (nb-1) with
  | some nb=>ZeO st j na B nb
  | _=>pure false))
theorem XC (i:Nat):mergeAt' i=(do
  let st <- get
  match (pendingOf st)[i]?,(pendingOf st)[i+1]? with
  | some (sa,na,power),some (sb,nb,_)=>do
   set (setPending st (((pendingOf st).setIfInBounds i (sa,na+nb,power)).eraseIdxIfInBounds (i+1)))
   let x <- elem' (arrOf st) sb
   match <- Oc false x (arrOf st) sa na 0 with
   | some k=>ZeP st (sa+k) (na-k) sb nb
   | _=>pure false
  | _,_=>liftM (unsupported "internal:list.sort.pending")):=by
 refine Jm (m:=get) λst=>?_;cases (pendingOf st)[i]? with
 | none=>rfl
 | some p=>
  cases (pendingOf st)[i+1]? with
  | none=>rfl
  | some q=>
   obtain ⟨sa,na,B⟩:=p;obtain ⟨sb,nb,j⟩:=q
   rfl
theorem ZcJ:∀(l:List Keyed)(arr:Array Keyed)(base n i:Nat),base+n+l.length<=arr.size ->
  (List.foldl (λa (x:Keyed×Nat)=>a.setIfInBounds (base+x.2) x.1) arr (l.zipIdx n))[i]?=if base+n<=i/\i<base+n+l.length then l[i-(base+n)]? else arr[i]?
 | [],arr,base,n,i,_=>by
  rw [if_neg (by simp)]
  rfl
 | x::l,arr,base,n,i,h=>by
  rw [List.zipIdx_cons,List.foldl_cons];rw [Ybm] at h;have ih:=ZcJ l (arr.setIfInBounds (base+n) x) base (n+1) i (by rw [Array.size_setIfInBounds];lia);refine ih.trans ?_;rw [Ybm];by_cases h1:base+(n+1)<=i/\i<base+(n+1)+l.length
  ·rw [if_pos h1,if_pos (by lia)];rw [show i-(base+n)=(i-(base+(n+1)))+1 by lia,List.getElem?_cons_succ]
  ·rw [if_neg h1,Array.getElem?_setIfInBounds];by_cases h2:base+n=i
   ·subst h2;rw [if_pos rfl,if_pos (by lia),if_pos (by lia),Ycg]
    rfl
   ·rw [if_neg h2,if_neg (by lia)]
theorem ZcK {arr:Array Keyed}{base:Nat}{l:List Keyed}(h:base+l.length<=arr.size)(i:Nat):(OR arr base l)[i]?=if base<=i/\i<base+l.length then l[i-base]? else arr[i]?:=ZcJ l arr base 0 i h
theorem ZbP {arr:Array Keyed}{base:Nat}{l:List Keyed}(h:base+l.length<=arr.size)(p:l.Perm ((arr.toList.drop base).take l.length)):(OR arr base l).Perm arr:=by
 have e:(OR arr base l).toList=arr.toList.take base++l++arr.toList.drop (base+l.length):=by
  refine List.ext_getElem? λi=>?_;have j:arr.toList.length=arr.size:=Ybd;rw [Ybx,ZcK h];rw [Ybg,List.getElem?_append,Ybj,j,Ydr (by lia)];by_cases h1:i<base
  ·rw [if_neg (by lia),if_pos h1,Yef,if_pos h1,Ybx]
  ·rw [if_neg h1,List.getElem?_append];by_cases h2:i<base+l.length
   ·rw [if_pos (by lia),if_pos (by lia)]
   ·rw [if_neg (by lia),if_neg (by lia),Yee,Ybx]
    congr 1
    lia
 have B:arr.toList=arr.toList.take base++(arr.toList.drop base).take l.length++arr.toList.drop (base+l.length):=by
  rw [Ybg,<-List.drop_drop,Ycw,Ycw]
 rw [Array.perm_iff_toList_perm,e];exact ((List.Perm.append_left _ p).append_right _).trans (.of_eq B.symm)
theorem Ut {arr:Array Keyed}{lo mid hi:Nat}(h1:Rng b arr lo mid)(h2:Rng b arr mid hi)(O:∀i j x y,lo<=i->i<mid->mid<=j->j<hi->arr[i]?=some x->arr[j]?=some y->kle b x y):Rng b arr lo hi:=λi j x y i1 i2 L B D=>by
 by_cases U:j<mid
 ·exact h1 i j x y i1 i2 U B D
 ·by_cases Y:i<mid
  ·exact O i j x y i1 Y (by lia) L B D
  ·exact h2 i j x y (by lia) i2 L B D
theorem ZcL {arr:Array Keyed}{lo hi:Nat}(B:hi<=arr.size)(h:Rng b arr lo hi):(arr.extract lo hi).toList.Pairwise (kle b):=by
 rw [Ydf];intro i j hi' D L;have sz:(arr.extract lo hi).toList.length=hi-lo:=by rw [Ybd,Yeg,Ydr B]
 refine h (lo+i) (lo+j) _ _ (by lia) (by lia) (by lia) ?_ ?_
 ·simp [Array.getElem_extract]
 ·simp [Array.getElem_extract]
noncomputable def MgQ (b:Keyed->Keyed->Bool)(st:SortSt)(lo hi:Nat)(Q:Bool->SortSt->Prop):Prop:=∀j,kindOf j=kindOf st->pendingOf j=pendingOf st->failedOf j=failedOf st->(arrOf j).Perm (arrOf st) ->
 (∀i,i<lo\/hi<=i->(arrOf j)[i]?=(arrOf st)[i]?)->Rng b (arrOf j) lo hi->Q true j
structure GalF (b:Keyed->Keyed->Bool)(arr:Array Keyed)(sa k sb nb hi:Nat):Prop where
 k0:sa<=k
 k1:k<sb
 n0:0<nb
 n1:sb+nb<=hi
 ra:Rng b arr sa sb
 rb:Rng b arr sb hi
 lowA:∀i x y,sa<=i->i<k->arr[i]?=some x->arr[sb]?=some y->kle b x y
 highA:∀i x y,k<=i->i<sb->arr[i]?=some x->arr[sb]?=some y->kle b y x
 lowB:∀i x y,sb<=i->i<sb+nb->arr[i]?=some x->arr[sb-1]?=some y->kle b x y
 highB:∀i x y,sb+nb<=i->i<hi->arr[i]?=some x->arr[sb-1]?=some y->kle b y x
theorem GalF.two {arr:Array Keyed}{sa k D nb hi:Nat}(F:GalF b arr sa k D nb hi)(hh:hi<=arr.size)(G:AllG good arr):Two b good (arr.extract k D) (arr.extract D (D+nb)):=by
 have h0:=F.k0;have h1:=F.k1;have h2:=F.n0;have h3:=F.n1;have B:∀{i j x},x∈(arr.extract i j).toList->good x:=λ{i j x} L=>by
  obtain ⟨q,_,_,e⟩:=Xz L;rw [<-Ybx] at e;exact G x (Yau e)
 refine ⟨λx=>B,λx=>B,ZcL (by lia) λi j x y i1 i2 Z=>F.ra i j x y (by lia) i2 Z,ZcL (by lia) λi j x y i1 i2 Z=>F.rb i j x y i1 i2 (by lia),by rw [Yeg];lia,by rw [Yeg];lia,λx L y U=>?_,λz O y U=>?_⟩
 ·have L:arr[D]?=some x:=by
   rw [Array.getElem?_extract,if_pos (by lia)] at L;exact L
  obtain ⟨q,Y,q2,e⟩:=Xz U;exact F.highA q y x Y q2 e L
 ·have O:arr[D-1]?=some z:=by
   rw [Yeg,Array.getElem?_extract,if_pos (by lia)] at O;rw [<-O]
   congr 1
   lia
  obtain ⟨q,Y,q2,e⟩:=Xz U;exact F.lowB q y z Y (by lia) e O
theorem GalF.fin (W:WO b){st:SortSt}{sa k B nb hi:Nat}{Q:Bool->SortSt->Prop}(F:GalF b (arrOf st) sa k B nb hi)(hh:hi<=(arrOf st).size)(q:MgQ b st sa hi Q)(hf:failedOf st=none){m:Array Keyed}{O:SortSt}(U:SameG st O)(hm:Ju b (((arrOf st).extract k B).toList++((arrOf st).extract B (B+nb)).toList) m.toList):wpS M A E s (ZbO k m) Q O:=by
 have h0:=F.k0;have h1:=F.k1;have h2:=F.n0;have h3:=F.n1;unfold ZbO;refine Yac (Ycj (Yac (wpS_get (Yae ?_))));show Q (failedOf O).isNone _;rw [U.2.2.2,hf];have hl:m.toList.length=B+nb-k:=by
  have:=hm.1.length_eq;rw [Yag,Ybd,Ybd,Ybd,Yeg,Yeg] at this;rw [Ybd]
  lia
 have hb:k+m.toList.length<=(arrOf st).size:=by lia
 have D:((arrOf st).toList.drop k).take m.toList.length=((arrOf st).extract k B).toList++((arrOf st).extract B (B+nb)).toList:=by
  have x1:((arrOf st).extract k (B+nb)).toList=((arrOf st).toList.drop k).take m.toList.length:=by
   rw [hl,Yeb,Yec]
  rw [<-x1,<-Ycl,Array.extract_append_extract]
  congr 2 <;> lia
 have at_:=ZcK (arr:=arrOf st) (base:=k) (l:=m.toList) hb;have mem:∀i x,k<=i->i<B+nb->(OR (arrOf st) k m.toList)[i]?=some x->(∃j,k<=j/\j<B/\(arrOf st)[j]?=some x)\/(∃j,B<=j/\j<B+nb/\(arrOf st)[j]?=some x):=λi x i1 i2 e=>by
  rw [at_,if_pos (by lia)] at e;have hx:=hm.1.mem_iff.mp (Yau e);rcases Yah.mp hx with hx | hx
  ·exact .inl (Xz hx)
  ·exact .inr (Xz hx)
 obtain ⟨b0,Y⟩:∃x,(arrOf st)[B]?=some x:=⟨_,Yeh (by lia)⟩;obtain ⟨aL,aa⟩:∃x,(arrOf st)[B-1]?=some x:=⟨_,Yeh (by lia)⟩;refine q _ U.1 U.2.2.1 ?_ ?_ (λi hi'=>?_) ?_
 ·show failedOf O=failedOf st;exact U.2.2.2
 ·show (OR (arrOf O) k m.toList).Perm (arrOf st);rw [U.2.1];exact ZbP hb (hm.1.trans (.of_eq D.symm))
 ·show (OR (arrOf O) k m.toList)[i]?=_;rw [U.2.1,at_,if_neg (by lia)]
 ·show Rng b (OR (arrOf O) k m.toList) sa hi;rw [U.2.1];have old:∀i,i<k\/B+nb<=i->(OR (arrOf st) k m.toList)[i]?=(arrOf st)[i]?:=λi hi'=>by rw [at_,if_neg (by lia)]
  refine Ut (mid:=k) (λi j x y i1 i2 Z D L=>?_) (Ut (mid:=B+nb) (λi j x y i1 i2 Z D L=>?_) (λi j x y i1 i2 Z D L=>?_) (λi j x y i1 i2 Z i4 D L=>?_)) (λi j x y i1 i2 Z i4 D L=>?_)
  ·rw [old i (by lia)] at D;rw [old j (by lia)] at L;exact F.ra i j x y i1 i2 (by lia) D L
  ·rw [at_,if_pos (by lia)] at D L;exact ZbG W hm.2 (by lia) D L
  ·rw [old i (by lia)] at D;rw [old j (by lia)] at L;exact F.rb i j x y (by lia) i2 Z D L
  ·rw [old j (by lia)] at L;rcases mem i x i1 i2 D with ⟨p,p1,p2,e⟩ | ⟨p,p1,p2,e⟩
   ·exact W.le_trans (F.ra p (B-1) x aL (by lia) (by lia) (by lia) e aa) (F.highB j y aL Z i4 L aa)
   ·exact F.rb p j x y p1 (by lia) i4 e L
  ·rw [old i (by lia)] at D;have xb:=F.lowA i x b0 i1 i2 D Y;by_cases cj:j<B+nb
   ·rcases mem j y Z cj L with ⟨p,p1,p2,e⟩ | ⟨p,p1,p2,e⟩
    ·exact F.ra i p x y i1 (by lia) p2 D e
    ·exact W.le_trans xb (F.rb B p b0 y (Yad _) p1 (by lia) Y e)
   ·rw [old j (by lia)] at L;exact W.le_trans xb (F.rb B j b0 y (Yad _) (by lia) i4 Y L)
theorem XD (W:WO b)(L:Ui M A E s kd b good){st:SortSt}{i D na sb nb pw ag:Nat}{Q:Bool->SortSt->Prop}(hs:kindOf st=kd)(hf:failedOf st=none)(G:AllG good (arrOf st))(p1:(pendingOf st)[i]?=some (D,na,pw))(p2:(pendingOf st)[i+1]?=some (sb,nb,ag))(e:sb=D+na)(ah:0<na)(ao:0<nb)(hh:sb+nb<=(arrOf st).size)(ra:Rng b (arrOf st) D sb)(rb:Rng b (arrOf st) sb (sb+nb))(q:MgQ b (setPending st (((pendingOf st).setIfInBounds i (D,na+nb,pw)).eraseIdxIfInBounds (i+1))) D (sb+nb) Q):wpS M A E s (mergeAt' i) Q st:=by
 subst e;rw [XC];refine Yac (wpS_get ?_);rw [p1,p2];dsimp only;refine Yac ?_;show wpS M A E s (set _) _ st;refine (show wpS M A E s (modify λ_=>setPending st (((pendingOf st).setIfInBounds i (D,na+nb,pw)).eraseIdxIfInBounds (i+1))) _ st from Ycj ?_);generalize hst:setPending st (((pendingOf st).setIfInBounds i (D,na+nb,pw)).eraseIdxIfInBounds (i+1))=B at q;have ea:arrOf B=arrOf st:=by rw [<-hst]
 have ek:kindOf B=kd:=by rw [<-hst];exact hs
 have ef:failedOf B=none:=by rw [<-hst];exact hf
 rw [<-ea] at G hh ra rb ⊢;obtain ⟨b0,Y,ai⟩:=G.at (i:=D+na) (by lia);obtain ⟨aL,Z,aj⟩:=G.at (i:=D+na-1) (by lia);refine Yac (GB Y ?_);have G1:Gal b good false b0 (arrOf B) D na:=Vf W ai (λi hi=>G.at (by lia)) ra;refine Yac (JD L G1 ek ah λk hk k1 k2=>?_);have ac:∀i x y,D<=i->i<D+k->(arrOf B)[i]?=some x->(arrOf B)[D+na]?=some y->kle b x y:=λi x y i1 i2 O U=>by
  rw [Y] at U;cases U;have:=k1 (i-D) (by lia);unfold byd at this;rw [Ycx i1,O] at this;dsimp only at this;rw [if_neg Yas,Bool.not_eq_true'] at this;exact this
 have ad:∀i x y,D+k<=i->i<D+na->(arrOf B)[i]?=some x->(arrOf B)[D+na]?=some y->kle b y x:=λi x y i1 i2 O U=>by
  rw [Y] at U;cases U;have:=k2 (i-D) (by lia) (by lia);unfold byd at this;rw [Ycx (by lia),O] at this;dsimp only at this;rw [if_neg Yas,Bool.not_eq_false'] at this;exact W.le_of_lt this
 dsimp only;unfold ZeP;rw [show arrOf st=arrOf B from ea.symm];split
 ·rename_i e0;have e0:na-k=0:=eq_of_beq e0;refine Yae (q B rfl rfl rfl (.refl _) (λ_ _=>rfl) (Ut ra rb λi j x y i1 i2 i3 i4 O U=>?_));exact W.le_trans (ac i x b0 i1 (by lia) O Y) (rb (D+na) j b0 y (Yad _) i3 i4 Y U)
 ·rename_i e0;have e0:na-k≠0:=λz=>e0 (Ybf.mpr z);refine Yac (GB (show (arrOf B)[D+k+(na-k)-1]?=some aL by rw [<-Z];congr 1;lia) ?_);have G2:Gal b good true aL (arrOf B) (D+na) nb:=Vf W aj (λi hi=>G.at (by lia)) rb;refine Yac (JD L G2 ek (by lia) λaa ap ak am=>?_);have ae:∀i x y,D+na<=i->i<D+na+aa->(arrOf B)[i]?=some x->(arrOf B)[D+na-1]?=some y->kle b x y:=λi x y i1 i2 O U=>by
   rw [Z] at U;cases U;have:=ak (i-(D+na)) (by lia);unfold byd at this;rw [Ycx i1,O] at this;dsimp only at this;rw [if_pos rfl] at this;exact W.le_of_lt this
  have ab:∀i x y,D+na+aa<=i->i<D+na+nb->(arrOf B)[i]?=some x->(arrOf B)[D+na-1]?=some y->kle b y x:=λi x y i1 i2 O U=>by
   rw [Z] at U;cases U;have:=am (i-(D+na)) (by lia) (by lia);unfold byd at this;rw [Ycx (by lia),O] at this;dsimp only at this;rw [if_pos rfl] at this;exact this
  dsimp only;unfold ZeO;split
  ·rename_i O;have O:aa=0:=eq_of_beq O;refine Yae (q B rfl rfl rfl (.refl _) (λ_ _=>rfl) (Ut ra rb λi j x y i1 i2 i3 i4 f1 f2=>?_));exact W.le_trans (ra i (D+na-1) x aL i1 (by lia) (by lia) f1 Z) (ab j y aL (by lia) i4 f2 Z)
  ·rename_i O;have O:aa≠0:=λz=>O (Ybf.mpr z);have F:GalF b (arrOf B) D (D+k) (D+na) aa (D+na+nb):=⟨by lia,by lia,by lia,by lia,ra,rb,ac,ad,ae,ab⟩;have T:=F.two hh G;split
   ·refine Yac ?_;rw [show arrOf st=arrOf B from ea.symm];exact Xx W L T ek λr an sg m=>F.fin W hh q ef sg m
   ·refine Yac ?_;rw [show arrOf st=arrOf B from ea.symm];exact XA W L T ek λr an sg m=>F.fin W hh q ef sg m
end
noncomputable def Runs (b:Keyed->Keyed->Bool)(arr:Array Keyed):Nat->List (Nat×Nat×Nat)->Nat->Prop
 | s,[],e=>s=e
 | s,x::rest,e=>x.1=s/\0<x.2.1/\Rng b arr s (s+x.2.1)/\Runs b arr (s+x.2.1) rest e
section
variable {b:Keyed->Keyed->Bool}{arr arr':Array Keyed}
theorem Runs.le:∀{p:List (Nat×Nat×Nat)}{s e:Nat},Runs b arr s p e->s+p.length<=e
 | [],s,e,h=>by have h:s=e:=h;simp [h]
 | x::p,s,e,h=>by
  have:=Runs.le h.2.2.2;have:=h.2.1;rw [Ybm]
  lia
theorem Runs.app:∀{u v:List (Nat×Nat×Nat)}{s e:Nat},Runs b arr s (u++v) e↔∃m,Runs b arr s u m/\Runs b arr m v e
 | [],v,s,e=>⟨λh=>⟨s,rfl,h⟩,λ⟨m,h1,h2⟩=>by have h1:s=m:=h1;rw [h1];exact h2⟩
 | x::u,v,s,e=>by
  constructor
  ·rintro ⟨h1,h2,h3,h4⟩;obtain ⟨m,k1,k2⟩:=Runs.app.mp h4;exact ⟨m,⟨h1,h2,h3,k1⟩,k2⟩
  ·rintro ⟨m,⟨h1,h2,h3,k1⟩,k2⟩;exact ⟨h1,h2,h3,Runs.app.mpr ⟨m,k1,k2⟩⟩
theorem Runs.keep:∀{p:List (Nat×Nat×Nat)}{s e:Nat},Runs b arr s p e->(∀i,s<=i->i<e->arr'[i]?=arr[i]?)->Runs b arr' s p e
 | [],_,_,h,_=>h
 | x::p,s,e,h,k=>by
  have:=Runs.le h.2.2.2;refine ⟨h.1,h.2.1,λi j u v i1 i2 L B D=>?_,Runs.keep h.2.2.2 λi i1 i2=>k i (by lia) i2⟩;rw [k i i1 (by lia)] at B;rw [k j (by lia) (by lia)] at D;exact h.2.2.1 i j u v i1 i2 L B D
theorem Runs.push {p:List (Nat×Nat×Nat)}{s lo n j:Nat}(h:Runs b arr s p lo)(B:0<n)(D:Rng b arr lo (lo+n)):Runs b arr s (p++[(lo,n,j)]) (lo+n):=
 Runs.app.mpr ⟨lo,h,rfl,B,D,rfl⟩
theorem Runs.two {p:List (Nat×Nat×Nat)}{i e B na O D nb L:Nat}(h:Runs b arr 0 p e)(h1:p[i]?=some (B,na,O))(h2:p[i+1]?=some (D,nb,L)) :
  D=B+na/\0<na/\0<nb/\D+nb<=e/\Rng b arr B D/\Rng b arr D (D+nb) /\
   ((∀i,i<B\/D+nb<=i->arr'[i]?=arr[i]?)->Rng b arr' B (D+nb)->Runs b arr' 0 ((p.set i (B,na+nb,O)).eraseIdx (i+1)) e):=by
 obtain ⟨l1,e1⟩:=Yaj.mp h1;obtain ⟨l2,e2⟩:=Yaj.mp h2;have d:p=p.take i++(B,na,O)::(D,nb,L)::p.drop (i+2):=by
  conv=>lhs;rw [<-Ycw i p,Yde l1,e1,Yde l2,e2]
 have Y:(p.take i).length=i:=by rw [Ybj];lia
 generalize p.take i=u at d Y;generalize p.drop (i+2)=v at d;subst d;obtain ⟨m,k1,Z,k3,k4,k5,k6,k7,U⟩:=Runs.app.mp h;have Z:B=m:=Z;have k3:0<na:=k3;have k5:D=m+na:=k5;have k6:0<nb:=k6;have k4:Rng b arr m (m+na):=k4;have k7:Rng b arr (m+na) (m+na+nb):=k7;have U:Runs b arr (m+na+nb) v e:=U;subst Z k5;have k9:B+na+nb+v.length<=e:=U.le;refine ⟨rfl,k3,k6,by lia,k4,k7,λho hr=>?_⟩;have es:((u++(B,na,O)::(B+na,nb,L)::v).set i (B,na+nb,O)).eraseIdx (i+1)=u++(B,na+nb,O)::v:=by
  rw [List.set_append,if_neg (by lia),Y,Ycg,List.set_cons_zero,List.eraseIdx_append_of_length_le (by lia),Y,Nat.add_sub_cancel_left]
  rfl
 rw [es];refine Runs.app.mpr ⟨B,k1.keep λj j1 j2=>ho j (.inl j2),rfl,by show 0<na+nb;lia,by show Rng b arr' B (B+(na+nb));rw [<-Nat.add_assoc];exact hr,?_⟩;show Runs b arr' (B+(na+nb)) v e;rw [<-Nat.add_assoc];exact U.keep λj j1 j2=>ho j (.inr j1)
theorem Runs.pow:∀{p:List (Nat×Nat×Nat)}{s e:Nat}(i:Nat)(f:Nat×Nat×Nat->Nat×Nat×Nat),(∀x,(f x).1=x.1/\(f x).2.1=x.2.1)->Runs b arr s p e->Runs b arr s (p.modify i f) e
 | [],_,_,i,f,_,h=>by cases i <;> exact h
 | x::p,s,e,0,f,hf,h=>by
  rw [List.modify_zero_cons];obtain ⟨q1,q2⟩:=hf x;refine ⟨q1.trans h.1,by rw [q2];exact h.2.1,by rw [q2];exact h.2.2.1,by rw [q2];exact h.2.2.2⟩
 | x::p,s,e,i+1,f,hf,h=>by
  rw [List.modify_succ_cons];exact ⟨h.1,h.2.1,h.2.2.1,Runs.pow i f hf h.2.2.2⟩
theorem Runs.one (W:WO b){p:List (Nat×Nat×Nat)}{e:Nat}(h:Runs b arr 0 p e)(B:p.length<=1):Rng b arr 0 e:=by
 match p,h,B with
 | [],h,_=>
  have h:0=e:=h;subst h;intro i j x y i1 i2 L
  lia
 | [x],h,_=>
  have D:0+x.2.1=e:=h.2.2.2;rw [<-D];exact h.2.2.1
end
section
variable {M:Model}{A:Around}{E:EX}{s:Shared}{kd:SortKind}{b:Keyed->Keyed->Bool}{good:Keyed->Prop}
structure SI (b:Keyed->Keyed->Bool)(kd:SortKind)(st0 st:SortSt)(lo:Nat):Prop where
 ki:kindOf st=kd
 fa:failedOf st=none
 pm:(arrOf st).Perm (arrOf st0)
 ru:Runs b (arrOf st) 0 (pendingOf st).toList lo
theorem SI.size {j st:SortSt}{lo:Nat}(h:SI b kd j st lo):(arrOf st).size=(arrOf j).size:=h.pm.size_eq
theorem SI.merge (W:WO b)(L:Ui M A E s kd b good){D st:SortSt}{lo i:Nat}{Q:Bool->SortSt->Prop}(G:AllG good (arrOf D))(h:SI b kd D st lo)(aa:lo<=(arrOf D).size)(hi:i+1<(pendingOf st).size)(q:∀B,SI b kd D B lo->(pendingOf B).size+1=(pendingOf st).size->(∀i,lo<=i->(arrOf B)[i]?=(arrOf st)[i]?)->Q true B):wpS M A E s (mergeAt' i) Q st:=by
 obtain ⟨⟨O,na,U⟩,Z⟩:∃x,(pendingOf st)[i]?=some x:=⟨_,Yeh (by lia)⟩;obtain ⟨⟨sb,nb,ab⟩,p2⟩:∃x,(pendingOf st)[i+1]?=some x:=⟨_,Yeh hi⟩;have two:=λarr'=>Runs.two (arr':=arr') h.ru (by rw [Ybx];exact Z) (by rw [Ybx];exact p2);obtain ⟨t1,t2,t3,t4,t5,t6,_⟩:=two (arrOf st);have ac:=h.size;refine XD W L h.ki h.fa (G.perm h.pm) Z p2 t1 t2 t3 (by lia) t5 t6 λB k1 k2 k3 k4 Y k6=>?_;have e0:arrOf (setPending st (((pendingOf st).setIfInBounds i (O,na+nb,U)).eraseIdxIfInBounds (i+1)))=arrOf st:=rfl;rw [e0] at k4 Y;have e1:pendingOf B=((pendingOf st).setIfInBounds i (O,na+nb,U)).eraseIdxIfInBounds (i+1):=k2;have e2:(pendingOf B).toList=((pendingOf st).toList.set i (O,na+nb,U)).eraseIdx (i+1):=by
  rw [e1,Array.toList_eraseIdxIfInBounds,Array.toList_setIfInBounds]
 refine q B ⟨k1.trans h.ki,k3.trans h.fa,k4.trans h.pm,?_⟩ ?_ λj hj=>Y j (.inr (by lia))
 ·rw [e2];exact (two (arrOf B)).2.2.2.2.2.2 Y k6
 ·have:=Ybi List.length e2;rw [Ybd,List.length_eraseIdx,List.length_set,Ybd,if_pos hi] at this
  lia
theorem J5 (W:WO b)(L:Ui M A E s kd b good){st:SortSt}{Q:Unit->SortSt->Prop}(hs:kindOf st=kd)(hf:failedOf st=none)(hp:pendingOf st=#[])(G:AllG good (arrOf st))(q:∀ad,(arrOf ad).Perm (arrOf st)->failedOf ad=none->Rng b (arrOf ad) 0 (arrOf st).size->Q () ad):wpS M A E s sortRuns' Q st:=by
 rw [sortRuns'_eq];refine Yac (wpS_get ?_);dsimp only;generalize hsz:(arrOf st).size=size at q;generalize minRun' size size 0=Y;refine Yac (wpS_mono (Q:=λr aa=>r=(none,size)/\SI b kd st aa size) (Ybz (λk r aa=>∃lo,r=(none,lo)/\k<=lo/\lo<=size/\SI b kd st aa lo) ?_ ?_ ⟨0,rfl,Yad _,Yan _,hs,hf,.refl _,by rw [hp];rfl⟩) ?_)
 ·rintro k r aa _ hk ⟨lo,rfl,k1,k2,I⟩;dsimp only;split
  ·have:lo=size:=by lia
   subst this;exact Yae ⟨rfl,I⟩
  ·rename_i am;have s1:(arrOf aa).size=size:=I.size.trans hsz;refine Yac (VL W L I.ki (G.perm I.pm) (by lia) (by lia) λn O ah n1 n2 n3=>?_);have Z:SI b kd st O lo:=⟨ah.kd.trans I.ki,ah.fa.trans I.fa,ah.pm.trans I.pm,by rw [ah.pe];exact I.ru.keep λi _ hi=>ah.lw i hi⟩;dsimp only;have U:∀D n,SI b kd st D lo->0<n->Rng b (arrOf D) lo (lo+n)->SI b kd st (setPending D ((pendingOf D).push (lo,n,0))) (lo+n):=by
    intro D n I3 n1 n3;refine ⟨I3.ki,I3.fa,I3.pm,?_⟩;show Runs b (arrOf D) 0 ((pendingOf D).push (lo,n,0)).toList (lo+n);rw [Yed];exact I3.ru.push n1 n3
   have pow:∀D pw,SI b kd st D lo->SI b kd st (setPending D ((pendingOf D).modify ((pendingOf D).size-1) λx=>(x.1,x.2.1,pw))) lo:=by
    intro D pw I3;refine ⟨I3.ki,I3.fa,I3.pm,?_⟩;show Runs b (arrOf D) 0 ((pendingOf D).modify ((pendingOf D).size-1) λx=>(x.1,x.2.1,pw)).toList lo;rw [Array.toList_modify];exact I3.ru.pow _ _ λx=>⟨rfl,rfl⟩
   split
   ·rename_i ae;refine Yac (wpS_lift (wpAny_rule ⟨rfl,?_⟩));have s2:(arrOf O).size=size:=Z.size.trans hsz;refine Yac (YZ W L Z.ki (G.perm Z.pm) (by lia) n1 (by lia) n3 λD ac r3=>?_);have I3:SI b kd st D lo:=⟨ac.kd.trans Z.ki,ac.fa.trans Z.fa,ac.pm.trans Z.pm,by rw [ac.pe];exact Z.ru.keep λi _ hi=>ac.lw i hi⟩;rw [show (!true)=false from rfl,if_neg Yas];have hN:1<=min (size-lo) Y/\lo+min (size-lo) Y<=size:=by lia
    clear ae;generalize min (size-lo) Y=N at r3 hN;refine Yac (wpS_get ?_);cases hbk:(pendingOf D).back? with
    | none=>exact Yac (Ycj (Yae ⟨_,rfl,by lia,by lia,U D _ I3 (by lia) r3⟩))
    | some x=>
     obtain ⟨s1,n1,ag⟩:=x;dsimp only;refine Yac (wpS_mono (Q:=λr B=>r=(none,())/\SI b kd st B lo/\∀i,lo<=i->(arrOf B)[i]?=(arrOf D)[i]?) (Ybz (λ_ r B=>r=(none,())/\SI b kd st B lo/\∀i,lo<=i->(arrOf B)[i]?=(arrOf D)[i]?) ?_ (λ_ _ z=>z) ⟨rfl,I3,λ_ _=>rfl⟩) ?_)
     ·rintro k' r B _ ai ⟨rfl,I4,same⟩;refine Yac (wpS_get ?_);by_cases hz:(pendingOf B).size > 1
      ·obtain ⟨⟨z1,z2,z3⟩,pz⟩:∃x,(pendingOf B)[(pendingOf B).size-2]?=some x:=⟨_,Yeh (by lia)⟩;rw [if_pos hz,pz];dsimp only;split
       ·exact Yae ⟨rfl,I4,same⟩
       ·refine Yac (I4.merge W L G (by lia) (by lia) λaj I5 _ ab=>?_);rw [show (!true)=false from rfl,if_neg Yas];exact Yae ⟨rfl,I5,λi hi=>(ab i hi).trans (same i hi)⟩
      ·rw [if_neg hz];exact Yae ⟨rfl,I4,same⟩
     ·rintro r B ⟨rfl,I4,same⟩;dsimp only;refine Yac (Ycj (Yac (Ycj (Yae ⟨_,rfl,by lia,by lia,?_⟩))));refine U _ _ (pow B _ I4) (by lia) λi j x y i1 i2 i3 e1 e2=>?_;have e1:(arrOf B)[i]?=some x:=e1;have e2:(arrOf B)[j]?=some y:=e2;rw [same i i1] at e1;rw [same j (by lia)] at e2;exact r3 i j x y i1 i2 i3 e1 e2
   ·have hN:1<=n/\lo+n<=size:=by lia
    refine Yac (wpS_get ?_);cases hbk:(pendingOf O).back? with
    | none=>exact Yac (Ycj (Yae ⟨_,rfl,by lia,by lia,U O _ Z (by lia) n3⟩))
    | some x=>
     obtain ⟨s1,n1,ag⟩:=x;dsimp only;refine Yac (wpS_mono (Q:=λr B=>r=(none,())/\SI b kd st B lo/\∀i,lo<=i->(arrOf B)[i]?=(arrOf O)[i]?) (Ybz (λ_ r B=>r=(none,())/\SI b kd st B lo/\∀i,lo<=i->(arrOf B)[i]?=(arrOf O)[i]?) ?_ (λ_ _ z=>z) ⟨rfl,Z,λ_ _=>rfl⟩) ?_)
     ·rintro k' r B _ ai ⟨rfl,I4,same⟩;refine Yac (wpS_get ?_);by_cases hz:(pendingOf B).size > 1
      ·obtain ⟨⟨z1,z2,z3⟩,pz⟩:∃x,(pendingOf B)[(pendingOf B).size-2]?=some x:=⟨_,Yeh (by lia)⟩;rw [if_pos hz,pz];dsimp only;split
       ·exact Yae ⟨rfl,I4,same⟩
       ·refine Yac (I4.merge W L G (by lia) (by lia) λaj I5 _ ab=>?_);rw [show (!true)=false from rfl,if_neg Yas];exact Yae ⟨rfl,I5,λi hi=>(ab i hi).trans (same i hi)⟩
      ·rw [if_neg hz];exact Yae ⟨rfl,I4,same⟩
     ·rintro r B ⟨rfl,I4,same⟩;dsimp only;refine Yac (Ycj (Yac (Ycj (Yae ⟨_,rfl,by lia,by lia,?_⟩))));refine U _ _ (pow B _ I4) (by lia) λi j x y i1 i2 i3 e1 e2=>?_;have e1:(arrOf B)[i]?=some x:=e1;have e2:(arrOf B)[j]?=some y:=e2;rw [same i i1] at e1;rw [same j (by lia)] at e2;exact n3 i j x y i1 i2 i3 e1 e2
 ·rintro r aa ⟨lo,rfl,k1,k2,I⟩;have:lo=size:=by simp at k1;lia
  subst this;exact ⟨rfl,I⟩
 ·rintro r aa ⟨rfl,I⟩;dsimp only;refine Yac (wpS_mono (Q:=λr O=>r=(none,())/\SI b kd st O size/\(pendingOf O).size<=1) (Ybz (λk r O=>r=(none,())/\SI b kd st O size/\(pendingOf O).size+k<=size+1) ?_ ?_ ⟨rfl,I,?_⟩) ?_)
  ·rintro k r O _ hk ⟨rfl,Z,hz⟩;refine Yac (wpS_get ?_);split
   ·rename_i h1;exact Yae ⟨rfl,Z,h1⟩
   ·rename_i h1;generalize hi:(if Option.any _ _=true then (pendingOf O).size-2-1 else (pendingOf O).size-2)=i;have ak:i+1<(pendingOf O).size:=by
     rw [<-hi];have key:∀(c:Prop)[Decidable c](m:Nat),(if c then m-1 else m)<=m:=λc _ m=>by split <;> lia
     refine Nat.lt_of_le_of_lt (Nat.succ_le_succ (key _ ((pendingOf O).size-2))) ?_
     lia
    refine Yac (Z.merge W L G (by lia) ak λD I3 h3 _=>?_);rw [show (!true)=false from rfl,if_neg Yas];exact Yae ⟨rfl,I3,by lia⟩
  ·rintro r O ⟨rfl,Z,hz⟩;exact ⟨rfl,Z,by simp at hz;lia⟩
  ·have:=I.ru.le;rw [Ybd] at this
   lia
  ·rintro r O ⟨rfl,Z,h1⟩;refine Yae (q O Z.pm Z.fa ?_);exact Z.ru.one W (by rw [Ybd];exact h1)
end
section
variable {prog:Program}{w:World}{A:Around}{E:EX}{s:Shared}{kd:SortKind}{b:Keyed->Keyed->Bool}{good:Keyed->Prop}
noncomputable def OS (s:Shared)(a:Addr)(vs:List Value):Shared:={ s with heap:=((s.heap.update a (Obj.mapSeq λ_=>#[])).push (seqObj "tuple" vs.toArray 0)).push (seqObj "list" #[] 0) }
theorem Zaf (W:WO b){arr:Array Keyed}(h:arr.size<2):Rng b arr 0 arr.size:=λi j x y i1 i2 L D B=>by
 have:i=j:=by lia
 subst this;rw [D] at B;cases B;exact W.le_refl _
theorem VM {a:Addr}{vs:List Value}{n:Nat}{P:PySem.Fin->Shared->Prop}(W:WO b)(ha:s.heap.get? a=some (seqObj "list" vs.toArray n))(hz:vs.length<=sizeLine)(hg:∀v∈vs,good (v,v))(hk:2<=vs.length->∀{E':EX}{R:SortKind->Shared->Prop},R kd (OS s a vs)->wpAny (model prog w) A (keyKind' vs.toArray) R E' (OS s a vs))(L:Ui (model prog w) A E (OS s a vs) kd b good)(q:∀out:Array Keyed,out.Perm (pairsOf vs)->Rng b out 0 vs.length->P (.done (.ret .none)) { s with heap:=sortedHeap s.heap a vs (out.map (·.2)) }) :
  wpAny (model prog w) A (Builtin.«list.sort» { pos:=[.ref a] }) P E s:=by
 rw [list_sort_plain];refine Yaa (Ycn ha rfl ?_);refine Yaa (Ydv ha rfl ?_ (by rw [Yar];exact hz) (Yan _));have B:=get?_update_seq ha (λ_=>#[]);generalize (if ((#[]:Array Value).size == vs.toArray.size)=true then n else n+1)=n1 at B;refine Yaa (seqEpoch_at B rfl ?_);refine Yaa (wpAny_newTuple ?_ hz);refine Yaa (wpAny_newList ?_ (Yan _));refine Ydc ?_;have j:(OS s a vs).heap.get? a=some (seqObj "list" #[] n1):=Yao _ (Yao _ B);show wpAny (model prog w) A _ P E (OS s a vs);have O:(pairsOf vs).size=vs.length:=pairsOf_size vs;dsimp only [Yar];split
 ·rename_i h2;have h2:vs.length<2:=by simpa using h2
  refine Yaa (Yaf ?_);refine Yaa (Ybr (Q:=λr s'=>s'=OS s a vs/\failedOf r.2=none/\(arrOf r.2).Perm (pairsOf vs)/\Rng b (arrOf r.2) 0 vs.length) (Yaf ⟨rfl,rfl,.refl _,?_⟩) ?_ (λ_ _ z=>z))
  ·have:=Zaf W (arr:=pairsOf vs) (by lia);rw [O] at this;exact this
  ·rintro ⟨_,st⟩ s' ⟨rfl,D,U,Z⟩;dsimp only;refine Yaa (seqEpoch_at j rfl ?_);have D:failedOf st=none:=D;have hl:((arrOf st).map (·.2)).size<=sizeLine+1:=by
    have this:(arrOf st).size=(pairsOf vs).size:=U.size_eq;rw [pairsOf_size] at this;rw [Array.size_map]
    lia
   refine Yaa (Ydv j rfl ?_ (Yan _) hl);have:(n1 != n1)=false:=by simp
   rw [this,D];exact Yaf (q (arrOf st) U Z)
 ·rename_i h2;have h2:¬ vs.length<2:=by simpa using h2
  refine Yaa (hk (by lia) ?_);refine Yaa (Ybr (Q:=λr s'=>s'=OS s a vs/\failedOf r.2=none/\(arrOf r.2).Perm (pairsOf vs)/\Rng b (arrOf r.2) 0 vs.length) ?_ ?_ (λ_ _ z=>z))
  ·refine J5 (st:=SortSt.mk' kd (vs.toArray.zip vs.toArray) #[] 7 none) (Q:=λ_ st=>failedOf st=none/\(arrOf st).Perm (pairsOf vs)/\Rng b (arrOf st) 0 vs.length) W L rfl rfl rfl (λx Y=>?_) λaa k1 k2 k3=>⟨k2,k1,?_⟩
   ·have Y:x∈(pairsOf vs).toList:=Y;rw [pairsOf_toList] at Y;obtain ⟨e,hm⟩:=mem_zip_self Y;obtain ⟨x1,x2⟩:=x;have e:x1=x2:=e;subst e;exact hg _ hm
   ·have e:(arrOf (SortSt.mk' kd (vs.toArray.zip vs.toArray) #[] 7 none)).size=vs.length:=O;rw [e] at k3;exact k3
  ·rintro ⟨_,st⟩ s' ⟨rfl,D,U,Z⟩;dsimp only;refine Yaa (seqEpoch_at j rfl ?_);have D:failedOf st=none:=D;have hl:((arrOf st).map (·.2)).size<=sizeLine+1:=by
    have this:(arrOf st).size=(pairsOf vs).size:=U.size_eq;rw [pairsOf_size] at this;rw [Array.size_map]
    lia
   refine Yaa (Ydv j rfl ?_ (Yan _) hl);have:(n1 != n1)=false:=by simp
   rw [this,D];exact Yaf (q (arrOf st) U Z)
theorem JZ {h:Heap}{a c:Addr}{o:Obj}{f:Obj->Obj}(j:c≠a)(e:h.get? c=some o):(h.update a f).get? c=some o:=(Heap.get?_update_ne h c a f j).trans e
theorem Vg {l:Addr}{vs:List Value}{Q:EX}(W:WO b)(D:s.heap.IsList l vs.toArray)(hz:vs.length<=sizeLine)(O:∀v∈vs,good (v,v))(U:∀h':Heap,(∀c o,s.heap.get? c=some o->h'.get? c=some o)->2<=vs.length->∀{Y:EX}{R:SortKind->Shared->Prop},R kd { s with heap:=h' }->wpAny (model prog w) A.in1.in1 (keyKind' vs.toArray) R Y { s with heap:=h' })(L:∀h':Heap,(∀c o,s.heap.get? c=some o->h'.get? c=some o)->Ui (model prog w) A.in1.in1 E { s with heap:=h' } kd b good)(q:∀out:Array Keyed,out.Perm (pairsOf vs)->Rng b out 0 vs.length->Q (.ref (s.heap.objs.size+1)) { s with heap:=sortedAll s.heap vs (out.map (·.2)) }) :
  wpAny (model prog w) A (call (.builtin "sorted") [.ref l]) Q E s:=by
 refine Calls.call_function_entry kind_sorted plain_sorted entry_sorted (args_sorted1 _) ?_;unfold Builtin.sorted;refine Yaa (Yaf ?_);refine Yaa (collect_list D ?_ hz);refine Yaa (wpAny_newList ?_ hz);refine Yaa (Ydc ?_);generalize hh1:(s.heap.push (seqObj "list" #[] 0)).update s.heap.objs.size (Obj.mapSeq λx=>x++vs.toArray)=h1;have j:h1.objs.size=s.heap.objs.size+1:=by rw [<-hh1,Heap.size_update,Ycu]
 have Z:∀c o,s.heap.get? c=some o->h1.get? c=some o:=λc o e=>by
  rw [<-hh1];exact JZ (Yay (Yal e)) (Yao _ e)
 generalize hh2:h1.push { cls:=Value.type "list", data:=Data.seq vs.toArray }=h2;have ha:h2.get? h1.objs.size=some (seqObj "list" vs.toArray 0):=by rw [<-hh2];exact Ybl _ rfl
 have k2:∀c o,s.heap.get? c=some o->h2.get? c=some o:=λc o e=>by
  rw [<-hh2];exact Yao _ (Z c o e)
 have B:∀c o,s.heap.get? c=some o->(OS { s with heap:=h2 } h1.objs.size vs).heap.get? c=some o:=λc o e=>by
  unfold OS;refine Yao _ (Yao _ (JZ ?_ (k2 c o e)));have:=Yal e;rw [j];exact Yay (Nat.lt_succ_of_lt this)
 refine wpAny_call_entry (s:={ s with heap:=h2 }) slot_list_sort ⟨_,ha,rfl⟩ entry_list_sort ?_ (args_list_sort _);refine VM (s:={ s with heap:=h2 }) W ha hz O (λh=>U _ B h) (L _ B) λout p r=>⟨.none,rfl,Yaf ⟨_,rfl,?_⟩⟩;have e:({ s with heap:=sortedHeap h2 h1.objs.size vs (out.map (·.2)) }:Shared)={ s with heap:=sortedAll s.heap vs (out.map (·.2)) }:=by
  unfold sortedAll;rw [j,<-hh2,<-hh1]
 show Q (.ref h1.objs.size) { s with heap:=sortedHeap h2 h1.objs.size vs (out.map (·.2)) };rw [e,j];exact q out p r
noncomputable def Zil:Keyed->Keyed->Bool:=λx y=>match x.1,y.1 with
 | .int i _,.int j _=>decide (i<j)
 | _,_=>false
noncomputable def U3:Value->Int
 | .int i _=>i
 | _=>0
end
section
variable {X:Cx}(K:W.Frag)
noncomputable abbrev Tri:=Int×Int×Int
inductive Trs (H:Hp):List V->List Tri->Prop
 | nil:Trs H [] []
 | cons {p:Addr} {a b c:Int} {xs:List V} {rs:List Tri}:H p=some (.tup [.int a,.int b,.int c])->Trs H xs rs->Trs H (.ref p::xs) ((a,b,c)::rs)
theorem Trs.len {H:Hp}{xs:List V}{rs:List Tri}(h:Trs H xs rs):xs.length=rs.length:=by
 induction h with
 | nil=>rfl
 | cons _ _ ih=>rw [Ybm,Ybm,ih]
theorem Trs.snoc {H:Hp}{xs:List V}{rs:List Tri}(h:Trs H xs rs){p:Addr}{a b c:Int}(e:H p=some (.tup [.int a,.int b,.int c])):Trs H (xs++[.ref p]) (rs++[(a,b,c)]):=by
 induction h with
 | nil=>exact .cons e .nil
 | cons e1 _ ih=>exact .cons e1 ih
theorem Trs.keep {H H':Hp}{xs:List V}{rs:List Tri}(h:Trs H xs rs)(k:∀p ys,H p=some (.tup ys)->H' p=some (.tup ys)):Trs H' xs rs:=by
 induction h with
 | nil=>exact .nil
 | cons e1 _ ih=>exact .cons (k _ _ e1) ih
theorem Trs.same {H H':Hp}{xs:List V}{rs:List Tri}(h:Trs H xs rs)(k:Same H H'):Trs H' xs rs:=h.keep λp ys e=>k p _ e
theorem Trs.get {H:Hp}{xs:List V}{rs:List Tri}(g:Trs H xs rs){i:Nat}{x:V}(h:xs[i]?=some x):∃t r,x=.ref t/\H t=some (.tup [.int r.1,.int r.2.1,.int r.2.2])/\rs[i]?=some r:=by
 induction g generalizing i with
 | nil=>simp at h
 | cons e _ ih=>cases i with
  | zero=>
   simp at h;subst h;exact ⟨_,(_,_,_),rfl,e,rfl⟩
  | succ i=>
   rw [List.getElem?_cons_succ] at h ⊢;exact ih h
theorem Trs.at {H:Hp}{xs:List V}{rs:List Tri}(h:Trs H xs rs){i:Nat}{r:Tri}(e:rs[i]?=some r):∃t,xs[i]?=some (.ref t)/\H t=some (.tup [.int r.1,.int r.2.1,.int r.2.2]):=by
 have hi:i<xs.length:=by rw [h.len];exact (Yaj.mp e).1
 obtain ⟨t,r',B,D,j⟩:=h.get (Yap hi);rw [e] at j;cases j;exact ⟨t,by rw [Yap hi,B],D⟩
noncomputable def trD (r:Tri):PyData:=.tuple [.int r.1,.int r.2.1,.int r.2.2]
theorem Trs.dats {K:W.Frag}{H:Hp}{xs:List V}{rs:List Tri}(h:Trs H xs rs):DatVs K H xs (rs.map trD):=by
 induction h with
 | nil=>exact .nil
 | cons e _ ih=>exact .cons (.tup (SqT.of e) (.cons (.int _) (.cons (.int _) (.cons (.int _) .nil)))) ih
theorem Zdr (r q:Tri):PyData.eqv (trD r) (trD q)=decide (r=q):=by
 obtain ⟨a,b,c⟩:=r;obtain ⟨d,e,f⟩:=q;simp only [trD,PyData.eqv,PyData.eqvAll,Prod.mk.injEq];by_cases h1:a=d <;> by_cases h2:b=e <;> by_cases j:c=f <;> simp [h1,h2,j]
theorem VN:∀rs qs:List Tri,PyData.eqvAll (rs.map trD) (qs.map trD)=decide (rs=qs)
 | [],[]=>by simp [PyData.eqvAll]
 | [],_::_=>by simp [PyData.eqvAll]
 | _::_,[]=>by simp [PyData.eqvAll]
 | r::rs,q::qs=>by
  rw [Yaq,Yaq];simp only [PyData.eqvAll,Zdr,VN rs qs];by_cases h1:r=q <;> by_cases h2:rs=qs <;> simp [h1,h2]
theorem VO:∀rs:List Tri,PyData.canLayAll0 (rs.map trD)=true
 | []=>by simp [PyData.canLayAll0]
 | r::rs=>by
  rw [Yaq];simp [PyData.canLayAll0,trD,PyData.canLay0,VO rs]
theorem OT:∀rs:List Tri,PyData.depthAll (rs.map trD)<=2
 | []=>by simp [PyData.depthAll]
 | r::rs=>by
  have ih:=OT rs;rw [Yaq];simp only [PyData.depthAll,trD,PyData.depth]
  lia
theorem Vh (n:Int)(rs:List Tri):SeqAt.shaped (.tuple [.int n,.list (rs.map trD)])=true:=by
 unfold SeqAt.shaped;rw [Yby];have:=OT rs;refine ⟨by simp only [PyData.canLay0,PyData.canLayAll0,VO rs,Bool.and_self],Ybh ?_⟩;simp only [PyData.depth,PyData.depthAll]
 lia
theorem Zag (n m:Int)(rs j:List Tri):PyData.eqv (.tuple [.int n,.list (rs.map trD)]) (.tuple [.int m,.list (j.map trD)])=(decide (n=m) && decide (rs=j)):=by
 simp only [PyData.eqv,PyData.eqvAll,VN,Bool.and_true];by_cases h:n=m <;> simp [h]
theorem Zhd (h:X.K=K:=by rfl):SlR X (ZhJ K):=h▸Zey
end
noncomputable def Nd (ts:List Tri)(c:Int)(r:Tri):Prop:=2<=c/\ts[(c-2).toNat]?=some r
noncomputable def At (ts:List Tri)(c lo:Int):Prop:=c=0\/c=1\/∃r,Nd ts c r/\lo<r.1
noncomputable def TabOk (ts:List Tri):Prop:=∀(i:Nat)(r:Tri),ts[i]?=some r->(0<=r.1/\r.1<30)/\At ts r.2.1 r.1/\At ts r.2.2 r.1
theorem Nd.one {ts:List Tri}{c:Int}{r r':Tri}(h:Nd ts c r)(h':Nd ts c r'):r=r':=by
 have:=h.2.symm.trans h'.2;cases this
 rfl
theorem Nd.lt {ts:List Tri}{c:Int}{r:Tri}(h:Nd ts c r):c<ts.length+2:=by
 have:=(Yaj.mp h.2).1;have:=h.1
 lia
theorem Nd.app {ts:List Tri}{c:Int}{r:Tri}(h:Nd ts c r)(us:List Tri):Nd (ts++us) c r:=
 ⟨h.1,by rw [Ybp (Yaj.mp h.2).1];exact h.2⟩
theorem Nd.last (ts:List Tri)(r:Tri):Nd (ts++[r]) (ts.length+2) r:=by
 refine ⟨by lia,?_⟩;have e:((ts.length:Int)+2-2).toNat=ts.length:=by lia
 rw [e,Ybw (Yad _),Ycg]
 rfl
theorem At.app {ts:List Tri}{c lo:Int}(h:At ts c lo)(us:List Tri):At (ts++us) c lo:=by
 rcases h with h | h | ⟨r,h,g⟩
 ·exact .inl h
 ·exact .inr (.inl h)
 ·exact .inr (.inr ⟨r,h.app us,g⟩)
theorem At.mono {ts:List Tri}{c lo lo':Int}(h:At ts c lo)(j:lo'<=lo):At ts c lo':=by
 rcases h with h | h | ⟨r,h,g⟩
 ·exact .inl h
 ·exact .inr (.inl h)
 ·exact .inr (.inr ⟨r,h,by lia⟩)
theorem At.lt {ts:List Tri}{c lo:Int}(h:At ts c lo):0<=c/\c<ts.length+2:=by
 rcases h with rfl | rfl | ⟨r,h,g⟩
 ·lia
 ·lia
 ·have:=h.lt;have:=h.1
  lia
theorem At.nd {ts:List Tri}{c lo:Int}(h:At ts c lo)(j:1<c):∃r,Nd ts c r/\lo<r.1:=by
 rcases h with h | h | h
 ·lia
 ·lia
 ·exact h
theorem TabOk.nil:TabOk []:=λi r h=>by simp at h
theorem TabOk.snoc {ts:List Tri}{r:Tri}(h:TabOk ts)(h0:0<=r.1/\r.1<30)(h1:At ts r.2.1 r.1)(h2:At ts r.2.2 r.1):TabOk (ts++[r]):=by
 intro i q e;by_cases hi:i<ts.length
 ·rw [Ybp hi] at e;obtain ⟨a,b,c⟩:=h i q e;exact ⟨a,b.app _,c.app _⟩
 ·rw [Ybw (by lia)] at e;have j:i-ts.length=0:=by
   have:=(Yaj.mp e).1;rw [Yat] at this
   lia
  rw [j] at e;cases e;exact ⟨h0,h1.app _,h2.app _⟩
theorem TabOk.nd {ts:List Tri}{c:Int}{r:Tri}(h:TabOk ts)(n:Nd ts c r):(0<=r.1/\r.1<30)/\At ts r.2.1 r.1/\At ts r.2.2 r.1:=h _ r n.2
inductive Has (ts:List Tri):Int->List Int->Prop
 | one:Has ts 1 []
 | low {c:Int} {r:Tri} {rs:List Int}:Nd ts c r->Has ts r.2.1 rs->Has ts c rs
 | high {c:Int} {r:Tri} {rs:List Int}:Nd ts c r->Has ts r.2.2 rs->Has ts c (r.1::rs)
theorem Has.zero {ts:List Tri}{rs:List Int}:¬ Has ts 0 rs:=by
 intro h;cases h with
 | low n _=>exact absurd n.1 (by decide)
 | high n _=>exact absurd n.1 (by decide)
theorem Has.at1 {ts:List Tri}{rs:List Int}:Has ts 1 rs↔rs=[]:=by
 constructor
 ·intro h;cases h with
  | one=>rfl
  | low n _=>exact absurd n.1 (by decide)
  | high n _=>exact absurd n.1 (by decide)
 ·rintro rfl;exact .one
theorem Has.small {ts:List Tri}{c:Int}{rs:List Int}(h0:0<=c)(h1:¬ 1<c):Has ts c rs↔(c=1/\rs=[]):=by
 have j:c=0\/c=1:=by lia
 rcases j with rfl | rfl
 ·exact ⟨λh=>absurd h Has.zero,λh=>absurd h.1 (by decide)⟩
 ·rw [Has.at1];exact ⟨λh=>⟨rfl,h⟩,λh=>h.2⟩
theorem Has.nil {ts:List Tri}{c:Int}{r:Tri}(n:Nd ts c r):Has ts c []↔Has ts r.2.1 []:=by
 constructor
 ·intro h;cases h with
  | one=>exact absurd n.1 (by decide)
  | low n' h'=>rw [n.one n'];exact h'
 ·exact .low n
theorem Has.cons {ts:List Tri}{c:Int}{r:Tri}{x:Int}{rs:List Int}(n:Nd ts c r):Has ts c (x::rs)↔(Has ts r.2.1 (x::rs)\/(x=r.1/\Has ts r.2.2 rs)):=by
 constructor
 ·intro h;cases h with
  | low n' h'=>rw [n.one n'];exact .inl h'
  | high n' h'=>rw [n.one n'];exact .inr ⟨rfl,h'⟩
 ·rintro (h | ⟨rfl,h⟩)
  ·exact .low n h
  ·exact .high n h
theorem Has.gt {ts:List Tri}(T:TabOk ts){c:Int}{rs:List Int}(h:Has ts c rs):∀{lo x:Int}{xs:List Int},At ts c lo->rs=x::xs->lo<x:=by
 induction h with
 | one=>intro lo x xs _ e;cases e
 | @low c r rs n h ih=>
  intro lo x xs a e;obtain ⟨r',j,g⟩:=a.nd (by have:=n.1;lia);rw [j.one n] at g;have:=ih (T.nd n).2.1 e
  lia
 | @high c r rs n h ih=>
  intro lo x xs a e;obtain ⟨r',j,g⟩:=a.nd (by have:=n.1;lia);rw [j.one n] at g;cases e;exact g
theorem Has.skip {ts:List Tri}(T:TabOk ts){c:Int}{r:Tri}{x:Int}{xs:List Int}(n:Nd ts c r)(h:r.1≠x):Has ts c (x::xs)↔Has ts r.2.1 (x::xs):=by
 rw [Has.cons n];exact ⟨λz=>z.elim id λz=>absurd z.1.symm h,.inl⟩
theorem Has.take {ts:List Tri}(T:TabOk ts){c:Int}{r:Tri}{x:Int}{xs:List Int}(n:Nd ts c r)(h:r.1=x):Has ts c (x::xs)↔Has ts r.2.2 xs:=by
 rw [Has.cons n];constructor
 ·rintro (z | z)
  ·have:=z.gt T (T.nd n).2.1 rfl
   lia
  ·exact z.2
 ·intro z;exact .inr ⟨h.symm,z⟩
theorem Has.none {ts:List Tri}(T:TabOk ts){c:Int}{r:Tri}{x:Int}{xs:List Int}(n:Nd ts c r)(h:x<r.1):¬ Has ts c (x::xs):=by
 rw [Has.cons n];rintro (z | z)
 ·have:=z.gt T (T.nd n).2.1 rfl
  lia
 ·lia
noncomputable def JE (fs:List Int)(n:Int):Option Int:=if n=0 then some 0 else if n=1 then some 1 else (fs.idxOf? n).map λ(i:Nat)=>(i:Int)+2
theorem idxOf?_app (fs:List Int)(n m:Int)(B:m ∉ fs):(fs++[m]).idxOf? n=if n=m then some fs.length else fs.idxOf? n:=by
 induction fs with
 | nil=>
  by_cases h:n=m
  ·subst h;simp [List.idxOf?,List.findIdx?_cons]
  ·have:¬ m=n:=λz=>h z.symm;simp [List.idxOf?,List.findIdx?_cons,h,this]
 | cons a fs ih=>
  have h1:m ∉ fs:=λz=>B (Ybc _ z);have h2:a≠m:=λz=>B (z▸Yaw);have j:=ih h1;rw [List.cons_append,List.idxOf?_cons,List.idxOf?_cons,j,Ybm];by_cases ha:(a == n)=true
  ·have:a=n:=by simpa using ha
   subst this;simp [h2]
  ·by_cases D:n=m
   ·subst D;simp [ha]
   ·simp [ha,D]
theorem ZbQ (fs:List Int)(n m:Int)(j:JE fs m=none):JE (fs++[m]) n=if n=m then some ((fs.length:Int)+2) else JE fs n:=by
 unfold JE at j ⊢;by_cases h0:m=0
 ·rw [if_pos h0] at j;cases j
 rw [if_neg h0] at j;by_cases h1:m=1
 ·rw [if_pos h1] at j;cases j
 rw [if_neg h1] at j;have D:m ∉ fs:=by
  intro z;rw [Ydg,List.idxOf?_eq_none_iff] at j;exact j z
 rw [idxOf?_app fs n m D];by_cases B:n=m
 ·subst B;simp [h0,h1]
 ·simp [B]
theorem OU {fs:List Int}{n a:Int}(h:JE fs n=some a)(h1:1<n):2<=a/\fs[(a-2).toNat]?=some n:=by
 unfold JE at h;rw [if_neg (by lia),if_neg (by lia)] at h;cases hi:fs.idxOf? n with
 | none=>rw [hi] at h;cases h
 | some i=>
  rw [hi] at h;cases h;refine ⟨by show (2:Int)<=(i:Int)+2;lia,?_⟩;show fs[((i:Int)+2-2).toNat]?=some n;rw [show ((i:Int)+2-2).toNat=i by lia];rw [List.idxOf?_eq_some_iff] at hi;obtain ⟨j,e,_⟩:=hi;rw [Yap j,e]
theorem Oe (fs:List Int):JE fs 0=some 0:=by unfold JE;rw [if_pos rfl]
theorem OV (fs:List Int):JE fs 1=some 1:=by unfold JE;rw [if_neg (by decide),if_pos rfl]
theorem Zah {fs:List Int}{m:Int}(h:JE fs m=none):m≠0/\m≠1/\m ∉ fs:=by
 unfold JE at h;by_cases h0:m=0
 ·rw [if_pos h0] at h;cases h
 rw [if_neg h0] at h;by_cases h1:m=1
 ·rw [if_pos h1] at h;cases h
 rw [if_neg h1] at h;refine ⟨h0,h1,λz=>?_⟩;rw [Ydg,List.idxOf?_eq_none_iff] at h;exact h z
noncomputable def Said (ks:List Tri)(fs:List Int)(us:List Tri)(i:Nat):Prop:=∀(j:Nat)(x:Int),j<i->fs[j]?=some x->∃(r:Tri)(a b:Int),Nd ks x r/\JE fs r.2.1=some a/\JE fs r.2.2=some b/\us[j]?=some (r.1,a,b)
theorem Said.at {ks:List Tri}{fs:List Int}{us:List Tri}(S:Said ks fs us fs.length){c lo a:Int}(h:At ks c lo)(e:JE fs c=some a):At us a lo:=by
 rcases h with rfl | rfl | ⟨r,n,g⟩
 ·rw [Oe] at e;cases e;exact .inl rfl
 ·rw [OV] at e;cases e;exact .inr (.inl rfl)
 ·obtain ⟨h2,j⟩:=OU e (by have:=n.1;lia);obtain ⟨r',L,O,D,_,_,B⟩:=S _ _ (Yaj.mp j).1 j;rw [D.one n] at B;exact .inr (.inr ⟨_,⟨h2,B⟩,g⟩)
theorem Said.tab {ks:List Tri}{fs:List Int}{us:List Tri}(T:TabOk ks)(S:Said ks fs us fs.length)(B:us.length=fs.length):TabOk us:=by
 intro i q e;have hi:i<fs.length:=by rw [<-B];exact (Yaj.mp e).1
 obtain ⟨r,a,b,n,ha,D,j⟩:=S i _ hi (Yap hi);rw [e] at j;cases j;obtain ⟨h1,h2,L⟩:=T.nd n;exact ⟨h1,S.at h2 ha,S.at L D⟩
theorem Said.snoc {ks:List Tri}{fs:List Int}{us:List Tri}{i:Nat}(S:Said ks fs us i)(D:us.length=i){x:Int}{r:Tri}{a b:Int}(e:fs[i]?=some x)(n:Nd ks x r)(ha:JE fs r.2.1=some a)(L:JE fs r.2.2=some b):Said ks fs (us++[(r.1,a,b)]) (i+1):=by
 intro j y hj B;by_cases h:j<i
 ·obtain ⟨r',O,U,h1,h2,Y,Z⟩:=S j y h B;exact ⟨r',O,U,h1,h2,Y,by rw [Ybp (by lia)];exact Z⟩
 ·have:j=i:=by lia
  subst this;rw [e] at B;cases B;refine ⟨r,a,b,n,ha,L,?_⟩;rw [Ybw (by lia),D,Ycg]
  rfl
noncomputable def U4 (r:Tri):List Key:=[.inl r.1,.inl r.2.1,.inl r.2.2]
theorem ZbR {r q:Tri}(h:U4 r=U4 q):r=q:=by
 obtain ⟨a,b,c⟩:=r;obtain ⟨d,e,f⟩:=q;unfold U4 at h;simp only [List.cons.injEq,Sum.inl.injEq,and_true] at h;obtain ⟨rfl,rfl,rfl⟩:=h
 rfl
noncomputable def SeenOk (kvs:List (List Key×V))(ks:List Tri):Prop:=∀r:Tri,∀v:V,J8 kvs (U4 r)=some v->∃c:Int,v=.int c/\Nd ks c r
theorem SeenOk.add {kvs:List (List Key×V)}{ks:List Tri}(S:SeenOk kvs ks){r:Tri}{c:Int}(j:c=(ks.length:Int)+2):SeenOk (JT kvs (U4 r) (.int c)) (ks++[r]):=by
 intro q v e;rw [Jy] at e;by_cases h:U4 q=U4 r
 ·rw [if_pos h] at e;cases e;have:=ZbR h;subst this;exact ⟨c,rfl,j▸Nd.last ks q⟩
 ·rw [if_neg h] at e;obtain ⟨d,B,D⟩:=S q v e;exact ⟨d,B,D.app _⟩
noncomputable def chT (ks:List Tri)(x:Int):List Int:=match ks[(x-2).toNat]? with | some r=>[r.2.1,r.2.2] | none=>[]
theorem Ym {ks:List Tri}{x:Int}{r:Tri}(n:Nd ks x r):chT ks x=[r.2.1,r.2.2]:=by unfold chT;rw [n.2]
noncomputable def JP (ks:List Tri)(root:Int)(f:List Int):List Int:=root::f.flatMap (chT ks)
theorem JR (ks:List Tri)(root:Int)(f:List Int)(x:Int):JP ks root (f++[x])=JP ks root f++chT ks x:=by
 unfold JP;rw [List.flatMap_append,List.flatMap_cons,List.flatMap_nil,Ybt]
 rfl
noncomputable def New (f:List Int)(x:Int):Prop:=x≠0/\x≠1/\x ∉ f
theorem New.num {f:List Int}{x:Int}:New f x↔JE f x=none:=by
 constructor
 ·rintro ⟨h0,h1,h2⟩;unfold JE;rw [if_neg h0,if_neg h1,Ydg,List.idxOf?_eq_none_iff];exact h2
 ·intro h;exact Zah h
noncomputable def Ext (ks:List Tri)(root:Int)(f:List Int)(x:Int):Prop:=∃p q,JP ks root f=p++x::q/\New f x/\∀y∈p,¬ New f y
theorem Ext.one {ks:List Tri}{root:Int}{f:List Int}{x y:Int}(h:Ext ks root f x)(h':Ext ks root f y):x=y:=by
 obtain ⟨p,q,e,n,a⟩:=h;obtain ⟨D,Y,L,O,U⟩:=h';have j:(JP ks root f)[p.length]?=some x:=by rw [e,Ybw (Yad _),Ycg];rfl
 have B:(JP ks root f)[D.length]?=some y:=by rw [L,Ybw (Yad _),Ycg];rfl
 rcases Nat.lt_trichotomy p.length D.length with z | z | z
 ·rw [L,Ybp z] at j;exact absurd n (U x (Yau j))
 ·rw [z,B] at j;cases j
  rfl
 ·rw [e,Ybp z] at B;exact absurd O (a y (Yau B))
inductive Rch (ks:List Tri)(root:Int):List Int->Prop
 | nil:Rch ks root []
 | snoc {f:List Int} {x:Int}:Rch ks root f->Ext ks root f x->Rch ks root (f++[x])
noncomputable def Fin (ks:List Tri)(root:Int)(f:List Int):Prop:=∀y∈JP ks root f,¬ New f y
theorem Ext.notFin {ks:List Tri}{root:Int}{f:List Int}{x:Int}(h:Ext ks root f x)(g:Fin ks root f):False:=by
 obtain ⟨p,q,e,n,_⟩:=h;exact g x (by rw [e];exact Ycc _ Yaw) n
theorem Rch.at {ks:List Tri}{root:Int}{g:List Int}(h:Rch ks root g):∀i x,g[i]?=some x->Ext ks root (g.take i) x:=by
 induction h with
 | nil=>intro i x e;simp at e
 | @snoc f y h ex ih=>
  intro i x e;by_cases hi:i<f.length
  ·rw [Ybp hi] at e;rw [List.take_append_of_le_length (Ycs hi)];exact ih i x e
  ·have j:i=f.length:=by
    have:=(Yaj.mp e).1;rw [Yag,Yat] at this
    lia
   subst j;rw [Ybw (Yad _),Ycg] at e;cases e;rw [List.take_left];exact ex
theorem Rch.eq {ks:List Tri}{root:Int}{f g:List Int}(j:Rch ks root f)(D:Fin ks root f)(B:Rch ks root g)(L:Fin ks root g):f=g:=by
 have key:∀i,i<=f.length->i<=g.length->f.take i=g.take i:=by
  intro i
  induction i with
  | zero=>intro _ _;rw [List.take_zero,List.take_zero]
  | succ i ih=>
   intro h1 h2;have e:=ih (by lia) (by lia);have a:=j.at i _ (Yap (by lia));have b:=B.at i _ (Yap (by lia));rw [e] at a;have:=a.one b;rw [List.take_succ_eq_append_getElem (by lia),List.take_succ_eq_append_getElem (by lia),e,this]
 rcases Nat.lt_trichotomy f.length g.length with z | z | z
 ·exfalso;have e:=key f.length (Yad _) (by lia);rw [Ybk] at e;have b:=B.at f.length _ (Yap z);rw [<-e] at b;exact b.notFin D
 ·have e:=key f.length (Yad _) (by lia);rw [Ybk,z,Ybk] at e;exact e
 ·exfalso;have e:=key g.length (by lia) (Yad _);rw [Ybk] at e;have b:=j.at g.length _ (Yap z);rw [e] at b;exact b.notFin L
noncomputable def JM (n:Nat):List Int:=(List.range n).map λ(i:Nat)=>(i:Int)+2
theorem Yn (n:Nat):(JM n).length=n:=by unfold JM;rw [Yab,List.length_range]
theorem VP {n i:Nat}(h:i<n):(JM n)[i]?=some ((i:Int)+2):=by
 unfold JM;rw [Yba,List.getElem?_range h]
 rfl
theorem Vi (n:Nat):(JM n).Nodup:=by
 unfold JM;show List.Pairwise (·≠·) _;rw [Ycq];have h:(List.range n).Pairwise (·≠·):=List.nodup_range;exact h.imp λ{a b} j z=>j (by have B:(a:Int)+2=(b:Int)+2:=z;lia)
theorem numI_of {fs:List Int}{x:Int}{i:Nat}(nd:fs.Nodup)(h0:1<x)(e:fs[i]?=some x):JE fs x=some ((i:Int)+2):=by
 unfold JE;rw [if_neg (by lia),if_neg (by lia)];have:fs.idxOf? x=some i:=by
  rw [List.idxOf?_eq_some_iff];obtain ⟨hi,D⟩:=Yaj.mp e;refine ⟨hi,D,λj L z=>?_⟩;have B:fs.Pairwise (·≠·):=nd;exact (Ydf.mp B) j i (by lia) hi L (z.trans D.symm)
 rw [this]
 rfl
set_option maxRecDepth 8000 in
theorem Y0 (l:Addr)(B:Array Value)(n:Nat)(b:Addr)(j:Array Value)(Y:Nat)(Z:Option Addr)(sl:Array (Option Value))(aa:¬(!B.isEmpty && Builtin.List.listTooLong (B.size+j.size))=true)(D:B.size<=sizeLine)(L:B.size+j.size<=sizeLine+1) :
  Meets (Builtin.«list.extend» ⟨[.ref l,.ref b],[]⟩) (λ_ R s=>s.heap.get? l=some { cls:=.type "list", dict:=none,data:=.seq B n,slots:=#[] }/\s.heap.get? b=some { cls:=.type "tuple", dict:=Z,data:=.seq j Y,slots:=sl }/\R (.ok (.ret Value.none)) { s with heap:=s.heap.update l (Obj.mapSeq λx=>x++j),toks:=s.toks }):=
 .of_wp λprog w A R s h=>by
  obtain ⟨hp,g,d,tk,os⟩:=s;obtain ⟨U,hb,h⟩:=h;have f1:=AutoSeq1.idx_int;have f2:=AutoSeq1.sub_tuple_tuple;have f3:=AutoSeq1.sub_list_list;have f4:=AutoSeq1.sub_tuple_list;have f5:=AutoSeq1.sub_list_tuple;have O:(B++j).size<=sizeLine+1:=by rw [Array.size_append];exact L
  wp_walk using (wpAny_updateSeq U rfl (hz:=D) (_hz':=O)),AutoSeq1.wpAny_loadPart' U,AutoSeq1.wpAny_loadPart' hb
  exact ⟨_,rfl,h⟩
section
variable {X:Cx}
noncomputable def ZbS:V->List V->Hp->VK->Prop:=λx vs H Q=>∃l b xs zs,x=.ref l/\vs=[.ref b]/\H l=some (.lst xs)/\H b=some (.tup zs)/\xs.length+zs.length<=sizeLine/\Q .non (upd H l (.lst (xs++zs)))
theorem Vj:MtM X "list.extend" ZbS:=by
 intro qQ s σ H x vs v us Q I Z rv h;obtain ⟨l,b,xs,zs,rfl,rfl,L,hB,hz,q⟩:=h;cases Z;obtain ⟨u,rfl,ru⟩:=rv.one;cases ru;obtain ⟨z,its,n,r,hl,e⟩:=I.lstM L;obtain ⟨_,j,O,o,ho,U,n2,Y⟩:=I.hok b _ hB;have aa:=O.length;have ab:=r.length;have D:its.toArray.size+j.toArray.size<=sizeLine:=by rw [Yar,Yar];lia
 have B:¬ (!its.toArray.isEmpty && Builtin.List.listTooLong (its.toArray.size+j.toArray.size))=true:=by
  rw [X5 D,Bool.and_false];exact Yas
 refine call_meets F.slot_list_extend ⟨_,e,rfl⟩ F.entry_list_extend (F.args_list_extend_2 _ _)
  (Y0 l its.toArray n b j.toArray n2 o.dict o.slots B (by rw [Yar];lia) (by lia)) ⟨e,?_,?_⟩
 ·rw [ho];cases o;simp only at U Y;rw [U,Y]
 refine ⟨.non,_,I.lset (its':=its++j) L e (by simp) (r.append O) ?_,rfl,q⟩;rw [Yag]
 lia
end
theorem Zds (ks:List Tri)(x:Int):(chT ks x).length<=2:=by
 unfold chT;split <;> simp
theorem ZbT (ks:List Tri)(root:Int)(f:List Int):(JP ks root f).length<=1+2 * f.length:=by
 unfold JP;rw [Ybm];have:(f.flatMap (chT ks)).length<=2 * f.length:=by
  induction f with
  | nil=>simp
  | cons x f ih=>
   have:=Zds ks x;rw [List.flatMap_cons,Yag,Ybm]
   lia
 lia
theorem ZbU {ks:List Tri}{fs:List Int}(nd:fs.Nodup)(j:∀x∈fs,∃r,Nd ks x r):fs.length<=ks.length:=by
 have:=Yct (l₂:=(List.range ks.length).map λ(i:Nat)=>(i:Int)+2) nd λx B=>by
  obtain ⟨r,n⟩:=j x B;have h1:=n.lt;have h2:=n.1;exact Yam.mpr ⟨(x-2).toNat,Ydn.mpr (by lia),by lia⟩
 rw [Yab,List.length_range] at this;exact this
structure Wk (ks:List Tri)(root:Int)(fs:List Int)(kvs:List (Key×V))(pr ah:List Int):Prop where
 e:JP ks root fs=pr++ah
 old:∀y∈pr,¬ New fs y
 seen:∀n:Int,J8 kvs (.inl n)=none↔New fs n
 nd:fs.Nodup
 nod:∀x∈fs,∃r,Nd ks x r
 rch:Rch ks root fs
 kl:kvs.length<=fs.length+2
 ok:∀y∈ah,At ks y (-1)
theorem Wk.le {ks:List Tri}{root:Int}{fs:List Int}{kvs:List (Key×V)}{j B:List Int}(h:Wk ks root fs kvs j B):fs.length<=ks.length:=ZbU h.nd h.nod
theorem Wk.ahl {ks:List Tri}{root:Int}{fs:List Int}{kvs:List (Key×V)}{B j:List Int}(h:Wk ks root fs kvs B j):j.length<=1+2 * ks.length:=by
 have h1:=ZbT ks root fs;rw [h.e,Yag] at h1;have:=h.le
 lia
theorem Wk.skip {ks:List Tri}{root:Int}{fs:List Int}{kvs:List (Key×V)}{B D:List Int}{c:Int}(h:Wk ks root fs kvs B (c::D))(n:¬ New fs c):Wk ks root fs kvs (B++[c]) D:=by
 refine ⟨by rw [h.e,Ybg];rfl,λy j=>?_,h.seen,h.nd,h.nod,h.rch,h.kl,λy j=>h.ok y (Ybc _ j)⟩;rcases Yah.mp j with z | z
 ·exact h.old y z
 ·rw [Yai] at z;rw [z];exact n
theorem Wk.take {ks:List Tri}{root:Int}{fs:List Int}{kvs:List (Key×V)}{B D:List Int}{c:Int}{r:Tri}{v:V}(T:TabOk ks)(h:Wk ks root fs kvs B (c::D))(n:New fs c)(d:Nd ks c r):Wk ks root (fs++[c]) (JT kvs (.inl c) v) (B++[c]) (D++[r.2.1,r.2.2]):=by
 obtain ⟨Y,h1,h2⟩:=T.nd d;have j:∀y,New (fs++[c]) y↔(New fs y/\y≠c):=λy=>by
  unfold New;rw [Yah,Yai];constructor
  ·rintro ⟨a,b,e⟩;exact ⟨⟨a,b,λz=>e (.inl z)⟩,λz=>e (.inr z)⟩
  ·rintro ⟨⟨a,b,e⟩,f⟩;exact ⟨a,b,λz=>z.elim e f⟩
 refine ⟨?_,λy L=>?_,λm=>?_,?_,λx U=>?_,.snoc h.rch ⟨B,D,h.e,n,h.old⟩,?_,λy L=>?_⟩
 ·rw [JR,h.e,Ym d];simp
 ·rw [j];rintro ⟨a,b⟩;rcases Yah.mp L with z | z
  ·exact h.old y z a
  ·exact b (Yai.mp z)
 ·rw [Jy,j,<-h.seen m];by_cases e:m=c
  ·rw [if_pos (by rw [e])];exact ⟨λz=>(by cases z),λz=>absurd e z.2⟩
  ·rw [if_neg (λz=>e (Sum.inl.inj z))];exact ⟨λz=>⟨z,e⟩,λz=>z.1⟩
 ·exact Yca.mpr ⟨h.nd,by simp,λa ha b O=>by rw [Yai] at O;subst O;exact λz=>n.2.2 (z▸ha)⟩
 ·rcases Yah.mp U with z | z
  ·exact h.nod x z
  ·rw [Yai] at z;subst z;exact ⟨r,d⟩
 ·have:=Jp kvs (.inl c) v;have:=h.kl;rw [Yag,Yat]
  lia
 ·rcases Yah.mp L with z | z
  ·exact h.ok y (Ybc _ z)
  ·rcases Yaz.mp z with z | z
   ·rw [z];exact h1.mono (by lia)
   ·rw [Yai] at z;rw [z];exact h2.mono (by lia)
theorem Wk.fin {ks:List Tri}{root:Int}{fs:List Int}{kvs:List (Key×V)}{B:List Int}(h:Wk ks root fs kvs B []):Fin ks root fs:=by
 intro y j;rw [h.e,Ybt] at j;exact h.old y j
end L2
namespace L2
open PySem PySem.Spec PyProof.Rows
section
variable {prog:Program}{w:World}{A:Around}{E:EX}{s:Shared}
theorem lt_int {x y:Int}{t u:Tok}{Q:EX}(h:Q (.bool (decide (x<y))) s):wpAny (model prog w) A (richCompare .Lt (.int x t) (.int y u)) Q E s:=
 CmpOf.ints_lt (P:=λi v=>∃t,v=.int (if i=0 then x else y) t) (λi=>if i=0 then x else y) (λ_ _ p=>p) 0 1 _ _ s Q E ⟨t,rfl⟩ ⟨u,rfl⟩ h
end
noncomputable def JO:List Int->List Int->Bool
 | [],[]=>false
 | [],_::_=>true
 | _::_,[]=>false
 | x::xs,y::ys=>if x=y then JO xs ys else decide (x<y)
section
variable {prog:Program}{w:World}{A:Around}{E:EX}{s:Shared}
theorem VQ:∀{its:List Value}{ns:List Int},IntsAre its ns->∀k:Nat,(its[k]?=none/\ns.drop k=[])\/∃i t,its[k]?=some (.int i t)/\ns.drop k=i::ns.drop (k+1)
 | _,_,.nil,k=>.inl ⟨by simp,by simp⟩
 | _,_,.cons n t h,0=>.inr ⟨n,t,rfl,rfl⟩
 | _,_,.cons n t h,k+1=>by
  rcases VQ h k with ⟨h1,h2⟩ | ⟨i,t,h1,h2⟩
  ·exact .inl ⟨by simpa using h1,by simpa using h2⟩
  ·exact .inr ⟨i,t,by simpa using h1,by simpa using h2⟩
theorem Op {its:List Value}{ns:List Int}(h:IntsAre its ns):its.length=ns.length:=by
 induction h with
 | nil=>rfl
 | cons n t h ih=>simp [ih]
theorem Zdt {a c:Addr}{oa oc:Obj}{xs ys:List Value}{ns ms:List Int}{na nc:Nat}{R:Result->Shared->Prop}(O:s.heap.get? a=some oa)(U:s.heap.get? c=some oc)(Y:oa.data=.seq xs.toArray na)(Z:oc.data=.seq ys.toArray nc)(hx:IntsAre xs ns)(hy:IntsAre ys ms) :
  ∀left k:Nat,ns.length-k=left->k<=ns.length->k<=ms.length->R (.ok (.ret (.bool (JO (ns.drop k) (ms.drop k))))) s->codeAny (model prog w) A (.builtin "list.__eq__.loop" { pos:=[.ref a,.ref c,rawInt (k:Int),rawInt 0] }) R s:=by
 intro left
 induction left with
 | zero=>
  intro k hl h1 h2 B;refine codeAny_builtin MeetsSeq3.entry_eq_loop ?_;rw [Around.under_plainId MeetsSeq3.plain_eq_loop _];show wpAny _ A.in1 (Builtin.List.listItems (.ref a) >>= _) _ _ s;refine Yaa (Ycn O Y (Yaa (Ycn U Z ?_)));have e1:xs.toArray[((k:Int)).toNat]?=none:=by
   rw [Int.toNat_natCast];rcases VQ hx k with ⟨h,_⟩ | ⟨i,t,h,_⟩
   ·simpa using h
   ·have:=(Yaj.mp h).1;have:=Op hx
    lia
  rw [e1];show wpAny _ A.in1 (Builtin.List.listItems (.ref a) >>= _) _ _ s;refine Yaa (Ycn O Y (Yaa (Ycn U Z (Yaf ?_))));show R (.ok (.ret (.bool (decide (xs.toArray.size<ys.toArray.size))))) s;have L:JO (ns.drop k) (ms.drop k)=decide (xs.toArray.size<ys.toArray.size):=by
   rw [Yar,Yar,Op hx,Op hy];have:ns.drop k=[]:=Yem (by lia);rw [this];cases hd:ms.drop k with
   | nil=>
    have:=List.drop_eq_nil_iff.mp hd;rw [Ybv (by lia)]
    rfl
   | cons y l=>
    have:k<ms.length:=by
     refine Nat.lt_of_not_le λh=>?_;rw [Yem h] at hd;cases hd
    rw [Ybh (by lia)]
    rfl
  rw [<-L];exact B
 | succ left ih=>
  intro k hl h1 h2 B;refine codeAny_builtin MeetsSeq3.entry_eq_loop ?_;rw [Around.under_plainId MeetsSeq3.plain_eq_loop _];show wpAny _ A.in1 (Builtin.List.listItems (.ref a) >>= _) _ _ s;refine Yaa (Ycn O Y (Yaa (Ycn U Z ?_)));rw [Int.toNat_natCast];rcases VQ hx k with ⟨h,z⟩ | ⟨i,t,hi,di⟩
  ·have:=List.drop_eq_nil_iff.mp z
   lia
  ·have e1:xs.toArray[k]?=some (.int i t):=by simpa using hi
   rw [e1];rcases VQ hy k with ⟨h,z⟩ | ⟨j,u,hj,dj⟩
   ·have L:ys.toArray[k]?=none:=by simpa using h
    rw [L];show wpAny _ A.in1 (Builtin.List.listItems (.ref a) >>= _) _ _ s;refine Yaa (Ycn O Y (Yaa (Ycn U Z (Yaf ?_))));show R (.ok (.ret (.bool (decide (xs.toArray.size<ys.toArray.size))))) s;rw [di,z] at B;have:=List.drop_eq_nil_iff.mp z;rw [Yar,Yar,Op hx,Op hy,Ybv (by lia)];exact B
   ·have L:ys.toArray[k]?=some (.int j u):=by simpa using hj
    rw [L];rw [di,dj] at B;show wpAny _ A.in1 (eqBool (.int i t) (.int j u) >>= _) _ _ s;refine Yaa (wpAny_eqBool_int ?_);have kl:k<ms.length:=by
     have:=(Yaj.mp hj).1;rw [Op hy] at this;exact this
    by_cases D:i=j
    ·rw [show (i == j)=true by rw [D];exact beq_self_eq_true _,if_pos rfl];refine Yaf ⟨plainId_quiet MeetsSeq3.plain_eq_loop _,ih (k+1) (by lia) (by lia) (by lia) ?_⟩;unfold JO at B;rw [if_pos D] at B;exact B
    ·rw [show (i == j)=false by rw [Yda];exact D,if_neg Yas];refine Yaa (Ycn O Y (Yaa (Ycn U Z ?_)));rw [e1,L];refine Yaa (lt_int (Yaf ?_));unfold JO at B;rw [if_neg D] at B;exact B
theorem ZbV (a c:Addr)(xs ys:List Value)(ns ms:List Int)(na nc:Nat)(B:IntsAre xs ns)(D:IntsAre ys ms):Meets (Builtin.«list.__lt__» { pos:=[.ref a,.ref c] }) λA R s=>
  s.heap.IsList a xs.toArray/\s.heap.IsList c ys.toArray/\R (.ok (.ret (.bool (JO ns ms)))) s:=by
 intro prog w A R s ⟨ha,L,O⟩;obtain ⟨oa,U,ca,n1,Y⟩:=ha;obtain ⟨Z,j,cc,n2,dc⟩:=L;show wpAny _ A.in1 (isInstance (.ref c) (.type "list") >>= _) _ _ s;refine Yaa (wpAny_isInstance (T := "list") ⟨Z,j,cc⟩ (by first | rfl | decide +kernel) ?_);refine Yaf ⟨plainId_quiet MeetsSeq3.plain_eq_loop _,?_⟩;exact Zdt U j Y dc B D _ 0 rfl (Yan _) (Yan _) O
theorem Y1 {a c:Addr}{xs ys:List Value}{ns ms:List Int}{Q:Bool->Shared->Prop}(ha:s.heap.IsList a xs.toArray)(B:s.heap.IsList c ys.toArray)(D:IntsAre xs ns)(L:IntsAre ys ms)(O:A.units<cLine)(h:Q (JO ns ms) s) :
  wpAny (model prog w) A (oneLt' true (.ref a) (.ref c)) Q E s:=by
 rw [oneLt'_eq];dsimp only;rw [if_pos rfl];refine Yaa (wpAny_cRoom O ?_);have j:s.TypeIs (.ref a) "list" := ha.elim λo z=>⟨o,z.1,z.2.1⟩;refine Yaa (wpAny_callSpecialIfBound?_slot j F.slot_list_lt (call_meets F.slot_list_lt j F.entry_list_lt (F.args_list_lt_2 _ _) (ZbV a c xs ys ns ms 0 0 D L) ⟨ha,B,?_⟩));show wpAny _ A (truthOfDropped (.bool (JO ns ms))) Q E s;exact Ydo h
end
end L2
namespace L2
open PySem PySem.Spec PyProof.Rows Classical
theorem Oq:∀xs:List Int,JO xs xs=false
 | []=>rfl
 | x::xs=>by
  unfold JO;rw [if_pos rfl];exact Oq xs
theorem VR:∀{xs ys zs:List Int},JO xs ys=true->JO ys zs=true->JO xs zs=true
 | [],[],_,h,_=>by simp [JO] at h
 | [],_::_,[],_,h=>by simp [JO] at h
 | [],_::_,_::_,_,_=>rfl
 | _::_,[],_,h,_=>by simp [JO] at h
 | _::_,_::_,[],_,h=>by simp [JO] at h
 | x::xs,y::ys,z::zs,h1,h2=>by
  unfold JO at h1 h2 ⊢;by_cases e1:x=y
  ·rw [if_pos e1] at h1;by_cases e2:y=z
   ·rw [if_pos e2] at h2;rw [if_pos (e1.trans e2)];exact VR h1 h2
   ·rw [if_neg e2] at h2;rw [if_neg (by rw [e1];exact e2),e1];exact h2
  ·rw [if_neg e1] at h1;have h1:=Ych h1;by_cases e2:y=z
   ·rw [if_neg (by rw [<-e2];exact e1),<-e2];exact Ybh h1
   ·rw [if_neg e2] at h2;have h2:=Ych h2;rw [if_neg (by lia)];exact Ybh (by lia)
theorem VS:∀{xs ys:List Int},JO xs ys=false->JO ys xs=false->xs=ys
 | [],[],_,_=>rfl
 | [],_::_,h,_=>by simp [JO] at h
 | _::_,[],_,h=>by simp [JO] at h
 | x::xs,y::ys,h1,h2=>by
  unfold JO at h1 h2;by_cases e:x=y
  ·rw [if_pos e] at h1;rw [if_pos e.symm] at h2;rw [e,VS h1 h2]
  ·rw [if_neg e] at h1;rw [if_neg (Ne.symm e)] at h2;have h1:=Yei h1;have h2:=Yei h2
   lia
theorem ZcM {α:Type}{κ:Keyed->α}{lt:α->α->Bool}(j:∀a,lt a a=false)(D:∀{a b c},lt a b=true->lt b c=true->lt a c=true)(B:∀{a b},lt a b=false->lt b a=false->a=b):WO (λx y=>lt (κ x) (κ y)):=by
 refine ⟨λx=>j _,λx y z=>D,λx y z h=>?_⟩;cases h1:lt (κ x) (κ y) with
 | true=>exact .inl rfl
 | false=>
  cases h2:lt (κ y) (κ x) with
  | true=>exact .inr (D h2 h)
  | false=>
   rw [<-B h1 h2];exact .inr h
theorem UK {α β:Type}{f:α->β}:∀{l:List β}{zs:List α},l.Perm (zs.map f)->∃j:List α,j.Perm zs/\j.map f=l:=by
 intro l zs h;generalize hm:zs.map f=m at h
 induction h generalizing zs with
 | nil=>exact ⟨zs,.refl _,by rw [hm]⟩
 | @cons x l1 l2 _ ih=>
  cases zs with
  | nil=>simp at hm
  | cons z zs=>
   simp at hm;obtain ⟨j,h1,h2⟩:=ih hm.2;exact ⟨z::j,h1.cons z,by rw [Yaq,h2,hm.1]⟩
 | swap x y l=>
  cases zs with
  | nil=>simp at hm
  | cons z zs=>
   cases zs with
   | nil=>simp at hm
   | cons z2 zs=>
    simp at hm;exact ⟨z2::z::zs,.swap _ _ _,by simp [hm.1,hm.2.1,hm.2.2]⟩
 | trans _ _ ih1 ih2=>
  obtain ⟨D,h1,h2⟩:=ih2 hm;obtain ⟨B,L,O⟩:=ih1 h2;exact ⟨B,L.trans h1,O⟩
section
variable {prog:Program}{w:World}{A:Around}{E:EX}{s:Shared}{b:Keyed->Keyed->Bool}{good:Keyed->Prop}
theorem VT (h:∀x y,good x->good y->∀{j:EX}{Q:Bool->Shared->Prop},Q (b x y) s->wpAny (model prog w) A (oneLt' true x.1 y.1) Q j s):Ui (model prog w) A E s oneType' b good:=by
 intro x y st Q B D L q;rw [lt'_eq];refine Yac (wpS_get ?_);refine Yac (wpS_lift ?_);rw [L,keyLt'_oneType];exact wpAny_attempt (h x y B D ⟨rfl,Yae q⟩)
theorem O9 {β:Type}{f:Value->Sem β}{g:Value->β}:∀{vs:List Value}{Q:List β->Shared->Prop},(∀v∈vs,∀{Q:β->Shared->Prop},Q (g v) s->wpAny (model prog w) A (f v) Q E s)->Q (vs.map g) s->wpAny (model prog w) A (List.mapM f vs) Q E s
 | [],Q,_,q=>by
  rw [List.mapM_nil];exact Yaf q
 | v::vs,Q,h,q=>by
  rw [List.mapM_cons];refine Yaa (h v (Yaw ..) ?_);exact Yaa (O9 (λu hu=>h u (Ybc _ hu)) (Yaf q))
theorem WX {α β:Type}{m:Sem α}{f:α->β}{Q:β->Shared->Prop}(h:wpAny (model prog w) A m (λa s'=>Q (f a) s') E s):wpAny (model prog w) A (f <$> m) Q E s:=by
 rw [map_eq_pure_bind];exact Yaa (Ybr h (λa s' z=>Yaf z) λ_ _ z=>z)
theorem OF {T:String}{vs:List Value}{R:SortKind->Shared->Prop}(L:T ≠ "tuple")(h:∀v∈vs,s.TypeIs v T)(h2:2<=vs.length)(q:R oneType' s):wpAny (model prog w) A (keyKind' vs.toArray) R E s:=by
 rw [keyKind'_eq,List.mapM_toArray];have ne:(Value.type T != Value.type "tuple")=true:=by
  rw [bne_iff_ne];intro e;injection e with e
  exact L e
 refine Yaa (WX (O9 (g:=λ_=>none) (λv D Q q=>?_) ?_))
 ·show wpAny _ _ (typeOf v >>= _) _ _ s;refine Yaa (wpAny_typeOf (h v D) ?_);rw [if_pos ne];exact Yaf q
 ·obtain ⟨j,B,rest,rfl⟩:∃j B rest,vs=j::B::rest:=by
   cases vs with
   | nil=>simp at h2
   | cons j t=>cases t with
    | nil=>simp at h2
    | cons B rest=>exact ⟨j,B,rest,rfl⟩
  rw [if_neg (by simp)];rw [if_neg (by simp)];rw [oneTypeOnly'_eq,List.mapM_toArray];refine Yaa (Yaa (WX (O9 (g:=λ_=>Value.type T) (λv D Q q=>wpAny_typeOf (h v D) q) ?_)));simp only [Yaq,List.getElem?_toArray,List.getElem?_cons_zero];refine Yaf ?_;rw [if_pos (by simp)];exact Yaf q
end
noncomputable def ltI (x y:Int):Bool:=decide (x<y)
theorem ZcN:WO (λx y=>ltI (U3 x.1) (U3 y.1)):=ZcM (κ:=λx:Keyed=>U3 x.1) (lt:=ltI) (λa=>by simp [ltI]) (λ{a b c} h1 h2=>by
  have h1:=Ych h1;have h2:=Ych h2;exact Ybh (by lia)) (λ{a b} h1 h2=>by
  have h1:=Yei h1;have h2:=Yei h2
  lia)
theorem Of {b:Keyed->Keyed->Bool}{out:Array Keyed}{n:Nat}(h:Rng b out 0 n)(L:out.size=n):out.toList.Pairwise (kle b):=by
 rw [Ydf];intro i j hi B D;rw [Ybd] at hi B;exact h i j _ _ (Yan _) (by lia) (by lia) (by simp [hi]) (by simp [B])
theorem Yo {vs:List Value}{out:Array Keyed}(h:out.Perm (pairsOf vs)):(out.map (·.2)).toList.Perm vs/\(∀x∈out.toList,x.1=x.2/\x.1∈vs)/\out.size=vs.length:=by
 have p:out.toList.Perm (vs.zip vs):=by
  have:=h.toList;rw [pairsOf_toList] at this;exact this
 refine ⟨?_,λx j=>mem_zip_self (p.mem_iff.mp j),by rw [h.size_eq,pairsOf_size]⟩;rw [Array.toList_map];have:=p.map (λx:Keyed=>x.2);rw [show (vs.zip vs).map (λx:Keyed=>x.2)=vs from List.map_snd_zip (Yad _)] at this;exact this
noncomputable def Zdu (h:Heap)(v:Value):List Int:=if q:∃ns a its,v=.ref a/\h.IsList a its/\IntsAre its.toList ns then choose q else []
theorem ZbW {its:List Value}{ns ms:List Int}(h:IntsAre its ns)(k:IntsAre its ms):ns=ms:=by
 induction h generalizing ms with
 | nil=>cases k;rfl
 | cons n t h ih=>cases k with
  | cons _ _ k=>rw [ih k]
theorem Y2 {h:Heap}{a:Addr}{xs ys:Array Value}(h1:h.IsList a xs)(h2:h.IsList a ys):xs=ys:=by
 obtain ⟨o,e,_,n,d⟩:=h1;obtain ⟨o',j,_,D,B⟩:=h2;rw [e] at j;cases j;rw [d] at B;cases B
 rfl
theorem VU {h:Heap}{a:Addr}{its:Array Value}{ns:List Int}(B:h.IsList a its)(hi:IntsAre its.toList ns):Zdu h (.ref a)=ns:=by
 have q:∃ns j its,Value.ref a=.ref j/\h.IsList j its/\IntsAre its.toList ns:=⟨ns,a,its,rfl,B,hi⟩;unfold Zdu;rw [dif_pos q];obtain ⟨j,D,e,h1,h2⟩:=choose_spec q;cases e;have:=Y2 B h1;subst this;exact ZbW h2 hi
theorem Zdv (h:Heap):WO (λx y=>JO (Zdu h x.1) (Zdu h y.1)):=ZcM (κ:=λx:Keyed=>Zdu h x.1) (lt:=JO) Oq VR VS
section
variable {X:Cx}(K:W.Frag)
noncomputable def ZeQ:List V->Hp->VK->Prop:=λxs H Q=>∃(p:Addr)(ns:List Int),xs=[.ref p]/\SqL K H p (ns.map V.int)/\∀(l:Addr)(ns':List Int),H l=none->ns'.Perm ns->ns'.Pairwise (· <= ·)->Q (.ref l) (upd H l (.lst (ns'.map V.int)))
theorem ZeR (h:X.K=K:=by rfl):J6 X (.builtin "sorted") (ZeQ K):=by
 subst h;intro qQ s σ H xs us Q I rv h;obtain ⟨p,ns,rfl,hq,q⟩:=h;obtain ⟨u,rfl,ru⟩:=rv.one;cases ru;obtain ⟨its,r,pl,Z⟩:=I.list hq;have hl:=r.length;rw [Yab] at hl Z;have hi:=O2 r;have B:∀v∈its,∃i t,v=.int i t:=hi.all;refine Vg (good:=λx=>∃i t,x.1=.int i t) ZcN pl.isList (by lia) B (λh' k h2 E' R q=>?_) (λh' k=>VT λx y gx gy E' Q q=>?_) λout hp hr=>?_
 ·exact OF (T := "int") (by decide) (λv hv=>by obtain ⟨i,t,rfl⟩:=B v hv;exact typeIs_int _ _ _) h2 q
 ·obtain ⟨i,t,e1⟩:=gx;obtain ⟨j,u,e2⟩:=gy;simp only [e1,e2] at q ⊢;exact oneLt_int q
 ·obtain ⟨o1,D,o3⟩:=Yo hp;obtain ⟨e,he⟩:=sortedAll_at s.heap its (out.map (·.2));have L:∀l:List Keyed,(∀x∈l,x.1=x.2/\x.1∈its)->Vals ((l.map λx=>U3 x.2).map V.int) (l.map (·.2)):=by
   intro l
   induction l with
   | nil=>intro _;exact .nil
   | cons x l ih=>
    intro h;obtain ⟨h1,h2⟩:=h x (Yaw ..);obtain ⟨i,t,e⟩:=B x.1 h2;rw [h1] at e;refine .cons ⟨t,?_⟩ (ih λy O=>h y (Ybc _ O));show x.2=.int (U3 x.2) t;rw [e]
    rfl
  have U:=L out.toList D;have pn:(out.toList.map λx=>U3 x.2).Perm ns:=by
   have a1:=o1.map U3;rw [Array.toList_map,Ydh] at a1;refine a1.trans (.of_eq ?_);have:∀{its:List Value}{ns:List Int},IntsAre its ns->its.map U3=ns:=by
    intro its ns h
    induction h with
    | nil=>rfl
    | cons n t h ih=>rw [Yaq,ih];rfl
   exact this hi
  have ps:(out.toList.map λx=>U3 x.2).Pairwise (· <= ·):=by
   rw [Ycq];refine (Of hr o3).imp_of_mem λ{x y} hx O Y=>?_;have:=Yei Y;rw [<-(D x hx).1,<-(D y O).1]
   lia
  refine ⟨.ref _,_,I.laid (a:=s.heap.objs.size+1) (t':=s.toks) (o:=.lst ((out.toList.map λx=>U3 x.2).map V.int)) (λb o e=>sortedAll_old e) (Ydd _) ⟨by rw [Yab,pn.length_eq];exact Z,(out.map (·.2)).toList,e,by rw [Array.toList_map];exact U,he⟩,rfl,q _ _ (I.hok.fresh (Ydd _)) pn ps⟩
noncomputable def Zdw:List V->Hp->VK->Prop:=λxs H Q=>∃(p:Addr)(zs:List (Addr×List Int)),xs=[.ref p]/\SqL K H p (zs.map λz=>V.ref z.1)/\(∀z∈zs,SqL K H z.1 (z.2.map V.int)) /\
 ∀(l:Addr)(zs':List (Addr×List Int)),H l=none->zs'.Perm zs->(zs'.map (·.2)).Pairwise (λa b=>JO b a=false)->Q (.ref l) (upd H l (.lst (zs'.map λz=>V.ref z.1)))
theorem Yp:∀{zs:List (Addr×List Int)}{its:List Value},Vals (zs.map λz=>V.ref z.1) its->its=zs.map λz=>Value.ref z.1
 | [],_,h=>by cases h;rfl
 | z::zs,_,h=>by
  cases h with
  | cons r h=>
   cases r;rw [Yp h]
   rfl
theorem WY:∀(zs:List (Addr×List Int)),Vals (zs.map λz=>V.ref z.1) (zs.map λz=>Value.ref z.1)
 | []=>.nil
 | z::zs=>.cons rfl (WY zs)
theorem Zdx (hu:X.A.units+64<cLine)(h:X.K=K:=by rfl):J6 X (.builtin "sorted") (Zdw K):=by
 subst h;intro qQ s σ H xs us Q I rv h;obtain ⟨p,zs,rfl,hq,hz,q⟩:=h;obtain ⟨u,rfl,ru⟩:=rv.one;cases ru;obtain ⟨its,r,pl,U⟩:=I.list hq;have hl:=r.length;rw [Yab] at hl U;have ei:=Yp r;have key:∀z∈zs,∃its:Array Value,s.heap.IsList z.1 its/\IntsAre its.toList z.2:=λz L=>by
  obtain ⟨iz,rz,pz,_⟩:=I.list (hz z L);exact ⟨iz.toArray,pz.isList,O2 rz⟩
 have Y:∀v∈its,∃a,∃B:Array Value,∃ns,v=.ref a/\s.heap.IsList a B/\IntsAre B.toList ns:=λv Z=>by
  rw [ei] at Z;obtain ⟨z,L,rfl⟩:=Yam.mp Z;obtain ⟨B,h1,h2⟩:=key z L;exact ⟨z.1,B,z.2,rfl,h1,h2⟩
 have j:∀{h':Heap}{a:Addr}{B:Array Value},(∀c o,s.heap.get? c=some o->h'.get? c=some o)->s.heap.IsList a B->h'.IsList a B:=λk hl=>by
  obtain ⟨o,e,r⟩:=hl;exact ⟨o,k _ _ e,r⟩
 refine Vg (good:=λx=>∃a,∃B:Array Value,∃ns,x.1=.ref a/\s.heap.IsList a B/\IntsAre B.toList ns) (Zdv s.heap) pl.isList (by lia) Y (λh' k h2 E' R q=>?_) (λh' k=>VT λx y gx gy E' Q q=>?_) λout hp hr=>?_
 ·refine OF (T := "list") (by decide) (λv Z=>?_) h2 q;obtain ⟨a,B,ns,rfl,h1,_⟩:=Y v Z;obtain ⟨o,e,c,_⟩:=j k h1;exact ⟨o,e,c⟩
 ·obtain ⟨a,B,ns,e1,h1,h2⟩:=gx;obtain ⟨c,jt,ms,e2,h3,h4⟩:=gy;simp only [e1,e2,VU h1 h2,VU h3 h4] at q ⊢;exact Y1 (xs:=B.toList) (ys:=jt.toList) (j k h1) (j k h3) h2 h4 (by rw [Around.in1_units,Around.in1_units];lia) q
 ·obtain ⟨o1,o2,o3⟩:=Yo hp;obtain ⟨e,he⟩:=sortedAll_at s.heap its (out.map (·.2));rw [ei] at o1;obtain ⟨O,p1,p2⟩:=UK o1;have ps:(O.map (·.2)).Pairwise (λa b=>JO b a=false):=by
   have a1:=Of hr o3;have a2:(out.toList.map (·.2)).Pairwise (λu v=>JO (Zdu s.heap v) (Zdu s.heap u)=false):=by
    rw [Ycq];refine a1.imp_of_mem λ{x y} hx hy D=>?_;rw [<-(o2 x hx).1,<-(o2 y hy).1];exact D
   rw [Array.toList_map] at p2;rw [<-p2,Ycq] at a2;rw [Ycq];refine a2.imp_of_mem λ{x y} hx hy D=>?_;obtain ⟨B,h1,h2⟩:=key x (p1.mem_iff.mp hx);obtain ⟨jt,h3,h4⟩:=key y (p1.mem_iff.mp hy);rw [VU h1 h2,VU h3 h4] at D;exact D
  refine ⟨.ref _,_,I.laid (a:=s.heap.objs.size+1) (t':=s.toks) (o:=.lst (O.map λz=>V.ref z.1)) (λb o e=>sortedAll_old e) (Ydd _) ⟨by rw [Yab,p1.length_eq];exact U,(out.map (·.2)).toList,e,by rw [<-p2];exact WY O,he⟩,rfl,q _ _ (I.hok.fresh (Ydd _)) p1 ps⟩
end
end L2
namespace L2
open PySem PySem.Spec PyProof.Rows
section
variable {prog:Program}{w:World}{A:Around}{E:EX}{s:Shared}
noncomputable def Zhe (kz:List Int)(vs out:List Value):Prop:=∃ps:List (Int×Value),ps.Perm (kz.zip vs)/\out=ps.map Prod.snd/\ps.Pairwise (λp q=>q.1<=p.1)
theorem Zdy {keys:List Value}{vs:List Value}{kz:List Int}{xs:Array Keyed}(j:IntsAre keys kz)(B:xs.toList.Perm (keys.zip vs))(D:xs.toList.Pairwise (kle λx y=>ltI (U3 x.1) (U3 y.1))):Zhe kz vs ((xs.toList.map (·.2)).reverse):=by
 have L:∀{l:List Value}{ns:List Int},IntsAre l ns->l.map U3=ns:=by
  intro l ns h
  induction h with
  | nil=>rfl
  | cons n t h ih=>rw [Yaq,ih];rfl
 refine ⟨(xs.toList.map λx=>(U3 x.1,x.2)).reverse,(List.reverse_perm _).trans ?_,?_,?_⟩
 ·refine (B.map λx:Keyed=>(U3 x.1,x.2)).trans (.of_eq ?_);rw [<-L j,List.zip_map_left];exact List.map_congr_left λ⟨x,y⟩ _=>rfl
 ·rw [List.map_reverse,Ydh]
  rfl
 ·rw [List.pairwise_reverse,Ycq];refine D.imp λ{x y} h=>?_;have:=Yei h
  lia
structure ZeS (J:Shared->Prop)(a b:Addr):Prop where
 put:∀(s:Shared)(c:Addr)(f:Obj->Obj),c=a\/c=b->J s->J { s with heap:=s.heap.update c f }
noncomputable abbrev keyHeap (h:Heap)(a:Addr)(vs:List Value):Heap:=((h.update a (Obj.mapSeq λ_=>#[])).push (seqObj "tuple" vs.toArray 0)).push (seqObj "list" #[] 0)
theorem ZbX {α:Type}{R:α->α->Prop}:∀{l:List α},l.length<2->l.Pairwise R:=λ{l} h=>by
 cases l with
 | nil=>exact .nil
 | cons a l=>
  cases l with
  | nil=>simp
  | cons b l=>exact absurd h (by simp)
theorem VW {a q:Addr}{vs:List Value}{kz:List Int}{n:Nat}{J:Shared->Prop}{P:PySem.Fin->Shared->Prop}(ha:s.heap.get? a=some (seqObj "list" vs.toArray n))(hz:vs.length<=sizeLine)(hl:kz.length=vs.length)(S:ZeS J a (s.heap.objs.size+1))(hJ:J { s with heap:=keyHeap s.heap a vs })(aj:∀(i:Nat)(v:Value)(k:Int)(s1:Shared)(R:EX)(E':EX),vs[i]?=some v->kz[i]?=some k->J s1->s.heap.objs.size+1<s1.heap.objs.size ->
   (∀t D,J D->s1.heap.objs.size<=D.heap.objs.size->(∀c o,c=a\/c=s.heap.objs.size+1->s1.heap.get? c=some o->D.heap.get? c=some o)->R (.int k t) D)->wpAny (model prog w) A (call (.ref q) [v]) R E' s1)(fin:∀(D:Shared)(out:Array Value)(c:Nat),J D->D.heap.get? a=some (seqObj "list" out c)->Zhe kz vs out.toList->P (.done (.ret .none)) D) :
  wpAny (model prog w) A (Builtin.«list.sort» ⟨[.ref a],[(Str.ofString "key", .ref q),(Str.ofString "reverse", .bool true)]⟩) P E s:=by
 rw [PyProof.Rows.ksk_t2];unfold PyProof.Rows.ksk_tree;have ak:=Yal ha;refine Yaa (Ycn ha rfl ?_);refine Yaa (Ydv ha rfl ?_ (by rw [Yar];exact hz) (Yan _));have ab:=get?_update_seq ha (λ_=>#[]);generalize (if ((#[]:Array Value).size == vs.toArray.size)=true then n else n+1)=O at ab;refine Yaa (seqEpoch_at ab rfl ?_);refine Yaa (wpAny_newTuple ?_ hz);refine Yaa (wpAny_newList ?_ (Yan _));refine Ydc ?_;have z1:((s.heap.update a (Obj.mapSeq λ_=>#[])).push (seqObj "tuple" vs.toArray 0)).objs.size=s.heap.objs.size+1:=by rw [Ycu,Heap.size_update]
 have ac:(keyHeap s.heap a vs).get? (s.heap.objs.size+1)=some (seqObj "list" #[] 0):=by rw [<-z1];exact Ybl _ rfl
 have ad:(keyHeap s.heap a vs).get? a=some (seqObj "list" #[] O):=Yao _ (Yao _ ab);have z2:(keyHeap s.heap a vs).objs.size=s.heap.objs.size+2:=by rw [Ycu,z1]
 show wpAny (model prog w) A (PyProof.Rows.ksk_rest a (.ref q) true vs.toArray O (.ref ((s.heap.update a (Obj.mapSeq λ_=>#[])).push (seqObj "tuple" vs.toArray 0)).objs.size)) P E { s with heap:=keyHeap s.heap a vs };rw [z1];generalize keyHeap s.heap a vs=h0 at hJ ac ad z2 ⊢;generalize hkS:s.heap.objs.size+1=U at *;have ae:a≠U:=by rw [<-hkS];exact Yay (Nat.lt_succ_of_lt ak)
 unfold PyProof.Rows.ksk_rest;refine Yaa (wpAny_rule ?_);refine Yaa ?_;rw [<-Array.forIn_toList];refine PyProof.Rows.ksk_fold (λi s1=>J s1/\U<s1.heap.objs.size/\s1.heap.get? a=some (seqObj "list" #[] O)/\∃keys c,s1.heap.get? U=some (seqObj "list" keys c)/\IntsAre keys.toList (kz.take i)) vs.toArray.toList 0 _ ⟨hJ,by show U<h0.objs.size;lia,ad,#[],0,ac,.nil⟩ ?_ ?_
 ·rintro j x s1 Y ⟨j1,l1,a1,keys,c,k1,Z⟩;have Y:vs[j]?=some x:=by simpa using Y
  have hj:j<vs.length:=(Yaj.mp Y).1;have hk:kz[j]?=some kz[j]:=Yap (by lia);rw [Ydl] at Z;refine Yaa (wpAny_attempt (aj j x kz[j] s1 _ _ Y hk j1 l1 λt D j2 l2 kp=>?_));have k2:=kp U _ (.inr rfl) k1;have a2:=kp a _ (.inl rfl) a1;have il:keys.size=j:=by
   have:=Z.length;rw [Ybd,Ybj] at this
   lia
  refine Yaa (Ydv k2 rfl ?_ (by lia) (by show (keys.push _).size<=_;rw [Ycm];lia));refine Yaf ⟨rfl,S.put _ _ _ (.inr rfl) j2,by show U<(D.heap.update U _).objs.size;rw [Heap.size_update];lia,(Ydx _ _ (Ne.symm ae)).trans a2,keys.push (.int kz[j] t),_,get?_update_seq k2 (·.push (.int kz[j] t)),?_⟩;rw [Yed,Ydl,Ybs,hk];exact PyProof.Rows.ksk_snoc Z
 ·rintro s1 ⟨j1,l1,a1,keys,c,k1,Z⟩;rw [show 0+vs.toArray.toList.length=kz.length by simp [hl],Ybk] at Z;have il:keys.size=vs.length:=by
   have:=Z.length;rw [Ybd] at this
   lia
  have ag:∀v∈keys.toList,∃i t,v=.int i t:=Z.all;refine Yaa (Ycn k1 rfl ?_);have B:(keys.zip vs.toArray).toList=keys.toList.zip vs:=PyProof.Rows.ksk_zip keys vs;have an:(keys.zip vs.toArray).size=vs.length:=by simp [Array.size_zip,il]
  have aa:∀st:SortSt,failedOf st=none->(arrOf st).toList.Perm (keys.toList.zip vs)->(arrOf st).toList.Pairwise (kle λx y=>ltI (U3 x.1) (U3 y.1))->wpAny (model prog w) A (PyProof.Rows.ksk_tail a true O (.ref U) st) P E s1:=by
   intro st f0 p0 r0;have ao:(arrOf st).size=vs.length:=by
    have:=p0.length_eq;rw [Ybd,List.length_zip,Ybd] at this
    lia
   unfold PyProof.Rows.ksk_tail;refine Yaa (Ydv k1 rfl ?_ (by lia) (Yan _));refine Yaa (wpAny_letGo ?_);have a3:(s1.heap.update U (Obj.mapSeq λ_=>#[])).get? a=some (seqObj "list" #[] O):=(Ydx _ _ (Ne.symm ae)).trans a1;refine Yaa (seqEpoch_at a3 rfl ?_);refine Yaa (Ydv a3 rfl ?_ (Yan _) (by rw [if_pos rfl,Array.size_reverse,Array.size_map];lia));rw [show (O != O)=false by simp,f0];refine Yaf (fin _ _ _ (S.put _ _ _ (.inl rfl) (S.put _ _ _ (.inr rfl) j1)) (get?_update_seq a3 _) ?_);rw [if_pos rfl,Ydk,Array.toList_map];exact Zdy Z p0 r0
  unfold PyProof.Rows.ksk_end;dsimp only;rw [if_pos rfl];refine Yaa (wpAny_rule ?_);split
  ·rename_i h2;have h2:vs.length<2:=by simpa using h2
   refine Yaa (Yaf ?_);refine Yaa (Ybr (Q:=λr s'=>s'=s1/\r.2=SortSt.mk' general' (keys.zip vs.toArray).reverse #[] 7 none) (Yaf ⟨rfl,rfl⟩) ?_ (λ_ _ z=>z));rintro ⟨_,st⟩ s' ⟨rfl,rfl⟩;refine aa _ rfl ?_ ?_
   ·show (keys.zip vs.toArray).reverse.toList.Perm _;rw [Ydk,B];exact List.reverse_perm _
   ·show (keys.zip vs.toArray).reverse.toList.Pairwise _;have am:(keys.zip vs.toArray).reverse.toList.length<2:=by rw [Ybd,Array.size_reverse];lia
    exact ZbX am
  ·rename_i h2;have h2:¬ vs.length<2:=by simpa using h2
   have kk:wpAny (model prog w) A (keyKind' keys) (λah s'=>ah=oneType'/\s'=s1) E s1:=by
    have:keys=keys.toList.toArray:=by simp
    rw [this];exact OF (T := "int") (by decide) (λv hv=>by obtain ⟨i,t,rfl⟩:=ag v hv;exact typeIs_int _ _ _) (by rw [Ybd];lia) ⟨rfl,rfl⟩
   refine Yaa (Ybr kk ?_ (λ_ _ z=>z));rintro _ ap ⟨rfl,es⟩;rw [es];have L:Ui (model prog w) A E s1 oneType' (λx y=>ltI (U3 x.1) (U3 y.1)) (λx=>∃i t,x.1=.int i t):=VT λx y gx gy E' Q q=>by
    obtain ⟨i,t,O⟩:=gx;obtain ⟨j,u,e2⟩:=gy;simp only [O,e2] at q ⊢;exact oneLt_int q
   refine Yaa (Ybr (J5 (st:=SortSt.mk' oneType' (keys.zip vs.toArray).reverse #[] 7 none) (Q:=λ_ st=>failedOf st=none/\(arrOf st).toList.Perm (keys.toList.zip vs)/\(arrOf st).toList.Pairwise (kle λx y=>ltI (U3 x.1) (U3 y.1))) ZcN L rfl rfl rfl (λx Y=>?_) λai p1 f1 r1=>⟨f1,?_,?_⟩) ?_ (λ_ _ z=>z))
   ·have Y:x∈(keys.zip vs.toArray).reverse.toList:=Y;rw [Ydk,List.mem_reverse,B] at Y;exact ag _ (List.of_mem_zip (a:=x.1) (b:=x.2) Y).1
   ·have p1:(arrOf ai).Perm (keys.zip vs.toArray).reverse:=p1;refine p1.toList.trans ?_;rw [Ydk,B];exact List.reverse_perm _
   ·have p1:(arrOf ai).Perm (keys.zip vs.toArray).reverse:=p1;exact Of r1 p1.size_eq
   ·rintro ⟨_,st⟩ s' ⟨rfl,f1,p1,r1⟩;exact aa st f1 p1 r1
theorem ZbY {Y c':Addr}{qual:Str}{params:Arguments}{body:Expr}{scope:Scope}{clos:List (Str×Addr)}{pm D arg:Value}{x:Str}{R:EX}(qG:A.depth<recursionLimit)(ho:s.heap.get? Y=some (W.kla_obj "<lambda>" qual params body scope clos pm c' D))(Z:s.heap.CodeRec (.ref c') qual)(aa:s.heap.NoLimit)(ab:scope.isCoroutine=false)(O:scope.isGenerator=false)(hk:scope.kind=.function)(j:bindArgs (W.kla_fn "<lambda>" qual params body scope clos pm (.ref c') D) ⟨[arg],[]⟩=pure [(x,arg)])(U:scope.names.lookup x=some .local)(jJ:∀y∈scope.names,y.2≠.cell)(h:∀(h1:Heap)(L:Addr),(∀b o,s.heap.get? b=some o->h1.get? b=some o)->s.heap.objs.size<=h1.objs.size->h1.Ns L (λy=>[(x,arg)].reverse.lookup y) ->
   wpAny (model prog w) (A.deeper (W.envX qual scope L Y (.ref c') clos)) (eval body (W.envX qual scope L Y (.ref c') clos)) R (λ_ _=>False) { s with heap:=h1,toks:=s.toks+1 }) :
  wpAny (model prog w) A (call (.ref Y) [arg]) R E s:=by
 refine wpAny_call (W.kla_callFunE qG ho rfl ab O rfl Z ?_);rw [j];refine Yaf (wpAny_newFunctionEnv jJ (λy hy=>?_) (λh1 ac B=>⟨?_,?_⟩) hk)
 ·cases Yai.mp hy;exact U
 ·exact aa.fresh _ B
 ·refine W.kla_codeExpr ?_;have k1:∀b o,s.heap.get? b=some o->h1.get? b=some o:=λb o e=>B.extBut b o (Yay (Yal e)) (Yao _ e);refine Ybr (h h1 s.heap.objs.size k1 ?_ ac) (λv s' hR=>hR) λ_ _ z=>z.elim;rw [B.1,Ycu];exact Ydd _
end
noncomputable def SameL (P:Addr)(H H':Hp):Prop:=∀a o,a≠P->H a=some o->H' a=some o
theorem SameL.of {P:Addr}{H H':Hp}(s:Same H H'):SameL P H H':=λa o _ e=>s a o e
theorem SameL.trans {P:Addr}{H H' j:Hp}(a:SameL P H H')(b:SameL P H' j):SameL P H j:=λc o n e=>b c o n (a c o n e)
noncomputable def Y3 (qual:Str)(j:Obj):Prop:=∃vs t,j.data=.fields vs/\vs[1]?=some (.str qual t)
noncomputable def LamOn (P:Addr)(j col:Nat)(qual:Str)(H:Hp)(c:Addr):Prop:=H P=some (.tbl #[rawInt j,rawInt col,.ref c])/\∃B,H c=some (.frz B (.own c))/\Y3 qual B
noncomputable def LamSt (P:Addr)(j col:Nat)(qual:Str)(H:Hp):Prop:=H P=some (.tbl #[])\/∃c,LamOn P j col qual H c
theorem LamOn.same {P:Addr}{j col:Nat}{qual:Str}{H H':Hp}{c:Addr}(h:LamOn P j col qual H c)(s:Same H H'):LamOn P j col qual H' c:=⟨s _ _ h.1,h.2.elim λB z=>⟨B,s _ _ z.1,z.2⟩⟩
theorem LamSt.same {P:Addr}{j col:Nat}{qual:Str}{H H':Hp}(h:LamSt P j col qual H)(s:Same H H'):LamSt P j col qual H':=h.imp (λe=>s _ _ e) λ⟨c,z⟩=>⟨c,z.same s⟩
section
variable {X:Cx}
noncomputable def Zif (P:Addr)(qual:Str)(params:Arguments)(body:Expr)(scope:Scope)(clos:List (Str×Addr))(pos:Pos)(pm:Value):TE:=λσ H Q=>LamSt P pos.line pos.col qual H /\
 ∀(f c:Addr)(ctv:Value)(H':Hp),SameL P H H'->LamOn P pos.line pos.col qual H' c->H f=none->H' f=some (.frz (W.kla_obj "<lambda>" qual params body scope clos pm c ctv) (.own f))->Q (.ref f) H'
theorem ZeT {params:Arguments}{body:Expr}{scope:Scope}{pos:Pos}{clos:List (Str×Addr)}{c P:Addr}{qual:Str}(aa:closureFor scope X.env=pure clos)(B:X.env.code=.ref c)(C:W.CodeHd X.base c P)(hb:X.base.BuiltinsAt X.mg P)(hq:X.env.qual ++ "<lambda>" = qual)(ab:defaultsOf params X.env=([],[]):=by rfl):PE X (.Lambda params body scope pos) (Zif P qual params body scope clos pos ((X.mg "__name__").getD .none)):=by
 intro qQ s σ H Q I h;obtain ⟨st,q⟩:=h;refine W.kla_eval ab ?_;rw [hq];have hg:s.heap.Ns mainGlobals X.mg:=I.ok.mod.glob.keeps I.bk;have hB:s.heap.BuiltinsAt X.mg P:=by
  obtain ⟨bm,o,h1,h2,h3,h4,h5,h6⟩:=hb;exact ⟨bm,o,h1,h2,h3,h4,I.bk _ _ h5,h6⟩
 rcases st with Y | ⟨c',e1,oc,e2,vs,tq,O,hv⟩
 ·have hP:s.heap.get? P=some (W.tabObj #[]):=I.hok P _ Y;have ah:mainGlobals≠P:=λz=>by
   obtain ⟨o,es,ep,e,O,_⟩:=hg;rw [z,hP] at e;cases e;cases O
  refine W.kla_makeFunction (mg:=X.mg) aa I.ok.glob hg B (C.keeps I.bk) hP trivial rfl ah hB λc' j h' tk hx D ad ae Z=>?_;obtain ⟨c2,oc,vs,tq,ec,ag,O,hv⟩:=ae;cases ec;have ai:c'≠P:=λz=>by rw [z] at D;exact Yce _ (Yax (Yal hP) D)
  have aj:P<h'.objs.size:=Yal Z;have nc:H c'=none:=I.hok.fresh D;have L:s.heap.objs.size<=h'.objs.size:=Ycb D (Ycs ad);have nf:H h'.objs.size=none:=I.hok.fresh L;have ak:c'≠h'.objs.size:=Yay ad;have am:P≠h'.objs.size:=Yay aj;generalize hH':upd (upd (upd H P (.tbl #[rawInt pos.line,rawInt pos.col,.ref c'])) c' (.frz oc (.own c'))) h'.objs.size (.frz (W.kla_obj "<lambda>" qual params body scope clos ((X.mg "__name__").getD .none) c' j) (.own h'.objs.size))=H';have aP:H' P=some (.tbl #[rawInt pos.line,rawInt pos.col,.ref c']):=by rw [<-hH',Go am,Go (Ne.symm ai),Gb]
  have ac:H' c'=some (.frz oc (.own c')):=by rw [<-hH',Go ak,Gb]
  have af:H' h'.objs.size=some (.frz (W.kla_obj "<lambda>" qual params body scope clos ((X.mg "__name__").getD .none) c' j) (.own h'.objs.size)):=by rw [<-hH',Gb]
  have ao:∀b,b≠P->b≠c'->b≠h'.objs.size->H' b=H b:=λb h1 h2 h3=>by rw [<-hH',Go h3,Go h2,Go h1]
  have sl:SameL P H H':=λb o hb e=>by
   rw [ao b hb (λz=>by rw [z,nc] at e;cases e) (λz=>by rw [z,nf] at e;cases e)];exact e
  have kp:∀b o,b≠P->s.heap.get? b=some o->(h'.push (W.kla_obj "<lambda>" qual params body scope clos ((X.mg "__name__").getD .none) c' j)).get? b=some o:=λb o hb e=>Yao _ (hx b o hb e);have nP:∀b,H b=none->b≠P:=λb n z=>by rw [z,Y] at n;cases n
  have I':Inv X qQ σ H' { s with heap:=h'.push (W.kla_obj "<lambda>" qual params body scope clos ((X.mg "__name__").getD .none) c' j),toks:=tk }:=by
   refine I.un ⟨λb o e n _ _=>kp b o (nP b n) e,λb o e n _ _=>⟨o.slots,kp b o (nP b n) e⟩,λb o e n _=>?_,λb o e _=>?_,λb ys e=>sl b _ (λz=>by rw [z,Y] at e;cases e) e,λb o u e=>sl b _ (λz=>by rw [z,Y] at e;cases e) e,λb ps e=>?_⟩ λb o e=>?_
   ·rw [ao b (nP b n) (Yay (Yax (Yal e) D)) (Yay (Yax (Yal e) L))];exact n
   ·by_cases z:b=P
    ·rw [z];exact ⟨_,Yao _ Z⟩
    ·exact ⟨o,kp b o z e⟩
   ·by_cases z:b=P
    ·rw [z,Y] at e;cases e;exact ⟨_,by rw [z];simpa using aP⟩
    ·exact ⟨#[],by rw [sl b _ z e];simp⟩
   ·by_cases z:b=P
    ·rw [z,aP] at e;cases e;rw [z];exact Yao _ Z
    ·by_cases z2:b=c'
     ·rw [z2,ac] at e;cases e;rw [z2];exact ⟨Yao _ ag,_,Yao _ ag⟩
     ·by_cases z3:b=h'.objs.size
      ·rw [z3,af] at e;cases e;rw [z3];exact ⟨Ybl _ rfl,_,Ybl _ rfl⟩
      ·rw [ao b z z2 z3] at e;refine (I.hok b o e).stay (λd u O U=>kp d u ?_ U) (λd U=>sl d _ (λy=>by rw [y,Y] at U;cases U) U) λd ys U=>sl d _ (λy=>by rw [y,Y] at U;cases U) U;rcases O with rfl | O
       ·exact z
       ·exact λy=>by rw [y,Y] at O;cases O
  exact ⟨.ref h'.objs.size,H',I',rfl,q _ c' j H' sl ⟨aP,oc,ac,vs,tq,O,hv⟩ nf af⟩
 ·have hP:s.heap.get? P=some (W.tabObj #[rawInt pos.line,rawInt pos.col,.ref c']):=I.hok P _ e1;refine W.kla_makeFunctionHit (cv:=.ref c') (mg:=X.mg) aa I.ok.glob hg B (C.keeps I.bk) hP trivial ?_ hB λj h' tk hk L=>?_
  ·simp [codeAmong,rawInt]
  ·have nf:H h'.objs.size=none:=I.hok.fresh L;have I':=I.laid (a:=h'.objs.size) (o:=.frz (W.kla_obj "<lambda>" qual params body scope clos ((X.mg "__name__").getD .none) c' j) (.own h'.objs.size)) (h':=h'.push (W.kla_obj "<lambda>" qual params body scope clos ((X.mg "__name__").getD .none) c' j)) (t':=tk) (λb o e=>Yao _ (hk b o e)) L ⟨Ybl _ rfl,_,Ybl _ rfl⟩;have sm:Same H (upd H h'.objs.size (.frz (W.kla_obj "<lambda>" qual params body scope clos ((X.mg "__name__").getD .none) c' j) (.own h'.objs.size))):=Same.new nf;exact ⟨.ref h'.objs.size,_,I',rfl,q _ c' j _ (.of sm) (LamOn.same ⟨e1,oc,e2,vs,tq,O,hv⟩ sm) nf Gb⟩
theorem Y4 {id:String}{ks:List Str}{r:St->List V->List V->Hp->VK->Prop}{x:Str}{p pos:Pos}{e:Expr}{es:List Expr}{kws:List Keyword}{t tk:TA}(U:∀(qQ:List (Addr×Obj))(s:Shared)(σ:St)(H:Hp)(xs:List V)(us:List Value)(zs:List V)(ws:List Value)(Q:VK),Inv X qQ σ H s->Vals xs us->Vals zs ws->r σ xs zs H Q->wpAny (model X.prog X.w) X.A (call (.builtin id) us (ks.zip ws)) (EP X qQ σ Q) X.xe s)(Y:Gl X x)(Z:X.mg x=none)(hv:bootBuiltins x=some (.builtin id))(ha:PA X (e::es) t)(j:PK X kws tk)(B:(backToKw pos (keywordEach kws X.env)).filterMap (·.1)=ks:=by rfl)(hn:x ≠ "__name__" := by decide)(D:(x == ("__debug__" : Str))=false:=by decide)(he:backTo pos (starEach (e::es) X.env)=(false,eval e X.env)::backTo pos (starEach es X.env):=by rfl)(L:(backTo pos (starEach (e::es) X.env)).any (·.1)=false:=by rfl)(qY:(backToKw pos (keywordEach kws X.env)).all (·.1.isSome)=true:=by rfl)(O:(backToKw pos (keywordEach kws X.env)).any (·.1.isNone)=false:=by rfl) :
  PE X (.Call (.Name x p) (e::es) kws pos) (λσ H Q=>t σ H λvs H1=>tk σ H1 λzs H2=>r σ vs zs H2 Q):=by
 intro qQ s σ H Q I h;refine Ydq (U6 I Y Z hv ?_ hn D);refine PyProof.Rows.callWith_kw (thG (ha pos qQ s σ H _ I h) λus s1 vs H1 I1 r1 q1=>thG (j pos qQ s1 σ H1 _ I1 q1) λws s2 zs H2 I2 r2 q2=>?_) he L qY O;rw [B];exact U qQ s2 σ H2 vs us zs ws Q I2 r1 r2 q2
end
section
variable {P:Program}{w:World}{K:W.Frag}{mg:Str->Option Value}{base:Heap}
theorem Fun.okC {x qual:Str}{st:Stmt}{f c:Addr}{fd:FuncData}{N ps:List Str}{k:Nat}{sp:Sp}(F:Fun K x qual st f fd)(L:fd.code=.ref c)(S:Gu N ps (Gg st))(len:∀vs H Q E,sp vs H Q E->vs.length=ps.length)(O:∀(A:Around)(outer:List Env)(s:Shared)(H:Hp)(vs:List V)(Q:VK)(E:XK),Room k (A.deeper (envOfC qual (Gg st) s.heap.objs.size f (.ref c)))->sp vs H Q E ->
   ∃t,PSs (YM CX0 P w K mg base N qual (Gg st) f (.ref c) A outer s H E).nox (Gx st) t/\t { nx:=λ_ H'=>Q .non H',rt:=Q } (start N vs) H):FnOk P w K mg base CX0 (k+1) f fd ps sp:=by
 obtain ⟨oc,od,kV,U,pm,an,j,ct,Y,rfl,Z,B⟩:=F.ex;have e:j=.ref c:=L;subst e;refine ZI Z B S len λA outer s H vs Q E hr D=>?_;obtain ⟨t,h,q⟩:=O A outer s H vs Q E hr D;exact ⟨t,h.nox,q⟩
theorem SameL.lst {P:Addr}{H H':Hp}{a:Addr}{xs:List V}{ps:Array Value}(s:SameL P H H')(j:H P=some (.tbl ps))(e:H a=some (.lst xs)):H' a=some (.lst xs):=s a _ (λz=>by rw [z,j] at e;cases e) e
theorem SameL.tup {P:Addr}{H H':Hp}{a:Addr}{xs:List V}{ps:Array Value}(s:SameL P H H')(j:H P=some (.tbl ps))(e:H a=some (.tup xs)):H' a=some (.tup xs):=s a _ (λz=>by rw [z,j] at e;cases e) e
theorem LamSt.tbl {P:Addr}{j col:Nat}{qual:Str}{H:Hp}(h:LamSt P j col qual H):∃ps,H P=some (.tbl ps):=by
 rcases h with h | ⟨c,h,_⟩
 ·exact ⟨_,h⟩
 ·exact ⟨_,h⟩
theorem Trs.sameL {P:Addr}{H H':Hp}{ps:Array Value}(s:SameL P H H')(hP:H P=some (.tbl ps)):∀{xs:List V}{ts:List Tri},Trs H xs ts->Trs H' xs ts
 | _,_,.nil=>.nil
 | _,_,.cons e r=>.cons (s.tup hP e) (Trs.sameL s hP r)
theorem SameL.free {P p:Addr}{H H':Hp}{ps:Array Value}(s:SameL P H H')(L:H P=some (.tbl ps))(j:∃B,H' P=some (.tbl B))(h:H' p=none):H p=none:=by
 cases e:H p with
 | none=>rfl
 | some o=>
  by_cases z:p=P
  ·obtain ⟨B,D⟩:=j;rw [z,D] at h;cases h
  ·rw [s p o z e] at h;cases h
end
end L2
namespace L2
open PySem PySem.Spec PyProof.Rows
section
variable (P:Program)(w:World)
noncomputable def VX (h:Heap)(row:List Int)(v:Value):Prop:=∃b,v=.ref b/\IsTupleKey (intKind P w) h row b
noncomputable def OW (h:Heap)(k:List (List Int))(a:Addr):Prop:=∃o vs n,h.get? a=some o/\o.cls=.type "tuple" /\ o.data=.seq vs n/\Paired (VX P w h) k vs.toList
noncomputable def VY (k:List (List Int)):Int:=reduceHash (Builtin.Tuple.tupleHashOf (k.map (tupleKeyHash (intKind P w))))
end
section
variable {P:Program}{w:World}{A:Around}{E:EX}{s:Shared}{h h':Heap}
theorem ZbZ {k l:List (List Int)}{vs:List Value}(r:Paired (VX P w h) k vs)(t:Paired (VX P w h) l vs):k=l:=by
 induction r generalizing l with
 | nil=>cases t;rfl
 | cons x r ih=>cases t with
  | cons y t=>
   obtain ⟨b,e,x⟩:=x;obtain ⟨c,j,y⟩:=y;rw [e] at j;cases j;rw [x.inj y,ih t]
theorem WZ (B:A.units<cLine):∀{k:List (List Int)}{vs:List Value}{b:Array Int}{s:Shared}{Q:Array Int->Shared->Prop},Paired (VX P w s.heap) k vs ->
  (∀j:Array Int,j.toList=b.toList++k.map (tupleKeyHash (intKind P w))->Q j { s with toks:=s.toks+(k.map λr=>r.length+1).sum }) ->
  wpAny (model P w) A (forIn vs b λx r=>do let h <- pyHash x;pure PUnit.unit;pure (ForInStep.yield (r.push h))) Q E s
 | _,_,b,s,Q,.nil,q=>by
  rw [List.forIn_nil];exact Yaf (by simpa using q b (by simp))
 | _,_,b,s,Q,.cons (a:=row) (l₁:=k) ⟨c,e,x⟩ r,q=>by
  subst e;rw [List.forIn_cons];refine Yaa (Yaa (wpAny_pyHash_tuple B x (Yaa (Yaf (Yaf ?_)))));refine WZ B (s:={ s with toks:=s.toks+(row.length+1) }) r λj D=>?_;have:=q j (by rw [D];simp);simpa [Nat.add_assoc] using this
theorem XE {k:List (List Int)}{a:Addr}{Q:Int->Shared->Prop}(U:A.units+70<cLine)(x:OW P w s.heap k a)(q:Q (VY P w k) { s with toks:=s.toks+((k.map λr=>r.length+1).sum+1) }) :
  wpAny (model P w) A (pyHash (.ref a)) Q E s:=by
 obtain ⟨o,vs,n,j,B,D,r⟩:=x;refine W.pyHash_slot (T := "tuple") ⟨o,j,B⟩ F.slot_tuple_hash F.entry_tuple_hash (F.args_tuple_hash_1 _) (beq_builtin_none _) (.inr (by lia)) ?_;show wpAny (model P w) A.in1 (Builtin.Tuple.tupleItemsOf (.ref a) >>= _) _ E s;refine Yaa (wpAny_tupleItemsOf j D (Yaa ?_));rw [<-Array.forIn_toList];refine WZ (by rw [Around.in1_units];lia) r λL O=>?_;show wpAny _ _ (retInt (Builtin.Tuple.tupleHashOf L.toList)) _ _ _;refine Yaa (wpAny_mkInt (Yaf ⟨_,_,rfl,?_⟩));rw [O];simpa [VY,Nat.add_assoc] using q
noncomputable def J9 (row:List Int):PyData:=.tuple (row.map PyData.int)
theorem Y5 {its:List Value}{row:List Int}(x:ItemsAre (intKind P w) row its):∃j,ReadsAll h its (row.map PyData.int) j:=by
 induction x with
 | nil=>exact ⟨_,.nil⟩
 | @cons k v ks vs h1 _ ih=>
  obtain ⟨j,r⟩:=ih;obtain ⟨t,rfl⟩:∃t,v=.int k t:=by
   cases v <;> simp [intKind,Value.isInt] at h1;subst h1;exact ⟨_,rfl⟩
  exact ⟨_,.cons (.int _ _) r⟩
theorem Zai {row:List Int}{v:Value}(x:VX P w h row v):∃j,Reads h v (J9 row) j:=by
 obtain ⟨b,rfl,o,its,n,h1,h2,B,D⟩:=x;obtain ⟨j,r⟩:=Y5 (h:=h) D;exact ⟨j,.tuple h1 h2 B r⟩
theorem Ua:∀{k:List (List Int)}{vs:List Value},Paired (VX P w h) k vs->∃j,ReadsAll h vs (k.map J9) j
 | _,_,.nil=>⟨_,.nil⟩
 | _,_,.cons x r=>by
  obtain ⟨j,h1⟩:=Zai x;obtain ⟨bs,h2⟩:=Ua r;exact ⟨_,.cons h1 h2⟩
theorem Yq (row:List Int):PyData.canLay0 (J9 row)=true:=by
 unfold J9;simp only [PyData.canLay0];exact Om row
theorem Uu:∀k:List (List Int),PyData.canLayAll0 (k.map J9)=true
 | []=>by simp [PyData.canLayAll0]
 | r::k=>by
  rw [Yaq];simp [PyData.canLayAll0,Yq r,Uu k]
theorem Ub:∀k:List (List Int),PyData.depthAll (k.map J9)<=2
 | []=>by simp [PyData.depthAll]
 | r::k=>by
  have ih:=Ub k;have:=Jo r;rw [Yaq];simp only [PyData.depthAll,J9,PyData.depth]
  lia
theorem Uv (r q:List Int):PyData.eqv (J9 r) (J9 q)=decide (r=q):=by
 have:=JY r q;unfold J9;simp only [PyData.eqv] at this ⊢;exact this
theorem OG:∀k l:List (List Int),PyData.eqvAll (k.map J9) (l.map J9)=decide (k=l)
 | [],[]=>by simp [PyData.eqvAll]
 | [],_::_=>by simp [PyData.eqvAll]
 | _::_,[]=>by simp [PyData.eqvAll]
 | r::k,q::l=>by
  rw [Yaq,Yaq];simp only [PyData.eqvAll,Uv,OG k l];by_cases e1:r=q <;> by_cases e2:k=l <;> simp [e1,e2]
theorem Zb0 (k l:List (List Int)):PyData.eqv (.tuple (k.map J9)) (.tuple (l.map J9))=decide (k=l):=by
 simp only [PyData.eqv,OG]
theorem XF {k l:List (List Int)}{a b:Addr}{Q:Bool->Shared->Prop}(hu:A.units+70<cLine)(x:OW P w s.heap k a)(y:OW P w s.heap l b)(q:Q (decide (k=l)) s) :
  wpAny (model P w) A (eqBool (.ref a) (.ref b)) Q E s:=by
 obtain ⟨o,vs,n,L,O,U,r⟩:=x;obtain ⟨o',Y,n',j,B,D,r'⟩:=y;obtain ⟨Z,h1⟩:=Ua r;obtain ⟨bs,h2⟩:=Ua r';have e:=SeqAt.eqAt_reads (.tuple (k.map J9)) (.tuple (l.map J9)) A s (.ref a) (.ref b) Z bs (.tuple L O U h1) (.tuple j B D h2) (by simp only [PyData.canLay0];exact Uu k) (by simp only [PyData.canLay0];exact Uu l) ?_
 ·rw [Zb0] at e;exact e P w E Q q
 ·have d1:=Ub k;simp only [PyData.depth]
  lia
theorem Vk {n:Nat}{Q:Option Bool×PUnit->Shared->Prop}(q:Q (none,⟨⟩) s):∀{vs:List Value},(∀v∈vs,∀{Q:Bool->Shared->Prop},Q true s->wpAny (model P w) A (eqIsQuiet n v) Q E s) ->
  wpAny (model P w) A (forIn vs ((none,⟨⟩):Option Bool×PUnit) λy r=>do if !(<- eqIsQuiet n y) then pure (ForInStep.done (some false,⟨⟩)) else pure (ForInStep.yield (none,⟨⟩))) Q E s
 | [],_=>by
  rw [List.forIn_nil];exact Yaf q
 | v::vs,hv=>by
  rw [List.forIn_cons];refine Yaa (Yaa (hv v (Yaw ..) ?_));simp only [Bool.not_true,Bool.false_eq_true,if_false];exact Yaf (Vk q λu hu=>hv u (Ybc _ hu))
theorem UL {n m:Nat}{a:Addr}{o:Obj}{vs:Array Value}{Q:Bool->Shared->Prop}(j:s.heap.get? a=some o)(B:o.cls=.type "tuple")(D:o.data=.seq vs m)(L:∀v∈vs.toList,∀{Q:Bool->Shared->Prop},Q true s->wpAny (model P w) A (eqIsQuiet n v) Q E s)(q:Q true s):wpAny (model P w) A (eqIsQuiet (n+1) (.ref a)) Q E s:=by
 unfold eqIsQuiet;refine Yaa (wpAny_specialOf (⟨o,j,B⟩:s.TypeIs (.ref a) "tuple") F.slot_tuple_eq.lookup ?_);show wpAny _ _ (isInstance (.ref a) (.type "tuple") >>= _) _ _ s;refine Yaa (wpAny_isInstance (⟨o,j,B⟩:s.TypeIs (.ref a) "tuple") isSubtype_tuple_tuple ?_);simp only [Bool.not_true,Bool.false_eq_true,if_false];refine Yaa (wpAny_seqItems j D (Yaa ?_));show wpAny _ _ (forIn vs _ _) _ _ s;rw [<-Array.forIn_toList];exact Vk (Yaf q) L
theorem Zaj {n:Nat}{row:List Int}{its:List Value}(x:ItemsAre (intKind P w) row its):∀v∈its,∀{Q:Bool->Shared->Prop},Q true s->wpAny (model P w) A (eqIsQuiet n v) Q E s:=λv j Q q=>by
 rw [eqIsQuiet_byValue n (x.byValue v j)];exact Yaf q
theorem Y6 {k:List (List Int)}{a:Addr}{Q:Bool->Shared->Prop}(x:OW P w s.heap k a)(q:Q true s):wpAny (model P w) A (eqIsQuiet 8 (.ref a)) Q E s:=by
 obtain ⟨o,vs,n,D,L,O,r⟩:=x;refine UL D L O (λv j Q q=>?_) q;have B:∀{k:List (List Int)}{vs:List Value},Paired (VX P w s.heap) k vs->∀v∈vs,∃row,VX P w s.heap row v:=by
  intro k vs r
  induction r with
  | nil=>intro v j;cases j
  | cons x _ ih=>
   intro v j;rcases Yaz.mp j with rfl | j
   ·exact ⟨_,x⟩
   ·exact ih v j
 obtain ⟨row,b,rfl,o',its,m,h1,h2,U,Y⟩:=B r v j;exact UL h1 h2 U (Zaj Y) q
theorem Y7 {k:List (List Int)}{a d:Addr}{o:Obj}{es ep}(x:OW P w h k a)(B:h.get? d=some o)(D:o.data=.dict es ep)(L:Heap.SameBut d h h'):OW P w h' k a:=by
 obtain ⟨o',vs,n,h1,h2,j,r⟩:=x;have ne:a≠d:=λz=>by
  rw [z,B] at h1;cases h1;rw [D] at j;cases j
 refine ⟨o',vs,n,(L.2 a ne).trans h1,h2,j,?_⟩;refine Paired.mapP r λrow v z=>?_;obtain ⟨b,e,y⟩:=z;exact ⟨b,e,y.keeps B D L⟩
end
noncomputable def J0 (P:Program)(w:World):HeapKind P w (List (List Int)) where
 is:=OW P w
 hash:=VY P w
 draws:=λk=>(k.map λr=>r.length+1).sum+1
 room:=λA=>A.units+70<cLine
 inj:=λ{h a x y} hx hy=>by
  obtain ⟨o,vs,n,h1,_,h3,r⟩:=hx;obtain ⟨o',vs',n',h1',_,h3',r'⟩:=hy;rw [h1] at h1';cases h1';rw [h3] at h3';cases h3';exact ZbZ r r'
 keeps:=λx ho hd hs=>Y7 x ho hd hs
 pyHash:=λhu x q=>XE hu x q
 eqBool:=λhu x y q=>XF hu x y q
 quiet:=λx q=>Y6 x q
noncomputable def KeyTT (H:Hp)(b:Addr)(k:List (List Int)):Prop:=∃cs:List Addr,H b=some (.tup (cs.map V.ref))/\Paired (λ(row:List Int) (c:Addr)=>H c=some (.tup (row.map V.int))) k cs
theorem KeyTT.keep {H H':Hp}{b:Addr}{k:List (List Int)}(x:KeyTT H b k)(t:∀p ys,H p=some (.tup ys)->H' p=some (.tup ys)):KeyTT H' b k:=by
 obtain ⟨cs,h1,h2⟩:=x;exact ⟨cs,t _ _ h1,Paired.mapP h2 λ_ _ z=>t _ _ z⟩
noncomputable abbrev TTs:=List (List (List Int)×Addr×V)
noncomputable def Zhf (P:Program)(w:World)(a:Addr)(kvs:TTs)(h:Heap):Prop:=∃xs:List (List (List Int)×Addr×Value),Paired (λ(p:List (List Int)×Addr×V) (q:List (List Int)×Addr×Value)=>p.1=q.1/\p.2.1=q.2.1/\RelV p.2.2 q.2.2) kvs xs /\
 ∃o es ep,h.get? a=some o/\o.ExactDict/\o.data=.dict es ep/\es.toList=xs.map (entryOfKey (J0 P w))/\(xs.map (·.1)).Nodup
noncomputable def dtt (P:Program)(w:World)(a:Addr)(kvs:TTs):HO:=.ext λh=>kvs.length<=sizeLine/\(a == sysModules)=false/\Zhf P w a kvs h
noncomputable def KeysTT (H:Hp)(kvs:TTs):Prop:=∀p∈kvs,KeyTT H p.2.1 p.1
noncomputable def U0 (kvs:TTs)(k:List (List Int)):Option V:=(kvs.find? λp=>decide (p.1=k)).map (·.2.2)
theorem KeysTT.keep {H H':Hp}{kvs:TTs}(x:KeysTT H kvs)(t:∀p ys,H p=some (.tup ys)->H' p=some (.tup ys)):KeysTT H' kvs:=λp j=>(x p j).keep t
section
variable {P:Program}{w:World}{H:Hp}{h:Heap}{a:Addr}
theorem W1 {b:Addr}{k:List (List Int)}(ok:HOk P w H h)(x:KeyTT H b k):OW P w h k b:=by
 obtain ⟨cs,h1,h2⟩:=x;obtain ⟨_,its,r,o,j,B,n,D⟩:=(show ObjOk P w H h b (.tup (cs.map V.ref)) from ok b _ h1);refine ⟨o,its.toArray,n,j,B,D,?_⟩;have row:∀{row:List Int}{c:Addr},H c=some (.tup (row.map V.int))->IsTupleKey (intKind P w) h row c:=λ{row c} e=>by
  obtain ⟨_,its,r,o,L,O,n,U⟩:=(show ObjOk P w H h c (.tup (row.map V.int)) from ok c _ e);refine ⟨o,its.toArray,n,L,O,U,?_⟩;have go:∀{row:List Int}{its:List Value},Vals (row.map V.int) its->ItemsAre (intKind P w) row its:=by
   intro row
   induction row with
   | nil=>intro its r;cases r;exact .nil
   | cons x row ih=>
    intro its r;rw [Yaq] at r;cases r with
    | cons h t=>
     obtain ⟨tk,rfl⟩:=h;exact .cons (by simp [intKind,Value.isInt]) (ih t)
  simpa using go r
 have go:∀{k:List (List Int)}{cs:List Addr}{its:List Value},Paired (λ(row:List Int) (c:Addr)=>H c=some (.tup (row.map V.int))) k cs->Vals (cs.map V.ref) its->Paired (VX P w h) k its:=by
  intro k cs its p
  induction p generalizing its with
  | nil=>intro r;cases r;exact .nil
  | @cons a b l1 l2 e _ ih=>
   intro r;rw [Yaq] at r;cases r with
   | cons hh t=>
    cases hh;exact .cons ⟨_,rfl,row e⟩ (ih t)
 simpa using go h2 r
theorem Zak {kvs:TTs}(ok:HOk P w H h)(e:H a=some (dtt P w a kvs))(K:KeysTT H kvs):kvs.length<=sizeLine/\(a == sysModules)=false/\∃xs,Paired (λ(p:List (List Int)×Addr×V) (q:List (List Int)×Addr×Value)=>p.1=q.1/\p.2.1=q.2.1/\RelV p.2.2 q.2.2) kvs xs/\h.DictOfH (J0 P w) a xs:=by
 obtain ⟨⟨z,y,xs,r,o,es,ep,h1,h2,B,D,L⟩,_,_⟩:=(show ObjOk P w H h a (dtt P w a kvs) from ok a _ e);refine ⟨z,y,xs,r,o,es,ep,h1,h2,B,D,λx j=>?_,L⟩;have all:∀{l:TTs}{m:List (List (List Int)×Addr×Value)},Paired (λ(p:List (List Int)×Addr×V) (q:List (List Int)×Addr×Value)=>p.1=q.1/\p.2.1=q.2.1/\RelV p.2.2 q.2.2) l m->KeysTT H l->∀x∈m,OW P w h x.1 x.2.1:=by
  intro l m q
  induction q with
  | nil=>intro _ x j;cases j
  | @cons p q ps qs hq t ih=>
   intro K x j;rcases Yaz.mp j with rfl | j
   ·rw [<-hq.1,<-hq.2.1];exact W1 ok (K p (Yaw ..))
   ·exact ih (λy O=>K y (Ybc _ O)) x j
 exact all r K x j
theorem Zal {kvs:TTs}{xs:List (List (List Int)×Addr×Value)}(r:Paired (λ(p:List (List Int)×Addr×V) (q:List (List Int)×Addr×Value)=>p.1=q.1/\p.2.1=q.2.1/\RelV p.2.2 q.2.2) kvs xs)(k:List (List Int)):RelO (U0 kvs k) ((atKey xs k).map (·.2)):=by
 induction r with
 | nil=>exact True.intro
 | @cons p q ps j h t O=>
  obtain ⟨h1,_,h2⟩:=h;by_cases e:p.1=k
  ·have B:q.1=k:=h1.symm.trans e;have D:U0 (p::ps) k=some p.2.2:=by simp [U0,Ycf,e]
   have L:atKey (q::j) k=some q.2:=by simp [atKey,Ycf,B]
   rw [D,L];exact h2
  ·have B:¬ q.1=k:=λz=>e (h1.trans z);have D:U0 (p::ps) k=U0 ps k:=by simp [U0,Ycf,e]
   have L:atKey (q::j) k=atKey j k:=by simp [atKey,Ycf,B]
   rw [D,L];exact O
theorem Zam {kvs:TTs}{xs:List (List (List Int)×Addr×Value)}{H':Hp}(z:kvs.length<=sizeLine)(y:(a == sysModules)=false)(r:Paired (λ(p:List (List Int)×Addr×V) (q:List (List Int)×Addr×Value)=>p.1=q.1/\p.2.1=q.2.1/\RelV p.2.2 q.2.2) kvs xs)(dd:h.DictOfH (J0 P w) a xs):ObjOk P w H' h a (dtt P w a kvs):=by
 obtain ⟨o,es,ep,h1,h2,D,L,_,O⟩:=dd;refine ⟨⟨z,y,xs,r,o,es,ep,h1,h2,D,L,O⟩,⟨o,h1⟩,λg1 g2 x k=>?_⟩;obtain ⟨U,Y,xs',r',o',j,B,Z,e2⟩:=x;exact ⟨U,Y,xs',r',o',j,B,k _ Z,e2⟩
end
noncomputable def Zgs (P:Program)(w:World)(H:Hp)(a:Addr)(y:V)(o:Option V):Prop:=∃kvs k b,H a=some (dtt P w a kvs)/\KeysTT H kvs/\y=.ref b/\KeyTT H b k/\o=U0 kvs k
section
variable {X:Cx}{qQ:List (Addr×Obj)}{σ:St}{H:Hp}{s:Shared}{a:Addr}{y v d:V}{u r:Value}{o:Option V}{A:Around}{E:EX}
theorem VZ {P:Program}{w:World}(j:A.units+71<cLine):(J0 P w).room A.in1:=by
 show A.in1.units+70<cLine;rw [Around.in1_units]
 lia
theorem Zdz {Q:EX}(B:A.units+71<cLine)(I:Inv X qQ σ H s)(g:Zgs X.prog X.w H a y o)(D:RelV y u)(h:∀s',Inv X qQ σ H s'->Q (.bool (!o.isSome)) s') :
  wpAny (model X.prog X.w) A (compareOp .NotIn u (.ref a)) Q E s:=by
 obtain ⟨kvs,k,b,e,K,rfl,L,rfl⟩:=g;cases (show u=Value.ref b from D);obtain ⟨z,O,xs,j,U⟩:=Zak I.hok e K;refine wpAny_notIn_heap (VZ B) (W1 I.hok L) O U ?_;have q:=(Zal j k).isSome_eq;rw [Option.isSome_map] at q;rw [<-q];exact h _ (I.tok _)
theorem ZeU {Q:EX}(L:A.units+71<cLine)(I:Inv X qQ σ H s)(g:Zgs X.prog X.w H a y o)(O:RelV y u)(U:RelV d r)(h:∀B s',Inv X qQ σ H s'->RelV (o.getD d) B->Q B s') :
  wpAny (model X.prog X.w) A (call (.builtin "dict.get") [.ref a,u,r]) Q E s:=by
 obtain ⟨kvs,k,b,e,K,rfl,Y,rfl⟩:=g;cases (show u=Value.ref b from O);obtain ⟨z,Z,xs,j,D⟩:=Zak I.hok e K;exact call_meetsIn PySem.F.slot_dict_get D.typeIs PySem.F.entry_dict_get (PySem.F.args_dict_get_3 _ _ _) (meetsH_dict_get_default (J0 X.prog X.w) a b Z r) ⟨VZ L,k,xs,W1 I.hok Y,D,h _ _ (I.tok _) ((Zal j k).getD U)⟩
theorem Zan {kvs:TTs}{k:List (List Int)}{b:Addr}{Q:Unit->Shared->Prop}(L:A.units+71<cLine)(I:Inv X qQ σ H s)(e:H a=some (dtt X.prog X.w a kvs))(K:KeysTT H kvs)(O:KeyTT H b k)(U:U0 kvs k=none)(hl:kvs.length<sizeLine)(Y:RelV v r)(h:∀s',Inv X qQ σ (upd H a (dtt X.prog X.w a (kvs++[(k,b,v)]))) s'->Q () s'):wpAny (model X.prog X.w) A (setItem (.ref a) (.ref b) r) Q E s:=by
 obtain ⟨z,Z,xs,j,dd⟩:=Zak I.hok e K;have hz:xs.length<=sizeLine:=by rw [<-Ydi j];exact z
 have D:atKey xs k=none:=Ydg.mp (RelO.none_of (by rw [<-U];exact Zal j k));refine wpAny_setItem_heap (hsz:=hz) (VZ L) (W1 I.hok O) dd λh' B hs=>h _ ?_;rw [storedH_new D] at B;have he:∃q,h'.get? a=some q:=let ⟨q,_,_,hq,_⟩:=B;⟨q,hq⟩;exact O5 I (by rw [e];exact True.intro) hs he (Zam (by rw [Yag,Yat];lia) Z (Paired.snoc j ⟨rfl,rfl,Y⟩) B)
end
mutual
inductive Th (H:Hp):V->PyData->Prop
 | non:Th H .non .none
 | bl (b:Bool):Th H (.bl b) (.bool b)
 | int (i:Int):Th H (.int i) (.int i)
 | str (x:Str):Th H (.str x) (.str x)
 | lst {a:Addr} {xs:List V} {ds:List PyData}:H a=some (.lst xs)->xs.length<=1000->Ths H xs ds->Th H (.ref a) (.list ds)
 | tup {a:Addr} {xs:List V} {ds:List PyData}:H a=some (.tup xs)->xs.length<=1000->Ths H xs ds->Th H (.ref a) (.tuple ds)
inductive Ths (H:Hp):List V->List PyData->Prop
 | nil:Ths H [] []
 | cons {x:V} {d:PyData} {xs:List V} {ds:List PyData}:Th H x d->Ths H xs ds->Ths H (x::xs) (d::ds)
end
mutual
theorem Th.same {H H':Hp}(s:Same H H'):∀{v:V}{d:PyData},Th H v d->Th H' v d
 | _,_,.non=>.non
 | _,_,.bl b=>.bl b
 | _,_,.int i=>.int i
 | _,_,.str x=>.str x
 | _,_,.lst e z h=>.lst (s _ _ e) z (Ths.same s h)
 | _,_,.tup e z h=>.tup (s _ _ e) z (Ths.same s h)
theorem Ths.same {H H':Hp}(s:Same H H'):∀{vs:List V}{ds:List PyData},Ths H vs ds->Ths H' vs ds
 | _,_,.nil=>.nil
 | _,_,.cons h t=>.cons (Th.same s h) (Ths.same s t)
end
section
variable {X:Cx}{a:Expr}{ta:TE}{pos:Pos}
theorem W2 (K:W.Frag)(h:X.K=K:=by rfl):J6 X (.type "tuple") (λxs H Q=>∃p ys,xs=[.ref p]/\((SqL K H p ys/\∀l,H l=none->Q (.ref l) (upd H l (.tup ys)))\/(SqT K H p ys/\Q (.ref p) H))):=h▸Vz
end
section
variable {X:Cx}{qQ:List (Addr×Obj)}{σ:St}{H:Hp}{s:Shared}{a:Addr}
theorem Zhg {kvs:TTs}(I:Inv X qQ σ H s)(e:H a=some (dtt X.prog X.w a kvs)):s.TypeIs (.ref a) "dict" /\ ∀b,Value.ref a=.ref b->∃j,s.heap.get? b=some j/\j.dict=none:=by
 obtain ⟨⟨_,_,xs,_,o,es,ep,h1,h2,_⟩,_,_⟩:=(show ObjOk X.prog X.w H s.heap a (dtt X.prog X.w a kvs) from I.hok a _ e);refine ⟨⟨o,h1,h2.1⟩,λb q=>?_⟩;cases q;exact ⟨o,h1,h2.2.1⟩
end
section
variable (P:Program)(w:World)
noncomputable def ZdA (ty td:TE):TE:=λσ H Q=>ty σ H λy H1=>td σ H1 λx H2=>∃a o,x=.ref a/\Zgs P w H2 a y o/\Q (.bl (!o.isSome)) H2
noncomputable def Zhh (td ty tv:TE):TS:=λD σ H=>tv σ H λv H1=>td σ H1 λx H2=>ty σ H2 λy j=>∃a b kvs k,x=.ref a/\y=.ref b/\j a=some (dtt P w a kvs)/\KeysTT j kvs/\KeyTT j b k/\U0 kvs k=none/\kvs.length<sizeLine/\D.nx σ (upd j a (dtt P w a (kvs++[(k,b,v)])))
noncomputable def ZeV (td ty tx:TE):TE:=λσ H Q=>td σ H λx H1=>∃a kvs,x=.ref a/\H1 a=some (dtt P w a kvs)/\ty σ H1 λy H2=>tx σ H2 λz j=>∃o,Zgs P w j a y o/\Q (o.getD z) j
noncomputable def ZeW (tk tv:TE):TE:=λσ H Q=>∀p,H p=none->tk σ (upd H p (.dK [])) λy H1=>tv σ H1 λv H2=>H2 p=some (.dK [])/\∃b k,y=.ref b/\KeyTT H2 b k/\Q (.ref p) (upd H2 p (dtt P w p [(k,b,v)]))
end
section
variable {X:Cx}{P:Program}{w:World}{o i e f value:Expr}{pos pos' apos qK:Pos}{td ty tv tx tk:TE}
theorem Zao (j:X.prog=P)(B:X.w=w)(D:X.A.units+71<cLine)(hi:PE X i ty)(L:PE X o td):PC X .NotIn i o (ZdA P w ty td):=by
 subst j B;intro qQ s σ H Q I h;refine thG (hi qQ s σ H _ I h) λiv O y H1 U Y Z=>thG (L qQ O σ H1 _ U Z) λu s2 x H2 I2 rx ⟨a,ov,ex,g,q2⟩=>?_;subst ex;obtain rfl:u=Value.ref a:=rx;exact Zdz D I2 g Y λs3 I3=>⟨.bl (!ov.isSome),H2,I3,rfl,q2⟩
theorem ZdB (j:X.prog=P)(B:X.w=w)(L:X.A.units+71<cLine)(O:PE X o td)(hi:PE X i ty)(U:PE X value tv)(Y:swapsWith value (some (.Subscript o i pos')) pos.line X.env=pure false) :
  PS X (.Assign [.Subscript o i pos'] value pos) (Zhh P w td ty tv):=by
 subst j B;intro qQ s σ H D I h;refine wpAny_Assign_Subscript (thG (U qQ s σ H _ I h) λr Z v H1 I1 rv q1=>thG (O qQ Z σ H1 _ I1 q1) λu s2 x H2 I2 rx q2=>thG (hi qQ s2 σ H2 _ I2 q2) λiv s3 y H3 I3 ry ⟨a,b,kvs,k,ex,ey,ea,K,kb,hn,hl,q3⟩=>?_) Y;subst ex ey;obtain rfl:u=Value.ref a:=rx;obtain rfl:iv=Value.ref b:=ry;exact Zan L I3 ea K kb hn hl rv λs4 I4=>⟨σ,_,I4,q3⟩
theorem Zb1 (D:X.prog=P)(L:X.w=w)(O:X.A.units+71<cLine)(U:PE X o td)(Y:PE X e ty)(Z:PE X f tx)(m:M2 X o "get" apos e f qK):PE X (.Call (.Attribute o "get" apos) [e,f] [] qK) (ZeV P w td ty tx):=by
 subst D L;intro qQ s σ H Q I h;refine wpAny_Call_method m.base m.few m.line PySem.F.plainAttrs_dict PySem.F.slot_dict_get PySem.F.type_dict_get (thG (U qQ s σ H _ I h) λu s1 x H1 B rx ⟨a,kvs,ex,ea,q1⟩=>?_);subst ex;obtain rfl:u=Value.ref a:=rx;obtain ⟨t1,t2⟩:=Zhg B ea;refine ⟨t1,t2,?_⟩;rw [m.trees];refine Calls.callWith_builtin rfl (Calls.evalArgs_plain (Calls.spliced_cons (thG (Y qQ s1 σ H1 _ B q1) λiv s2 y H2 I2 ry q2=>
  Calls.spliced_cons (thG (Z qQ s2 σ H2 _ I2 q2) λfv s3 z H3 I3 rz ⟨ov,g,q3⟩=>Calls.spliced_nil ?_))))
 exact ZeU O I3 g ry rz λw' s4 I4 j=>⟨_,H3,I4,j,q3⟩
theorem Zb2 (Y:X.prog=P)(Z:X.w=w)(hu:X.A.units+71<cLine)(hk:PE X i tk)(hv:PE X value tv):PE X (.Dict [some i] [value] pos) (ZeW P w tk tv):=by
 subst Y Z;intro qQ s σ H Q I q;have hn:=I.hok.fresh (Yad s.heap.objs.size);have I1:=I.laid (a:=s.heap.objs.size) (o:=.dK []) (h':=s.heap.push { cls:=.type "dict", data:=.dict #[] }) (t':=s.toks) (λ_ _ q=>Yao _ q) (Yad _) (Yh s.heap I.big);have pp:PPs X pos [some i] [value] [(tk,tv)]:=OM hk hv Xv;refine wpAny_Dict_any rfl rfl (by simp) (by simp) (thG (pp qQ _ σ _ (λps H2=>match ps with | [(y,v)]=>H2 s.heap.objs.size=some (.dK [])/\∃b k,y=.ref b/\KeyTT H2 b k/\Q (.ref s.heap.objs.size) (upd H2 s.heap.objs.size (dtt X.prog X.w s.heap.objs.size [(k,b,v)])) | _=>False) I1 (q _ hn)) λws s2 ps H2 D L O=>?_);cases L with
 | nil=>exact O.elim
 | @cons p q ps qs h t=>
  cases t with
  | cons _ _=>exact (show False from O).elim
  | nil=>
   obtain ⟨y,v⟩:=p;obtain ⟨u1,u2⟩:=q;obtain ⟨e,b,k,rfl,kb,q3⟩:=(show H2 s.heap.objs.size=some (.dK [])/\∃b k,y=.ref b/\KeyTT H2 b k/\Q (.ref s.heap.objs.size) (upd H2 s.heap.objs.size (dtt X.prog X.w s.heap.objs.size [(k,b,v)])) from O);obtain ⟨h1,h2⟩:=h;cases (show u1=Value.ref b from h1);obtain ⟨z,hd,aa,r0,o,es,ep,g1,g2,g3,g4,U,g6⟩:=Zdj D.hok e;cases r0;have j:es.toList=[]:=by
    cases j:es.toList with
    | nil=>rfl
    | cons x l=>rw [j] at U;cases U
   have dd:s2.heap.DictOfH (J0 X.prog X.w) s.heap.objs.size []:=⟨o,es,ep,g1,g2,g3,j,λx hx=>(by cases hx),Ycv⟩;unfold storeAll;rw [List.forIn_cons];refine Yaa (Yaa (wpAny_dictSet_heap (hsz:=Yan _) (knd:=J0 X.prog X.w) (k:=k) (by show X.A.units+70<cLine;lia) (W1 D.hok kb) dd λh' B hs=>Yaf ?_));show wpAny _ _ (forIn ([]:List (Value×Value)) PUnit.unit _) _ _ _;rw [List.forIn_nil];refine Yaf ⟨.ref s.heap.objs.size,_,?_,rfl,q3⟩;have he:∃q,h'.get? s.heap.objs.size=some q:=let ⟨q,_,_,hq,_⟩:=B;⟨q,hq⟩;exact O5 D (by rw [e];exact True.intro) hs he (Zam (by show 1<=sizeLine;rw [Ybe];lia) hd (.cons ⟨rfl,rfl,h2⟩ .nil) B)
end
section
variable {prog:Program}{w:World}{A:Around}{E:EX}{s:Shared}
theorem Zap {j d:Addr}{i ep:Nat}{es:Array DictEntry}{o:Obj}{e:DictEntry}{Q:EX}(D:s.heap.IsKeyIter j d i es.size ep)(Y:s.heap.get? d=some o)(Z:o.data=.dict es ep)(hi:es[i]?=some e)(q:∀h',h'.IsKeyIter j d (i+1) es.size ep->Heap.SameBut j s.heap h'->Q e.key { s with heap:=h' }):wpAny (model prog w) A (Builtin.«dict_keyiterator.__next__» ⟨[.ref j],[]⟩) (λfin s'=>∃v,fin=.done (.ret v)/\Q v s') E s:=by
 obtain ⟨⟨c0,d0,t0,aa⟩,B,L,O⟩:=id D;subst L O;have T:=D.typeIs
 wp_walk using wpAny_fieldsOf B rfl,wpAny_dictEntries Y Z,wpAny_dictEpoch Y Z,Yen T,wpAny_isOneOf_keyiter T
 rw [if_neg (by lia),Int.toNat_natCast,hi]
 wp_walk using Yen T,wpAny_isOneOf_keyiter T,wpAny_setField B rfl
 case hi=>exact (by decide:(0:Nat)+1<4)
 case h=>
  have U:(s.heap.update j (Obj.mapFields (·.setIfInBounds 1 (rawInt ((i:Int)+1))))).IsKeyIter j d (i+1) es.size ep:=by
   exact ⟨_,Heap.get?_update_self _ B rfl,rfl,rfl⟩
  have B1:Heap.SameBut j s.heap (s.heap.update j (Obj.mapFields (·.setIfInBounds 1 (rawInt ((i:Int)+1))))):=Heap.SameBut.update ..;have T1:=U.typeIs (s:={ s with heap:=s.heap.update j (Obj.mapFields (·.setIfInBounds 1 (rawInt ((i:Int)+1)))) });show wpAny _ _ _ _ _ { s with heap:=s.heap.update j (Obj.mapFields (·.setIfInBounds 1 (rawInt ((i:Int)+1)))) };generalize s.heap.update j (Obj.mapFields (·.setIfInBounds 1 (rawInt ((i:Int)+1))))=h1 at U B1 T1 ⊢
  wp_walk using wpAny_isOneOf_keyiter T1
  exact ⟨_,rfl,q _ U B1⟩
theorem Zaq {j d:Addr}{i ep:Nat}{es:Array DictEntry}{o:Obj}{Q:EX}(hh:A.handled=none)(B:s.heap.IsKeyIter j d i es.size ep)(U:s.heap.get? d=some o)(Y:o.data=.dict es ep)(hi:es[i]?=none)(q:∀h' e,(∀c o,c≠j->s.heap.get? c=some o->h'.get? c=some o)->(∃o,h'.get? e=some o/\o.cls=.type "StopIteration")->E (.ref e) { s with heap:=h' }):wpAny (model prog w) A (Builtin.«dict_keyiterator.__next__» ⟨[.ref j],[]⟩) (λfin s'=>∃v,fin=.done (.ret v)/\Q v s') E s:=by
 obtain ⟨⟨c0,d0,t0,aa⟩,D,L,O⟩:=id B;subst L O;have T:=B.typeIs
 wp_walk using wpAny_fieldsOf D rfl,wpAny_dictEntries U Y,wpAny_dictEpoch U Y,Yen T,wpAny_isOneOf_keyiter T
 rw [if_neg (by lia),Int.toNat_natCast,hi]
 wp_walk using Yen T,wpAny_setField D rfl
 case hi=>exact (by decide:(0:Nat)<4)
 case h=>
  have Z:Heap.SameBut j s.heap (s.heap.update j (Obj.mapFields (·.setIfInBounds 0 Value.none))):=Heap.SameBut.update ..;show wpAny _ _ _ _ _ { s with heap:=s.heap.update j (Obj.mapFields (·.setIfInBounds 0 Value.none)) };generalize s.heap.update j (Obj.mapFields (·.setIfInBounds 0 Value.none))=h1 at Z ⊢
  wp_walk using wpAny_raiseNew_none hh
  exact q _ _ (λc o n e=>Yao _ (Yao _ (by rw [Z.2 c n];exact e))) ⟨_,Ybl _ rfl,rfl⟩
theorem Zar {B d:Addr}{i ep:Nat}{es:Array DictEntry}{o:Obj}{e:DictEntry}{Q:Option Value->Shared->Prop}(j:s.heap.IsKeyIter B d i es.size ep)(D:s.heap.get? d=some o)(L:o.data=.dict es ep)(hi:es[i]?=some e)(q:∀h',h'.IsKeyIter B d (i+1) es.size ep->Heap.SameBut B s.heap h'->Q (some e.key) { s with heap:=h' }):wpAny (model prog w) A (pyNext (.ref B)) Q E s:=by
 refine Yaa (wpAny_attempt (wpAny_callSpecial?_slot j.typeIs Yeo (wpAny_call_entry Yeo j.typeIs F.entry_dict_keyiterator_next (Zap j D L hi λh' k b=>?_) (F.args_dict_keyiterator_next_1 _))))
 wp_walk
 exact q h' k b
theorem Zas {B d:Addr}{i ep:Nat}{es:Array DictEntry}{o:Obj}{Q:Option Value->Shared->Prop}(D:A.in1.handled=none)(j:s.heap.IsKeyIter B d i es.size ep)(L:s.heap.get? d=some o)(O:o.data=.dict es ep)(hi:es[i]?=none)(q:∀h',(∀c o,c≠B->s.heap.get? c=some o->h'.get? c=some o)->Q none { s with heap:=h' }):wpAny (model prog w) A (pyNext (.ref B)) Q E s:=by
 refine Yaa (wpAny_attempt (wpAny_callSpecial?_slot j.typeIs Yeo (wpAny_call_entry Yeo j.typeIs F.entry_dict_keyiterator_next (Zaq D j L O hi ?_) (F.args_dict_keyiterator_next_1 _))));rintro h' e k ⟨o',U,Y⟩;exact Yaa (wpAny_isInstance ⟨o',U,Y⟩ isSubtype_stop (Yaf (q h' k)))
theorem Zat {d:Addr}{ep:Nat}{es:Array DictEntry}{o:Obj}{Q:EX}(L:(d == sysModules)=false)(j:s.heap.get? d=some o)(D:o.ExactDict)(B:o.data=.dict es ep)(q:∀h',h'.IsKeyIter s.heap.objs.size d 0 es.size ep->(∀c o,s.heap.get? c=some o->h'.get? c=some o)->Q (.ref s.heap.objs.size) { s with heap:=h' }):wpAny (model prog w) A (pyIter (.ref d)) Q E s:=by
 have T:s.TypeIs (.ref d) "dict" := ⟨o,j,D.1⟩;refine wpAny_pyIter_slot T F.slot_dict_iter (wpAny_call_entry F.slot_dict_iter T F.entry_dict_iter ?_ (F.args_dict_iter_1 _))
 wp_walk using wpAny_notOrdered_dict T,wpAny_dictEntries j B,wpAny_dictEpoch j B
 exact ⟨_,rfl, "dict_keyiterator", _,⟨_,Ybl _ rfl,rfl⟩,F.slot_dict_keyiterator_next.lookup,q _ ⟨_,Ybl _ rfl,rfl,rfl⟩ λc o e=>Yao _ e⟩
end
section
variable {X:Cx}
theorem J1 {α β:Type}{F:α->β->Prop}{l:List α}{m:List β}(h:Paired F l m):∀{i:Nat}{x:α},l[i]?=some x->∃y,m[i]?=some y/\F x y:=by
 induction h with
 | nil=>intro i x e;simp at e
 | @cons p q _ _ r _ ih=>
  intro i x e;cases i with
  | zero=>simp at e;subst e;exact ⟨q,by simp,r⟩
  | succ i=>simp at e;obtain ⟨y,h1,h2⟩:=ih e;exact ⟨y,by simpa using h1,h2⟩
end
structure GK (P:Program)(w:World)(κ:Type)[DecidableEq κ] where
 knd:HeapKind P w κ
 At:Hp->Addr->κ->Prop
 ok:∀{H:Hp}{h:Heap}{b:Addr}{k:κ},HOk P w H h->At H b k->knd.is h k b
 keep:∀{H H':Hp}{b:Addr}{k:κ},At H b k->(∀p ys,H p=some (.tup ys)->H' p=some (.tup ys))->At H' b k
 room:∀{A:Around},A.units+71<cLine->knd.room A.in1
noncomputable abbrev GKv (κ:Type):=List (κ×Addr×V)
section
variable {P:Program}{w:World}{κ:Type}[DecidableEq κ](G:GK P w κ)
noncomputable def GPr (p:κ×Addr×V)(q:κ×Addr×Value):Prop:=p.1=q.1/\p.2.1=q.2.1/\RelV p.2.2 q.2.2
noncomputable def gd (a:Addr)(kvs:GKv κ):HO:=.ext λh=>kvs.length<=sizeLine/\(a == sysModules)=false/\∃xs:List (κ×Addr×Value),Paired GPr kvs xs/\∃o es ep,h.get? a=some o/\o.ExactDict/\o.data=.dict es ep/\es.toList=xs.map (entryOfKey G.knd)/\(xs.map (·.1)).Nodup
noncomputable def GKeys (H:Hp)(kvs:GKv κ):Prop:=∀p∈kvs,G.At H p.2.1 p.1
noncomputable def O1 (kvs:GKv κ)(k:κ):Option V:=(kvs.find? λp=>decide (p.1=k)).map (·.2.2)
end
section
variable {P:Program}{w:World}{κ:Type}[DecidableEq κ]{G:GK P w κ}{H H':Hp}{h:Heap}{a:Addr}{kvs:GKv κ}
theorem GKeys.keep (x:GKeys G H kvs)(t:∀p ys,H p=some (.tup ys)->H' p=some (.tup ys)):GKeys G H' kvs:=λp j=>G.keep (x p j) t
theorem Zau (ok:HOk P w H h)(e:Rd H a (gd G a kvs))(K:GKeys G H kvs):kvs.length<=sizeLine/\(a == sysModules)=false/\∃xs,Paired GPr kvs xs/\h.DictOfH G.knd a xs:=by
 obtain ⟨⟨z,y,xs,r,o,es,ep,h1,h2,B,D,L⟩,_,_⟩:=(show ObjOk P w H h a (gd G a kvs) from e.ok ok);refine ⟨z,y,xs,r,o,es,ep,h1,h2,B,D,λx j=>?_,L⟩;have all:∀{l:GKv κ}{m:List (κ×Addr×Value)},Paired GPr l m->GKeys G H l->∀x∈m,G.knd.is h x.1 x.2.1:=by
  intro l m q
  induction q with
  | nil=>intro _ x j;cases j
  | @cons p q ps qs hq t ih=>
   intro K x j;rcases Yaz.mp j with rfl | j
   ·rw [<-hq.1,<-hq.2.1];exact G.ok ok (K p (Yaw ..))
   ·exact ih (λy O=>K y (Ybc _ O)) x j
 exact all r K x j
theorem Yr {xs:List (κ×Addr×Value)}(r:Paired GPr kvs xs)(k:κ):RelO (O1 kvs k) ((atKey xs k).map (·.2)):=by
 induction r with
 | nil=>exact True.intro
 | @cons p q ps j h t O=>
  obtain ⟨h1,_,h2⟩:=h;by_cases e:p.1=k
  ·have B:q.1=k:=h1.symm.trans e;have D:O1 (p::ps) k=some p.2.2:=by simp [O1,Ycf,e]
   have L:atKey (q::j) k=some q.2:=by simp [atKey,Ycf,B]
   rw [D,L];exact h2
  ·have B:¬ q.1=k:=λz=>e (h1.trans z);have D:O1 (p::ps) k=O1 ps k:=by simp [O1,Ycf,e]
   have L:atKey (q::j) k=atKey j k:=by simp [atKey,Ycf,B]
   rw [D,L];exact O
theorem ZcO {xs:List (κ×Addr×Value)}(z:kvs.length<=sizeLine)(y:(a == sysModules)=false)(r:Paired GPr kvs xs)(dd:h.DictOfH G.knd a xs):ObjOk P w H' h a (gd G a kvs):=by
 obtain ⟨o,es,ep,h1,h2,D,L,_,O⟩:=dd;refine ⟨⟨z,y,xs,r,o,es,ep,h1,h2,D,L,O⟩,⟨o,h1⟩,λg1 g2 x k=>?_⟩;obtain ⟨U,Y,xs',r',o',j,B,Z,e2⟩:=x;exact ⟨U,Y,xs',r',o',j,B,k _ Z,e2⟩
theorem Zb3 (h:Heap)(j:sysModules<h.objs.size):ObjOk P w H (h.push { cls:=.type "dict", data:=.dict #[] }) h.objs.size (gd G h.objs.size ([]:GKv κ)):=by
 have e:(h.push { cls:=.type "dict", data:=.dict #[] }).get? h.objs.size=some { cls:=.type "dict", data:=.dict #[] }:=Ybl _ rfl;refine ZcO (Yan _) (Yda.mpr (Nat.ne_of_gt j)) .nil ⟨_,#[],_,e,⟨rfl,rfl,rfl⟩,rfl,rfl,λx B=>(by cases B),Ycv⟩
end
noncomputable def Y8 {P:Program}{w:World}{κ:Type}[DecidableEq κ](G:GK P w κ)(H:Hp)(a:Addr)(y:V)(o:Option V):Prop:=∃kvs k b,Rd H a (gd G a kvs)/\GKeys G H kvs/\y=.ref b/\G.At H b k/\o=O1 kvs k
section
variable {X:Cx}{κ:Type}[DecidableEq κ]{G:GK X.prog X.w κ}{qQ:List (Addr×Obj)}{σ:St}{H:Hp}{s:Shared}{a:Addr}{y v d:V}{u r:Value}{o:Option V}{A:Around}{E:EX}
theorem ZdC {Q:EX}(B:A.units+71<cLine)(I:Inv X qQ σ H s)(g:Y8 G H a y o)(D:RelV y u)(h:∀s',Inv X qQ σ H s'->Q (.bool (!o.isSome)) s') :
  wpAny (model X.prog X.w) A (compareOp .NotIn u (.ref a)) Q E s:=by
 obtain ⟨kvs,k,b,e,K,rfl,L,rfl⟩:=g;cases (show u=Value.ref b from D);obtain ⟨z,O,xs,j,U⟩:=Zau I.hok e K;refine wpAny_notIn_heap (G.room B) (G.ok I.hok L) O U ?_;have q:=(Yr j k).isSome_eq;rw [Option.isSome_map] at q;rw [<-q];exact h _ (I.tok _)
theorem Zav {Q:EX}(L:A.units+71<cLine)(I:Inv X qQ σ H s)(g:Y8 G H a y (some v))(O:RelV y u)(h:∀j s',Inv X qQ σ H s'->RelV v j->Q j s') :
  wpAny (model X.prog X.w) A (getItem (.ref a) u) Q E s:=by
 obtain ⟨kvs,k,b,e,K,rfl,U,Y⟩:=g;cases (show u=Value.ref b from O);obtain ⟨z,hd,xs,B,Z⟩:=Zau I.hok e K;obtain ⟨j,hw,D⟩:=RelO.some_of (v:=v) (o:=(atKey xs k).map (·.2)) (by rw [Y];exact Yr B k);obtain ⟨p,hp,rfl⟩:=Ybn.mp hw;exact wpAny_getItem_heap (G.room L) (G.ok I.hok U) Z hp (h _ _ (I.tok _) D)
theorem Zaw {kvs:GKv κ}{k:κ}{b:Addr}{Q:Unit->Shared->Prop}(L:A.units+71<cLine)(I:Inv X qQ σ H s)(e:H a=some (gd G a kvs))(K:GKeys G H kvs)(O:G.At H b k)(U:O1 kvs k=none)(hl:kvs.length<sizeLine)(Y:RelV v r)(h:∀s',Inv X qQ σ (upd H a (gd G a (kvs++[(k,b,v)]))) s'->Q () s'):wpAny (model X.prog X.w) A (setItem (.ref a) (.ref b) r) Q E s:=by
 obtain ⟨z,Z,xs,j,dd⟩:=Zau I.hok (.inl e) K;have hz:xs.length<=sizeLine:=by rw [<-Ydi j];exact z
 have D:atKey xs k=none:=Ydg.mp (RelO.none_of (by rw [<-U];exact Yr j k));refine wpAny_setItem_heap (hsz:=hz) (G.room L) (G.ok I.hok O) dd λh' B hs=>h _ ?_;rw [storedH_new D] at B;have he:∃q,h'.get? a=some q:=let ⟨q,_,_,hq,_⟩:=B;⟨q,hq⟩;exact O5 I (by rw [e];exact True.intro) hs he (ZcO (by rw [Yag,Yat];lia) Z (Paired.snoc j ⟨rfl,rfl,Y⟩) B)
theorem Inv.freezeG {kvs:GKv κ}(I:Inv X qQ σ H s)(e:H a=some (gd G a kvs)):∃o,Inv X qQ σ (upd H a (.frz o (gd G a kvs))) s:=by
 have B:ObjOk X.prog X.w H s.heap a (gd G a kvs):=I.hok a _ e;obtain ⟨⟨_,_,_,_,o,_,_,h1,_⟩,_⟩:=id B;have j:ObjOk X.prog X.w (upd H a (.frz o (gd G a kvs))) s.heap a (gd G a kvs):=B;exact ⟨o,I.write (x:=a) (e:=a) (o:=.frz o (gd G a kvs)) (h':=s.heap) (t':=s.toks) (by rw [e];exact True.intro) (.inl rfl) (λb u _ q=>q) ⟨_,h1⟩ ⟨h1,j⟩⟩
end
section
variable {X:Cx}{κ:Type}[DecidableEq κ]{G:GK X.prog X.w κ}{qQ:List (Addr×Obj)}{σ:St}{H:Hp}{s:Shared}{a:Addr}
theorem Zax {y:V}{o:Option V}(I:Inv X qQ σ H s)(g:Y8 G H a y o):s.TypeIs (.ref a) "dict" /\ ∀b,Value.ref a=.ref b->∃j,s.heap.get? b=some j/\j.dict=none:=by
 obtain ⟨kvs,k,b,e,K,_,_,_⟩:=g;obtain ⟨_,_,xs,_,B⟩:=Zau I.hok e K;refine ⟨B.typeIs,λb q=>?_⟩;cases q;obtain ⟨j,_,_,h1,h2,_⟩:=B;exact ⟨j,h1,h2.2.1⟩
end
section
variable {P:Program}{w:World}{κ:Type}[DecidableEq κ](G:GK P w κ)
noncomputable def Zhi:TE:=λ_ H Q=>∀p,H p=none->Q (.ref p) (upd H p (gd G p ([]:GKv κ)))
noncomputable def ZdD (ty td:TE):TE:=λσ H Q=>ty σ H λy H1=>td σ H1 λx H2=>∃a o,x=.ref a/\Y8 G H2 a y o/\Q (.bl (!o.isSome)) H2
noncomputable def ZhR (td ty:TE):TE:=λσ H Q=>td σ H λx H1=>ty σ H1 λy H2=>∃a v,x=.ref a/\Y8 G H2 a y (some v)/\Q v H2
noncomputable def Zhj (td ty tv:TE):TS:=λD σ H=>tv σ H λv H1=>td σ H1 λx H2=>ty σ H2 λy j=>∃a b kvs k,x=.ref a/\y=.ref b/\j a=some (gd G a kvs)/\GKeys G j kvs/\G.At j b k/\O1 kvs k=none/\kvs.length<sizeLine/\D.nx σ (upd j a (gd G a (kvs++[(k,b,v)])))
end
section
variable {X:Cx}{κ:Type}[DecidableEq κ]{G:GK X.prog X.w κ}{o i e f value:Expr}{pos pos' apos qK:Pos}{td ty tv tx:TE}
theorem Zay:PE X (.Dict [] [] pos) (Zhi G):=λqQ s σ H Q I h=>
 wpAny_Dict_empty ⟨.ref s.heap.objs.size,_,I.laid (a:=s.heap.objs.size) (o:=gd G s.heap.objs.size ([]:GKv κ)) (t':=s.toks) (λ_ _ q=>Yao _ q) (Yad _) (Zb3 s.heap I.big),rfl,h _ (I.hok.fresh (Yad _))⟩
theorem Zaz (j:X.A.units+71<cLine)(hi:PE X i ty)(B:PE X o td):PC X .NotIn i o (ZdD G ty td):=by
 intro qQ s σ H Q I h;refine thG (hi qQ s σ H _ I h) λiv D y H1 L O U=>thG (B qQ D σ H1 _ L U) λu s2 x H2 Y Z ⟨a,ov,ex,g,q2⟩=>?_;subst ex;obtain rfl:u=Value.ref a:=Z;exact ZdC j Y g O λs3 I3=>⟨.bl (!ov.isSome),H2,I3,rfl,q2⟩
theorem OX (D:X.A.units+71<cLine)(L:PE X o td)(hi:PE X i ty)(O:Zgq i):PE X (.Subscript o i pos) (ZhR G td ty):=by
 intro qQ s σ H Q I h;refine ZY PySem.F.slot_dict_getitem.lookup O (thG (L qQ s σ H _ I h) λu U x H1 Y Z q1=>thG (hi qQ U σ H1 _ Y q1) λiv s2 y H2 B ry ⟨a,v,ex,g,q2⟩=>?_);subst ex;obtain rfl:u=Value.ref a:=Z;exact ⟨(Zax B g).1,Zav D B g ry λw' s3 I3 j=>⟨v,H2,I3,j,q2⟩⟩
theorem XG (j:X.A.units+71<cLine)(B:PE X o td)(hi:PE X i ty)(L:PE X value tv)(O:swapsWith value (some (.Subscript o i pos')) pos.line X.env=pure false) :
  PS X (.Assign [.Subscript o i pos'] value pos) (Zhj G td ty tv):=by
 intro qQ s σ H D I h;refine wpAny_Assign_Subscript (thG (L qQ s σ H _ I h) λr U v H1 Y Z q1=>thG (B qQ U σ H1 _ Y q1) λu s2 x H2 I2 rx q2=>thG (hi qQ s2 σ H2 _ I2 q2) λiv s3 y H3 I3 ry ⟨a,b,kvs,k,ex,ey,ea,K,kb,hn,hl,q3⟩=>?_) O;subst ex ey;obtain rfl:u=Value.ref a:=rx;obtain rfl:iv=Value.ref b:=ry;exact Zaw j I3 ea K kb hn hl Z λs4 I4=>⟨σ,_,I4,q3⟩
end
section
variable {X:Cx}{κ:Type}[DecidableEq κ]
noncomputable def ItG {P:Program}{w:World}(G:GK P w κ)(a:Addr)(o:Obj)(kvs:GKv κ):It:=
 ⟨λi H=>H a=some (.frz o (gd G a kvs))/\i<kvs.length,λi H x H'=>H'=H/\∃k b v,kvs[i]?=some (k,b,v)/\x=.ref b,λi H=>H a=some (.frz o (gd G a kvs))/\kvs.length<=i⟩
theorem V0 {G:GK X.prog X.w κ}{qQ:List (Addr×Obj)}{σ:St}{H:Hp}{s:Shared}{a:Addr}{o:Obj}{kvs:GKv κ}(I:Inv X qQ σ H s)(e:H a=some (.frz o (gd G a kvs))) :
  (a == sysModules)=false/\s.heap.get? a=some o/\o.ExactDict/\∃es ep,o.data=.dict es ep/\es.size=kvs.length/\∀(i:Nat) k b v,kvs[i]?=some (k,b,v)->∃j:DictEntry,es[i]?=some j/\j.key=.ref b:=by
 obtain ⟨h1,⟨z,D,xs,r,o',es,ep,h2,L,O,B,h6⟩,_⟩:=(show ObjOk X.prog X.w H s.heap a (.frz o (gd G a kvs)) from I.hok a _ e);rw [h1] at h2;cases h2;refine ⟨D,h1,L,es,ep,O,?_,λi k b v hi=>?_⟩
 ·rw [<-Ybd,B,Yab,Ydi r]
 ·obtain ⟨⟨U,Y,u⟩,Z,e1,e2,_⟩:=J1 r hi;refine ⟨entryOfKey G.knd (U,Y,u),?_,?_⟩
  ·rw [<-Ybx,B,Yba,Z]
   rfl
  ·exact Ybi Value.ref e2.symm
theorem Y9 {P:Program}{w:World}{G:GK P w κ}{K:W.Frag}{tg:Expr}(a it:Addr)(o:Obj)(kvs:GKv κ)(es:Array DictEntry)(ep:Nat)(ho:o.data=.dict es ep)(hsz:es.size=kvs.length) :
  Zd8 P w K tg (ItG G a o kvs) [it] it (λi h=>h.IsKeyIter it a i es.size ep) where
 mem:=by simp
 obj:=λi h st b hb=>by
  have e:b=it:=by simpa using hb
  subst e;obtain ⟨o,e,c,d⟩:=st;exact ⟨o,e,λv z=>by rw [d] at z;cases z⟩
 keep:=λi h h' st k=>by
  obtain ⟨o,e,c,d⟩:=st;exact ⟨o,k it (by simp) o e,c,d⟩
 item:=by
  intro X hP hw hK hc i qQ s σ H E I hf st hg;subst hP hw hK;obtain ⟨hq,hi⟩:=hg;obtain ⟨hd,h1,h2,es',ep',h3,h4,h5⟩:=V0 I hq;rw [ho] at h3;cases h3;obtain ⟨⟨k,b,v⟩,hx⟩:∃x,kvs[i]?=some x:=⟨_,Yap hi⟩;obtain ⟨de,hde,hkey⟩:=h5 i k b v hx;obtain ⟨f0,f1,f2,f3,f4,f5⟩:=hf it (by simp);refine Zar st h1 ho hde λh' st' sb=>?_;have I1:Inv X qQ σ H { s with heap:=h' }:=I.turned (t':=s.toks) (λb o hb e=>(sb.2 b hb).trans e) f0 f1 f3 f4 f5;obtain ⟨o',e,c,d⟩:=id st';exact ⟨de.key,rfl,ZcZ (s:={ s with heap:=h' }) e c d (by decide) ⟨.ref b,H,I1,hkey,⟨rfl,k,b,v,hx,rfl⟩,st',λb hb=>(hf b hb).1⟩⟩
 done:=by
  intro X hP hw hK hc i qQ s σ H E I hf st hg;subst hP hw hK;obtain ⟨hq,hi⟩:=hg;obtain ⟨hd,h1,h2,es',ep',h3,h4,h5⟩:=V0 I hq;rw [ho] at h3;cases h3;obtain ⟨f0,f1,f2,f3,f4,f5⟩:=hf it (by simp);exact Zas (I.ok.hd hc) st h1 ho (Array.getElem?_eq_none (by lia)) λh' eb=>⟨rfl,I.turned (t':=s.toks) (λb o hb e=>eb b o hb e) f0 f1 f3 f4 f5⟩
 self:=λ_ _ _ _ _ st h=>wpAny_pyIter_keyiter st h
noncomputable def ZeX {P:Program}{w:World}(G:GK P w κ)(tl:TE):TI:=λσ H R=>tl σ H λx H1=>∃a kvs,x=.ref a/\((H1 a=some (gd G a kvs)/\∀o,R (ItG G a o kvs) (upd H1 a (.frz o (gd G a kvs))))\/∃o,H1 a=some (.frz o (gd G a kvs))/\R (ItG G a o kvs) H1)
theorem Ys {G:GK X.prog X.w κ}{tg l:Expr}{tl:TE}(O:PE X l tl):PI X tg l (ZeX G tl):=by
 intro qQ s σ H R I h;refine thG (O qQ s σ H _ I h) λv B x H1 D U Y=>?_;obtain ⟨a,kvs,e,q⟩:=Y;subst e;cases U;obtain ⟨o,H2,j,Z,q2⟩:∃o H2,Inv X qQ σ H2 B/\H2 a=some (.frz o (gd G a kvs))/\R (ItG G a o kvs) H2:=by
  rcases q with ⟨e,q⟩ | ⟨o,e,q⟩
  ·obtain ⟨o,j⟩:=D.freezeG e;exact ⟨o,_,j,Gb,q o⟩
  ·exact ⟨o,H1,D,e,q⟩
 obtain ⟨hd,h1,h2,es,ep,L,h4,h5⟩:=V0 j Z;refine Zat hd h1 h2 L λh' st kp=>?_;refine ⟨B.heap.objs.size,[B.heap.objs.size],_,_,H2,rfl,j.kept (t':=B.toks) kp,Y9 a _ o kvs es ep L h4,st,λb hb=>?_,q2⟩;have e:b=B.heap.objs.size:=by simpa using hb
 subst e;exact j.fpOk (Yad _) (j.hok.fresh (Yad _))
theorem ZaA {P:Program}{w:World}{G:GK P w κ}{a:Addr}{o:Obj}{kvs:GKv κ}{g:TG}{tb:TS}{D:Zi}{σ:St}{H:Hp}(j:Nat->St->Hp->Prop)(h0:j 0 σ H)(B:∀i σ H,i<=kvs.length->j i σ H->H a=some (.frz o (gd G a kvs)))(L:∀i k b v σ H,kvs[i]?=some (k,b,v)->j i σ H->g (.ref b) σ H λO H2=>tb { D with nx:=j (i+1),ct:=j (i+1),bk:=D.nx } O H2)(U:∀ σ H,j kvs.length σ H->D.nx σ H) :
  Zs (ItG G a o kvs) g tb D σ H:=Vt j h0 (λi s H hi p=>⟨λz=>⟨B i s H hi p,z⟩,λe=>⟨B i s H hi p,Nat.le_of_eq e.symm⟩⟩) (λi s H x H' z p y=>by obtain ⟨rfl,k,b,v,Y,rfl⟩:=y;exact L i k b v s _ Y p) U
theorem Za {P:Program}{w:World}{G:GK P w κ}{a D:Addr}{o:Obj}{kvs:GKv κ}{g:TG}{tc:TT}{te:TE}{B:St}{R:Hp->Prop}{H1:Hp}(j:Nat->List V->Hp->Prop)(h0:j 0 [] (upd H1 D (.lst [])))(O:∀i ys H,i<=kvs.length->j i ys H->H a=some (.frz o (gd G a kvs)))(Z:∀i k b v ys H,kvs[i]?=some (k,b,v)->j i ys H->g (.ref b) B H λL H4=>Uh B L/\tc L H4 λc U=>if c=true then te L U λy Y=>Y D=some (.lst ys)/\ys.length<sizeLine/\j (i+1) (ys++[y]) (upd Y D (.lst (ys++[y]))) else j (i+1) ys U)(hd:∀ys H,j kvs.length ys H->R H):X7 (ItG G a o kvs) D g tc te B R H1:=VB j h0 (λi s H hi p=>⟨λz=>⟨O i s H hi p,z⟩,λe=>⟨O i s H hi p,Nat.le_of_eq e.symm⟩⟩) (λi s H x H' z p y=>by obtain ⟨rfl,k,b,v,ek,rfl⟩:=y;exact Z i k b v s _ ek p) hd
end
section
variable {prog:Program}{w:World}{A:Around}{E:EX}{s:Shared}
theorem U5 {r q:Addr}{vs:List Value}{kz:List Int}{J:Shared->Prop}{Q:EX}(hv:s.heap.IsList r vs.toArray)(hz:vs.length<=sizeLine)(hl:kz.length=vs.length)(hJ:∀h' tk,(∀c o,s.heap.get? c=some o->h'.get? c=some o)->J { s with heap:=h',toks:=tk })(put:∀(B:Shared)(c:Addr)(f:Obj->Obj),s.heap.objs.size<=c->J B->J { B with heap:=B.heap.update c f })(O:∀(i:Nat)(v:Value)(k:Int)(B:Shared)(R:EX)(E':EX),vs[i]?=some v->kz[i]?=some k->J B ->
   (∀t D,J D->B.heap.objs.size<=D.heap.objs.size->(∀c o,s.heap.objs.size<=c->B.heap.get? c=some o->D.heap.get? c=some o)->R (.int k t) D)->wpAny (model prog w) A.in1.in1 (call (.ref q) [v]) R E' B)(fin:∀(D:Shared)(l:Addr)(out:Array Value)(c:Nat),J D->s.heap.objs.size<=l->D.heap.get? l=some (seqObj "list" out c)->Zhe kz vs out.toList->Q (.ref l) D) :
  wpAny (model prog w) A (call (.builtin "sorted") [.ref r] [(Str.ofString "key", .ref q),(Str.ofString "reverse", .bool true)]) Q E s:=by
 have aa:=Ybe;refine call_function_entry_kw kind_sorted plain_sorted entry_sorted (ksk_s2 _ _ _) ?_;unfold Builtin.sorted;refine Yaa (Yaf ?_);refine Yaa (collect_list hv ?_ hz);generalize hh1:(s.heap.push (seqObj "list" #[] 0)).update s.heap.objs.size (Obj.mapSeq λx=>x++vs.toArray)=h1;have sz:s.heap.objs.size<=h1.objs.size:=by rw [<-hh1,Heap.size_update,Ycu];exact Ydd _
 have k1:∀c o,s.heap.get? c=some o->h1.get? c=some o:=λc o e=>by
  rw [<-hh1];exact JZ (Yay (Yal e)) (Yao _ e)
 refine Yaa (wpAny_newList ?_ hz);have k2:∀c o,s.heap.get? c=some o->(h1.push { cls:=Value.type "list", data:=Data.seq vs.toArray }).get? c=some o:=λc o e=>Yao _ (k1 c o e);have U:(h1.push { cls:=Value.type "list", data:=Data.seq vs.toArray }).get? h1.objs.size=some (seqObj "list" vs.toArray 0):=Ybl _ rfl;have zz:(h1.push { cls:=Value.type "list", data:=Data.seq vs.toArray }).objs.size=h1.objs.size+1:=Ycu ..;show wpAny _ _ _ _ _ { s with heap:=h1.push { cls:=Value.type "list", data:=Data.seq vs.toArray } };have L:∀h':Heap,(∀c o,s.heap.get? c=some o->h'.get? c=some o)->J { s with heap:=h' }:=λh' k=>hJ h' s.toks k;generalize h1.push { cls:=Value.type "list", data:=Data.seq vs.toArray }=h2 at k2 U zz ⊢;refine Yaa (Ydc (wpAny_call_entry_kw (s:={ s with heap:=h2 }) slot_list_sort ⟨_,U,rfl⟩ entry_list_sort ?_ (ksk_l2 _ _ _)));refine VW (s:={ s with heap:=h2 }) (J:=λB=>J B) U hz hl ⟨λB c f Y j=>put B c f (by rcases Y with rfl | rfl;exact sz;show _<=h2.objs.size+1;lia) j⟩ ?_ ?_ ?_
 ·refine L _ λc o e=>Yao _ (Yao _ ((Ydx _ _ ?_).trans (k2 c o e)));exact Nat.ne_of_gt (Yax (Yal e) sz)
 ·intro i v k B R E' Z hk j _ hR;exact O i v k B R E' Z hk j λt D j2 l2 kp=>hR t D j2 l2 λc o Y e=>kp c o (by rcases Y with rfl | rfl;exact sz;show _<=h2.objs.size+1;lia) e
 ·intro D out c j e F;exact ⟨.none,rfl,Yaf ⟨_,rfl,fin D _ out c j sz e F⟩⟩
end
section
variable {X:Cx}
theorem Yt:∀{bs:List Addr}{us:List Value}{i:Nat}{v:Value},Vals (bs.map V.ref) us->us[i]?=some v->∃b,bs[i]?=some b/\v=.ref b
 | [],_,i,v,h,e=>by cases h;simp at e
 | b::bs,_,0,v,h,e=>by
  cases h with
  | cons r t=>cases r;simp at e;exact ⟨b,rfl,e.symm⟩
 | b::bs,_,i+1,v,h,e=>by
  cases h with
  | cons r t=>obtain ⟨c,h1,h2⟩:=Yt (i:=i) t (by simpa using e);exact ⟨c,by simpa using h1,h2⟩
theorem ZaB:∀{bs:List Addr}{us:List Value},Vals (bs.map V.ref) us->us=bs.map Value.ref
 | [],_,h=>by cases h;rfl
 | b::bs,_,h=>by
  cases h with
  | cons r t=>cases r;rw [ZaB t];rfl
theorem Uj:∀bs:List Addr,Vals (bs.map V.ref) (bs.map Value.ref)
 | []=>.nil
 | b::bs=>.cons rfl (Uj bs)
theorem Zb {κ:Type}[DecidableEq κ]{G:GK X.prog X.w κ}{qQ:List (Addr×Obj)}{σ:St}{H:Hp}{s:Shared}{a:Addr}{y v:V}{u:Value}{A:Around}{E:EX}{Q:EX}(L:A.units+71<cLine)(I:Inv X qQ σ H s)(g:Y8 G H a y (some v))(O:RelV y u)(h:∀j tk,RelV v j->Q j { s with toks:=tk }) :
  wpAny (model X.prog X.w) A (getItem (.ref a) u) Q E s:=by
 obtain ⟨kvs,k,b,e,K,rfl,U,Y⟩:=g;cases (show u=Value.ref b from O);obtain ⟨z,hd,xs,B,Z⟩:=Zau I.hok e K;obtain ⟨j,hw,D⟩:=RelO.some_of (v:=v) (o:=(atKey xs k).map (·.2)) (by rw [Y];exact Yr B k);obtain ⟨p,hp,rfl⟩:=Ybn.mp hw;exact wpAny_getItem_heap (G.room L) (G.ok I.hok U) Z hp (h _ _ D)
noncomputable def ZeY {P:Program}{w:World}{κ:Type}[DecidableEq κ](G:GK P w κ)(K:W.Frag)(j:Nat)(qual:Str)(params:Arguments)(body:Expr)(scope:Scope)(clos:List (Str×Addr))(pm:Value):St->List V->List V->Hp->VK->Prop:=λσ xs zs H Q=>
 ∃(r f c nd:Addr)(oc:Obj)(ctv:Value)(ts:List (Addr×Int)),xs=[.ref r]/\zs=[.ref f,.bl true]/\SqL K H r (ts.map λt=>V.ref t.1) /\
  H f=some (.frz (W.kla_obj "<lambda>" qual params body scope clos pm c ctv) (.own f))/\H c=some (.frz oc (.own c))/\Y3 qual oc/\σ[j]?=some (some (.ref nd)) /\
  (∀t∈ts,∃(b:Addr)(ys:List V),Y8 G H nd (.ref t.1) (some (.ref b))/\SqT K H b (V.int t.2::ys)) /\
  ∀(l:Addr)(ps:List (Addr×Int)),H l=none->ps.Perm ts->ps.Pairwise (λp q=>q.2<=p.2)->Q (.ref l) (upd H l (.lst (ps.map λt=>V.ref t.1)))
theorem Zc {κ:Type}[DecidableEq κ]{G:GK X.prog X.w κ}{K:W.Frag}{j:Nat}{x y:Str}{qual:Str}{params:Arguments}{scope:Scope}{pm:Value}{cc:Addr}{p1 p2 p5 p6 p7:Pos}{d2:Nat}(hK:X.K=K)(qG:X.A.in1.in1.depth<recursionLimit)(hu:X.A.units+80<cLine)(hN:X.N[j]?=some y)(hv:Vis X.env.scope y)(aj:X.env.kindOf y=some .cell)(ak:X.env.cells.lookup y=some cc)(am:scope.isCoroutine=false)(Z:scope.isGenerator=false)(hk:scope.kind=.function)(U:∀(c:Addr)(ctv arg:Value),bindArgs (W.kla_fn "<lambda>" qual params (.Subscript (.Subscript (.Name y p1) (.Name x p2) p5) (.Constant (.int 0) d2 p6) p7) scope [(y,cc)] pm (.ref c) ctv) ⟨[arg],[]⟩=pure [(x,arg)])(aa:scope.names.lookup x=some .local)(an:scope.names.lookup y=some .free)(jJ:∀z∈scope.names,z.2≠.cell)(ao:(x == ("__debug__" : Str))=false)(ap:(y == ("__debug__" : Str))=false)(aq:(y == ("__classdict__" : Str))=false)(qQ:List (Addr×Obj))(s:Shared)(σ:St)(H:Hp)(xs:List V)(us:List Value)(zs:List V)(ws:List Value)(Q:VK)(I:Inv X qQ σ H s)(rx:Vals xs us)(rz:Vals zs ws)(h:ZeY G K j qual params (.Subscript (.Subscript (.Name y p1) (.Name x p2) p5) (.Constant (.int 0) d2 p6) p7) scope [(y,cc)] pm σ xs zs H Q) :
  wpAny (model X.prog X.w) X.A (call (.builtin "sorted") us (([Str.ofString "key", Str.ofString "reverse"]:List Str).zip ws)) (EP X qQ σ Q) X.xe s:=by
 subst hK;obtain ⟨r,f,c,nd,oc,ctv,ts,rfl,rfl,er,ef,ec,⟨ar,tq,as,au⟩,eσ,ht,q⟩:=h;obtain ⟨u,rfl,ru⟩:=rx.one;cases ru;obtain ⟨u1,u2,rfl,av,aw⟩:=rz.two;cases av;cases aw;obtain ⟨its,rv,pl,hz⟩:=I.list er;have qV:=rv.length;rw [Yab] at qV hz;have a5:=Ybe.symm;have ab:Vals ((ts.map Prod.fst).map V.ref) its:=by rw [Ydh];exact rv
 have B:∀(h1:Heap)(tk:Nat),(∀b o,s.heap.get? b=some o->h1.get? b=some o)->Inv X qQ σ H { s with heap:=h1,toks:=tk }:=λh1 tk k=>I.kept (t':=tk) k;show wpAny (model X.prog X.w) X.A (call (.builtin "sorted") [.ref r] [(Str.ofString "key", .ref f),(Str.ofString "reverse", .bool true)]) (EP X qQ σ Q) X.xe s;refine U5 (kz:=ts.map (·.2)) (vs:=its) (J:=λs1=>∃h1 tk,s1={ s with heap:=h1,toks:=tk }/\∀b o,s.heap.get? b=some o->h1.get? b=some o) pl.isList (by lia) (by rw [Yab];exact qV)
  (λh1 tk k=>⟨h1,tk,rfl,k⟩) ?_ ?_ ?_
 ·rintro s1 d g hd ⟨h1,tk,rfl,k⟩;exact ⟨_,tk,rfl,λb o e=>(Ydx _ _ (Nat.ne_of_gt (Yax (Yal e) hd))).trans (k b o e)⟩
 ·rintro i v k s1 R E' ax ac ⟨h1,tk,rfl,Y⟩ hR;have I1:=B h1 tk Y;obtain ⟨D,ad,rfl⟩:∃D,ts[i]?=some D/\D.2=k:=by
   rw [Yba] at ac;obtain ⟨D,h1,h2⟩:=Ybn.mp ac;exact ⟨D,h1,h2⟩
  obtain ⟨b0,ae,rfl⟩:=Yt ab ax;have ay:b0=D.1:=by
   rw [Yba,ad] at ae;exact (Ybo ae).symm
  subst ay;have of:h1.get? f=some (W.kla_obj "<lambda>" qual params (.Subscript (.Subscript (.Name y p1) (.Name x p2) p5) (.Constant (.int 0) d2 p6) p7) scope [(y,cc)] pm c ctv):=(I1.hok f _ ef).1;have az:h1.get? c=some oc:=(I1.hok c _ ec).1;refine ZbY (s:={ s with heap:=h1,toks:=tk }) (x:=x) qG of ⟨c,oc,ar,tq,rfl,az,as,au⟩ (I1.ok.mod.nolimit.keeps I1.bk) am Z hk (U _ _ _) aa jJ λh2 L k2 sz a1=>?_;have I2:Inv X qQ σ H { s with heap:=h2,toks:=tk+1 }:=B h2 (tk+1) λb o e=>k2 b o (Y b o e);obtain ⟨m,hm,lk⟩:=I2.loc;obtain ⟨u,ru,lu⟩:=lk j y _ hN eσ hv;cases ru;have a2:h2.IsCell cc (some (.ref nd)):=by
   rcases lu with ⟨z,_⟩ | ⟨_,c2,z1,z2⟩
   ·rw [aj] at z;cases z
   ·rw [ak] at z1;cases z1;exact z2
  obtain ⟨b,ys,gg,hb⟩:=ht D (Yau ad);refine Subscript_ (Subscript_ (wpAny_Name (wpAny_loadName_free hk an (by simp) a2 ?_ aq) ap));refine wpAny_Name (wpAny_loadName_local hk aa a1 (show (λz=>[(x,Value.ref D.1)].reverse.lookup z) x=some (.ref D.1) by simp) ?_) ao;refine tail_any (ops:=[.ref nd,.ref D.1]) (Zax I2 gg).1 PySem.F.slot_dict_getitem.lookup (Zb (s:={ s with heap:=h2,toks:=tk+1 }) (by show X.A.units+1+1+3+71<cLine;lia) I2 gg rfl λw' ag a3=>?_) rfl;obtain rfl:w'=Value.ref b:=a3;have I3:Inv X qQ σ H { s with heap:=h2,toks:=ag }:=B h2 ag λb o e=>k2 b o (Y b o e);obtain ⟨O,ah,ai,a4⟩:=I3.tuple hb;obtain ⟨uk,gk,rk⟩:=ah.get (show (V.int D.2::ys)[0]?=some (V.int D.2) from rfl);obtain ⟨tu,rfl⟩:=rk;have a6:0<O.length:=(Yaj.mp gk).1;have a7:O.length<=sizeLine:=by rw [<-ah.length];exact a4
  refine wpAny_Constant_int ?_;exact subscriptTail_builtinR (x:=.int D.2 tu) ai.typeIs slot_tuple_getitem.lookup (getItem_tuple (j:=0) (Q:=λr s'=>r=.int D.2 tu/\R r s') ai (by decide) (by decide) (by rw [Yar,seqIndex_of (by lia) (by lia)];rfl) (by simpa using gk) ⟨rfl,hR tu _ ⟨h2,_,rfl,λb o e=>k2 b o (Y b o e)⟩ sz λb o _ e=>k2 b o e⟩) rfl
 ·rintro s2 l out cn ⟨h1,tk,rfl,Y⟩ hl eL ⟨ps,pm,po,pw⟩;have ei:=ZaB ab;have ez:(ts.map (·.2)).zip its=ts.map λt=>(t.2,Value.ref t.1):=by
   rw [ei,Ydh,List.zip_map']
   rfl
  rw [ez] at pm;obtain ⟨qs,q1,rfl⟩:=UK pm;have eo:out.toList=(qs.map Prod.fst).map Value.ref:=by
   rw [po,Ydh,Ydh]
   rfl
  rw [Ycq] at pw;have a8:=q1.length_eq;refine ⟨.ref l,_,I.laid (a:=l) (o:=.lst (qs.map λt=>V.ref t.1)) (h':=h1) (t':=tk) Y hl ⟨by rw [Yab];lia,out.toList,cn,?_,by simpa [seqObj] using eL⟩,rfl,q l qs (I.hok.fresh hl) q1 pw⟩;rw [eo];have:=Uj (qs.map Prod.fst);rw [Ydh] at this;exact this
end
noncomputable def ZcP (j:List Addr)(H:Hp):Prop:=∀b,b ∉ j->H b=none\/∃o xs,H b=some (.frz o (.lst xs))
theorem Zd {Pr:Program}{w:World}{K:W.Frag}{mg mb:Str->Option Value}{CX:CXT}{k:Nat}{fa a:Addr}{cs:List (Addr×Addr)}{fd:FuncData}{x:Str}{sp:Sp}{j:Shared}{vs:List Value}{ns:List Int}(KX:K.In j.heap)(ag:j.heap.Ns mainGlobals mg)(D:j.heap.Ns builtinsNs mb)(as:∀x:Str,x ≠ "__name__" -> mb x=bootBuiltins x)(ah:j.heap.NoLimit)(hg:j.gens=#[])(C:∀t∈cs,W.CodeHd j.heap t.1 t.2)(hP:∀t∈cs,j.heap.get? t.2=some (W.tabObj #[]))(au:∀t∈cs,K.lookup t.2=none)(hB:∀t∈cs,j.heap.BuiltinsAt mg t.2)(ha:j.heap.get? a=some { cls:=.type "list", data:=.seq vs.toArray })(hi:IntsAre vs ns)(hl:ns.length<=sizeLine)(hr:Room k callerA)(F:∀base:Heap,K.In base->base.Ns mainGlobals mg->(∀t∈cs,W.CodeHd base t.1 t.2/\base.BuiltinsAt mg t.2)->FnOk Pr w K mg base CX k fa fd [x] sp)(ad:∀(s:Shared)(u:Value),BindsTo s fd ⟨[u],[]⟩ [(x,u)])(av:∀H:Hp,ZcP (cs.map (·.2)) H->(∀t∈cs,H t.2=some (.tbl #[]))->SqL K H a (ns.map V.int)->sp [.ref a] H (λv _=>v=.bl true) λ_ _ _=>False)(aw:∀H e s',CX [] H j (λ_ _ _=>False) e s'->False) :
  codeAny (model Pr w) callerA (.call (.ref fa) ⟨[.ref a],[]⟩) (λr s'=>r=.ok (.ret (.bool true))/\OldK j.heap s'.heap/\s'.os=j.os/\AllBare s'.gens) j:=by
 have rv:=WM hi;have ai:=hi.length;have Y:∀b,b∈cs.map (·.2)->∃t∈cs,t.2=b:=λb D=>by
  obtain ⟨t,L,e⟩:=Yam.mp D;exact ⟨t,L,e⟩
 have Z:∀b,b∈cs.map (·.2)->j.heap.get? b=some (W.tabObj #[]):=λb D=>by
  obtain ⟨t,L,rfl⟩:=Y b D;exact hP t L
 have aj:a ∉ cs.map (·.2):=λz=>by have:=Z a z;rw [ha] at this;cases this
 have ab:∀H:Hp,ZcP (cs.map (·.2)) H->(∀t∈cs,H t.2=some (.tbl #[]))->SqL K H a (ns.map V.int)->HOk Pr w H j.heap->(∀b,H b≠none->b=a\/b∈cs.map (·.2))->(H a≠none->K.lookup a=none) ->
   codeAny (model Pr w) callerA (.call (.ref fa) ⟨[.ref a],[]⟩) (λr s'=>r=.ok (.ret (.bool true))/\OldK j.heap s'.heap/\s'.os=j.os/\AllBare s'.gens) j:=by
  intro H hO ak hS am hA hK;have B:∀{b:Addr}{o:Obj},j.heap.get? b=some o->H b=none->(Zm j.heap H).get? b=some o:=λe n=>Zbi e n;have noA:∀{b:Addr}{o:Obj},j.heap.get? b=some o->o.cls≠.type "list" -> o.cls≠.none->H b=none:=λ{b o} e d1 d2=>by
   cases q:H b with
   | none=>rfl
   | some u=>
    rcases hA b (by rw [q];simp) with e' | e'
    ·rw [e',ha] at e;cases e;exact absurd rfl d1
    ·rw [Z b e'] at e;cases e;exact absurd rfl d2
  have ax:∀{b:Addr}{o:Obj}{es:Array DictEntry}{ep:Nat},j.heap.get? b=some o->o.data=.dict es ep->H b=none:=λ{b o es ep} e d=>by
   cases q:H b with
   | none=>rfl
   | some u=>
    rcases hA b (by rw [q];simp) with e' | e'
    ·rw [e',ha] at e;cases e;cases d
    ·rw [Z b e'] at e;cases e;cases d
  have aa:∀{b:Addr}{m:Str->Option Value},j.heap.Ns b m->(Zm j.heap H).Ns b m:=λ{b m} ⟨o,es,ep,e,d,r⟩=>⟨o,es,ep,B e (ax e d),d,r⟩;have an:K.In (Zm j.heap H):=λb o e=>B (KX b o e) (by
   cases q:H b with
   | none=>rfl
   | some u=>
    rcases hA b (by rw [q];simp) with e' | e'
    ·subst e';rw [hK (by rw [q];simp)] at e;cases e
    ·obtain ⟨t,L,rfl⟩:=Y b e';rw [au t L] at e;cases e)
  have hM:Mod K mg (Zm j.heap H):=⟨an,aa ag,⟨mb,aa D,as⟩,let ⟨mc,h1,h2⟩:=ah;⟨mc,aa h1,h2⟩⟩;have e0:Env0 Pr w K mg (Zm j.heap H) callerA [] j H:=⟨rfl,hM,λb o e=>ZcX e,Nat.le_of_eq (Zn _ _),trivial,λb D=>absurd (show b∈([]:List Addr) from D) (by simp),am,.of_eq hg⟩;have Cb:∀t∈cs,W.CodeHd (Zm j.heap H) t.1 t.2:=λt L=>by
   obtain ⟨o,ws,ao,tf,ae,tg,ay,ap,tt,e1,r1,r2⟩:=C t L;exact ⟨o,ws,ao,tf,ae,tg,ay,ap,tt,B e1 (noA e1 (by rw [r1];decide) (by rw [r1];nofun)),r1,r2⟩
  have Bb:∀t∈cs,(Zm j.heap H).BuiltinsAt mg t.2:=λt L=>by
   obtain ⟨bm,o,h1,h2,h3,h4,h5,h6,h7⟩:=hB t L;exact ⟨bm,o,h1,h2,h3,h4,B h5 (noA h5 (by rw [h6];decide) (by rw [h6];nofun)),h6,h7⟩
  refine codeAny_mono ((F _ an (aa ag) λt L=>⟨Cb t L,Bb t L⟩).run callerA [] j H ⟨[.ref a],[]⟩ [.ref a] [.ref a] _ _ hr e0 (ad j (.ref a)) (.cons rfl .nil) (av H hO ak hS)) λr s' h=>?_;cases r with
  | error e=>exact (aw H e s' h).elim
  | ok fl=>
   cases fl with
   | next=>exact False.elim h
   | brk=>exact False.elim h
   | cont=>exact False.elim h
   | ret u=>
    obtain ⟨v,H',os,aq,un,ac,r',q⟩:=h;have q':v=.bl true:=q;subst q';obtain rfl:u=Value.bool true:=r';have ar:∀t∈cs,∃more:Array Value,s'.heap.get? t.2=some { cls:=.none,data:=.fields (#[]++more) }:=λt L=>by
     obtain ⟨more,eP⟩:=un.tbls t.2 _ (ak t L);exact ⟨more,ac t.2 _ eP⟩
    have kp:∀b o,b ∉ cs.map (·.2)->j.heap.get? b=some o->s'.heap.get? b=some o:=λb o U e=>by
     cases q:H b with
     | none=>exact un.keep b o e q (by intro z;exact absurd (show b∈([]:List Addr) from z) (by simp)) (by simp)
     | some u=>
      rcases hO b U with z | ⟨ob,xs,z⟩
      ·rw [q] at z;cases z
      ·have z2:=un.frzs b ob _ z;obtain ⟨e1,_⟩:=am b _ z;obtain ⟨e2,_⟩:=ac b _ z2;rw [e] at e1;cases e1;exact e2
    refine ⟨rfl,⟨λb o e=>?_,λb o e=>?_⟩,os,aq⟩
    ·by_cases U:b∈cs.map (·.2)
     ·obtain ⟨t,L,rfl⟩:=Y b U;obtain ⟨more,e2⟩:=ar t L;rw [hP t L] at e;cases e;exact .inr (.inl ⟨((C t L).tab (hP t L)).isCodeTable,rfl,#[],more,rfl,e2⟩)
     ·exact .inl (kp b o U e)
    ·by_cases U:b∈cs.map (·.2)
     ·obtain ⟨t,L,rfl⟩:=Y b U;obtain ⟨more,e2⟩:=ar t L;exact ⟨_,e2⟩
     ·exact ⟨o,kp b o U e⟩
 cases hk:K.lookup a with
 | some o=>
  have e:=KX a o hk;rw [ha] at e;cases e;refine ab (λb=>if b∈cs.map (·.2) then some (.tbl #[]) else none) (λb D=>.inl (if_neg D)) (λt L=>if_pos (Yam.mpr ⟨t,L,rfl⟩)) (.inr ⟨_,vs.toArray,_,hk,rfl,rfl,rfl,by rw [Yar,ai];exact hl,by simpa using rv⟩) (λb u z=>?_) (λb z=>?_) λz=>absurd (if_neg aj) z
  ·by_cases D:b∈cs.map (·.2)
   ·have z':=(if_pos D).symm.trans z;cases z';exact Z b D
   ·have z':=(if_neg D).symm.trans z;cases z'
  ·by_cases D:b∈cs.map (·.2)
   ·exact .inr D
   ·exact absurd (if_neg D) z
 | none=>
  refine ab (λb=>if b∈cs.map (·.2) then some (.tbl #[]) else if b=a then some (.frz { cls:=.type "list", data:=.seq vs.toArray } (.lst (ns.map V.int))) else none) (λb D=>?_) (λt L=>if_pos (Yam.mpr ⟨t,L,rfl⟩)) (.inl (.inr ⟨{ cls:=.type "list", data:=.seq vs.toArray },(if_neg aj).trans (if_pos rfl)⟩)) (λb u z=>?_) (λb z=>?_) λ_=>hk
  ·by_cases O:b=a
   ·exact .inr ⟨_,_,(if_neg D).trans (if_pos O)⟩
   ·exact .inl ((if_neg D).trans (if_neg O))
  ·by_cases D:b∈cs.map (·.2)
   ·have z':=(if_pos D).symm.trans z;cases z';exact Z b D
   ·by_cases O:b=a
    ·have z':=((if_neg D).trans (if_pos O)).symm.trans z;cases z';subst O;exact ⟨ha,by rw [Yab];exact hl,vs,_,rv,ha⟩
    ·have z':=((if_neg D).trans (if_neg O)).symm.trans z;cases z'
  ·by_cases D:b∈cs.map (·.2)
   ·exact .inr D
   ·by_cases O:b=a
    ·exact .inl O
    ·exact absurd ((if_neg D).trans (if_neg O)) z
end L2
namespace L2
open PySem PySem.Spec PyProof.Rows
noncomputable def bI (b:Bool):Int:=if b then 1 else 0
noncomputable def KpV (m:Option Int)(v:Value):Prop:=(m=none/\v=.none)\/(∃n t,m=some n/\v=.int n t)\/∃b,m=some (bI b)/\v=.bool b
noncomputable def ZaC (h:Heap)(k:Int×Option Int)(a:Addr):Prop:=∃o t v n,h.get? a=some o/\o.cls=.type "tuple" /\ o.data=.seq #[.int k.1 t,v] n/\KpV k.2 v
noncomputable def ZdE:Option Int->Int
 | none=>reduceHash 4238894112
 | some n=>hashInt n
noncomputable def Yu (k:Int×Option Int):Int:=reduceHash (Builtin.Tuple.tupleHashOf [hashInt k.1,ZdE k.2])
section
variable {P:Program}{w:World}{A:Around}{E:EX}{s:Shared}{h h':Heap}
theorem KpV.one {m n:Option Int}{v:Value}(x:KpV m v)(y:KpV n v):m=n:=by
 rcases x with ⟨rfl,rfl⟩ | ⟨a,t,rfl,rfl⟩ | ⟨b,rfl,rfl⟩ <;> rcases y with ⟨rfl,e⟩ | ⟨j,B,rfl,e⟩ | ⟨D,rfl,e⟩ <;> cases e <;> rfl
theorem ZdF {m:Option Int}{v:Value}{Q:Int->Shared->Prop}(x:KpV m v)(q:Q (ZdE m) { s with toks:=s.toks+1 }):wpAny (model P w) A (pyHash v) Q E s:=by
 rcases x with ⟨rfl,rfl⟩ | ⟨a,t,rfl,rfl⟩ | ⟨b,rfl,rfl⟩
 ·show wpAny (model P w) A (pyHashByItsType .none) Q E s;refine W.pyHash_slot (T := "NoneType") rfl F.slot_NoneType_hash F.entry_NoneType_hash (F.args_NoneType_hash_1 _) (beq_builtin_none _) (.inl rfl) ?_;refine Yaa (Yaf ?_);exact Yaa (wpAny_mkInt (Yaf ⟨_,_,rfl,q⟩))
 ·exact wpAny_pyHash_int q
 ·show wpAny (model P w) A (pyHashByItsType (.bool b)) Q E s;refine W.pyHash_slot (T := "bool") rfl F.slot_bool_hash F.entry_int_hash (F.args_int_hash_1 _) (beq_builtin_none _) (.inl rfl) ?_;cases b
  ·refine Yaa (Yaf ?_);exact Yaa (wpAny_mkInt (Yaf ⟨_,_,rfl,q⟩))
  ·refine Yaa (Yaf ?_);exact Yaa (wpAny_mkInt (Yaf ⟨_,_,rfl,q⟩))
theorem ZaD {k:Int×Option Int}{a:Addr}{Q:Int->Shared->Prop}(O:A.units+70<cLine)(x:ZaC s.heap k a)(q:Q (Yu k) { s with toks:=s.toks+3 }):wpAny (model P w) A (pyHash (.ref a)) Q E s:=by
 obtain ⟨o,t,v,n,j,B,D,L⟩:=x;refine W.pyHash_slot (T := "tuple") ⟨o,j,B⟩ F.slot_tuple_hash F.entry_tuple_hash (F.args_tuple_hash_1 _) (beq_builtin_none _) (.inr (by lia)) ?_;show wpAny (model P w) A.in1 (Builtin.Tuple.tupleItemsOf (.ref a) >>= _) _ E s;refine Yaa (wpAny_tupleItemsOf j D (Yaa ?_));rw [<-Array.forIn_toList];show wpAny (model P w) A.in1 (forIn [Value.int k.1 t,v] _ _) _ E s;rw [List.forIn_cons];refine Yaa (Yaa (wpAny_pyHash_int (Yaa (Yaf (Yaf ?_)))));show wpAny (model P w) A.in1 (forIn [v] _ _) _ E _;rw [List.forIn_cons];refine Yaa (Yaa (ZdF L (Yaa (Yaf (Yaf ?_)))));show wpAny (model P w) A.in1 (forIn [] _ _) _ E _;rw [List.forIn_nil];refine Yaf ?_;show wpAny _ _ (retInt (Builtin.Tuple.tupleHashOf [hashInt k.1,ZdE k.2])) _ _ _;exact Yaa (wpAny_mkInt (Yaf ⟨_,_,rfl,q⟩))
theorem Yv {m:Option Int}{v:Value}(x:KpV m v):∃d,Reads h v d []/\(d=.none/\m=none\/(∃n,d=.int n/\m=some n)\/∃b,d=.bool b/\m=some (bI b)):=by
 rcases x with ⟨rfl,rfl⟩ | ⟨a,t,rfl,rfl⟩ | ⟨b,rfl,rfl⟩
 ·exact ⟨_,.none,.inl ⟨rfl,rfl⟩⟩
 ·exact ⟨_,.int _ _,.inr (.inl ⟨_,rfl,rfl⟩)⟩
 ·exact ⟨_,.bool _,.inr (.inr ⟨_,rfl,rfl⟩)⟩
theorem ZeZ {m n:Option Int}{d e:PyData}(x:d=.none/\m=none\/(∃n,d=.int n/\m=some n)\/∃b,d=.bool b/\m=some (bI b))(y:e=.none/\n=none\/(∃i,e=.int i/\n=some i)\/∃b,e=.bool b/\n=some (bI b)):PyData.eqv d e=decide (m=n):=by
 rcases x with ⟨rfl,rfl⟩ | ⟨a,rfl,rfl⟩ | ⟨b,rfl,rfl⟩ <;> rcases y with ⟨rfl,rfl⟩ | ⟨B,rfl,rfl⟩ | ⟨j,rfl,rfl⟩ <;> simp only [PyData.eqv,bI]
 all_goals first
  | rfl
  | (simp;rfl)
  | (by_cases z:a=B <;> simp [z];done)
  | (cases b <;> cases j <;> simp;done)
  | (cases j <;> simp [beq_eq_decide];done)
  | (cases b <;> simp [beq_eq_decide];done)
  | simp
theorem ZdG {k l:Int×Option Int}{a b:Addr}{Q:Bool->Shared->Prop}(hu:A.units+70<cLine)(x:ZaC s.heap k a)(y:ZaC s.heap l b)(q:Q (decide (k=l)) s):wpAny (model P w) A (eqBool (.ref a) (.ref b)) Q E s:=by
 obtain ⟨o,t,v,n,Z,hc,hd,hv⟩:=x;obtain ⟨o',t',v',n',B,D,L,O⟩:=y;obtain ⟨d,r,z⟩:=Yv (h:=s.heap) hv;obtain ⟨U,r',Y⟩:=Yv (h:=s.heap) O;have j:∀{d:PyData}{m:Option Int},(d=.none/\m=none\/(∃n,d=.int n/\m=some n)\/∃b,d=.bool b/\m=some (bI b))->PyData.canLay0 d=true/\d.depth<=5:=λ{d m} z=>by
  rcases z with ⟨rfl,_⟩ | ⟨_,rfl,_⟩ | ⟨_,rfl,_⟩ <;> exact ⟨by simp [PyData.canLay0],by simp [PyData.depth]⟩
 have e:=SeqAt.eqAt_reads (.tuple [.int k.1,d]) (.tuple [.int l.1,U]) A s (.ref a) (.ref b) _ _ (.tuple Z hc hd (.cons (.int _ _) (.cons r .nil))) (.tuple B D L (.cons (.int _ _) (.cons r' .nil))) (by simp [PyData.canLay0,PyData.canLayAll0,(j z).1]) (by simp [PyData.canLay0,PyData.canLayAll0,(j Y).1]) ?_
 ·have ev:PyData.eqv (.tuple [.int k.1,d]) (.tuple [.int l.1,U])=decide (k=l):=by
   simp only [PyData.eqv,PyData.eqvAll,ZeZ z Y];by_cases z1:k.1=l.1 <;> by_cases z2:k.2=l.2 <;> simp [z1,z2,Prod.ext_iff]
  rw [ev] at e;exact e P w E Q q
 ·have d1:=(j z).2;have:(PyData.tuple [.int k.1,d]).depth<=60:=by
   simp only [PyData.depth,PyData.depthAll]
   lia
  lia
theorem KpV.val {m:Option Int}{v:Value}(x:KpV m v):carriedByValue v=true:=by
 rcases x with ⟨rfl,rfl⟩ | ⟨a,t,rfl,rfl⟩ | ⟨b,rfl,rfl⟩ <;> rfl
end
noncomputable def Zb4 (P:Program)(w:World):HeapKind P w (Int×Option Int) where
 is:=ZaC
 hash:=Yu
 draws:=λ_=>3
 room:=λA=>A.units+70<cLine
 inj:=λ{h a x y} hx hy=>by
  obtain ⟨o,t,v,n,h1,_,h3,r⟩:=hx;obtain ⟨o',t',v',n',h1',_,h3',r'⟩:=hy;rw [h1] at h1';cases h1';rw [h3] at h3';injection h3' with e _
  injection e with e
  injection e with e1 e2
  injection e1 with e1 _
  injection e2 with e2 _
  subst e2;exact Prod.ext e1 (r.one r')
 keeps:=λ{h h' k a d o es ep} x ho hd hs=>by
  obtain ⟨o',t,v,n,h1,h2,h3,r⟩:=x;have ne:a≠d:=λz=>by
   rw [z,ho] at h1;cases h1;rw [hd] at h3;cases h3
  exact ⟨o',t,v,n,(hs.2 a ne).trans h1,h2,h3,r⟩
 pyHash:=λhu x q=>ZaD hu x q
 eqBool:=λhu x y q=>ZdG hu x y q
 quiet:=λ{A E s k a Q} x q=>by
  obtain ⟨o,t,v,n,h1,h2,h3,r⟩:=x;refine UL h1 h2 h3 (λu hu Q q=>?_) q;have hb:carriedByValue u=true:=by
   rcases Yaz.mp hu with rfl | hu
   ·rfl
   ·rw [Yai.mp hu];exact r.val
  rw [eqIsQuiet_byValue _ hb];exact Yaf q
noncomputable def KpR (m:Option Int)(v:V):Prop:=(m=none/\v=.non)\/(∃n,m=some n/\v=.int n)\/∃b,m=some (bI b)/\v=.bl b
theorem KpR.val {m:Option Int}{v:V}{u:Value}(x:KpR m v)(r:RelV v u):KpV m u:=by
 rcases x with ⟨rfl,rfl⟩ | ⟨n,rfl,rfl⟩ | ⟨b,rfl,rfl⟩
 ·exact .inl ⟨rfl,r⟩
 ·obtain ⟨t,rfl⟩:=r;exact .inr (.inl ⟨_,_,rfl,rfl⟩)
 ·exact .inr (.inr ⟨_,rfl,r⟩)
theorem Zb5 {P:Program}{w:World}{H:Hp}{h:Heap}{b:Addr}{k:Int×Option Int}{v:V}(ok:HOk P w H h)(e:H b=some (.tup [.int k.1,v]))(x:KpR k.2 v):ZaC h k b:=by
 obtain ⟨_,its,r,o,h1,h2,n,j⟩:=(show ObjOk P w H h b (.tup [.int k.1,v]) from ok _ _ e);cases r with
 | cons a r=>
  cases r with
  | cons c r=>
   cases r;obtain ⟨t,rfl⟩:=a;exact ⟨o,t,_,n,h1,h2,j,x.val c⟩
noncomputable def gkP (P:Program)(w:World)(kd:V->Prop):GK P w (Int×Option Int):=⟨Zb4 P w,λH b k=>∃v,H b=some (.tup [.int k.1,v])/\KpR k.2 v/\kd v,λok ⟨v,e,x,_⟩=>Zb5 ok e x,λ⟨v,e,x⟩ t=>⟨v,t _ _ e,x⟩,λ{A} j=>by
 show A.units+1+70<cLine
 lia⟩
theorem ZdH {P:Program}{w:World}{kd:V->Prop}{H:Hp}{b:Addr}{k D:Int×Option Int}(h:(gkP P w kd).At H b k)(h':(gkP P w kd).At H b D):k=D:=by
 obtain ⟨v,e,x,_⟩:=h;obtain ⟨O,j,L,_⟩:=h';rw [e] at j;injection j with j
 injection j with j
 injection j with e1 e2
 injection e1 with e1
 injection e2 with e2 _
 subst e2;refine Prod.ext e1 ?_;rcases x with ⟨y,rfl⟩ | ⟨n,y,rfl⟩ | ⟨b,y,rfl⟩ <;> rcases L with ⟨B,e⟩ | ⟨U,B,e⟩ | ⟨Y,B,e⟩ <;> cases e <;> rw [y,B]
theorem FnOk.all {P:Program}{w:World}{K:W.Frag}{mg:Str->Option Value}{base:Heap}{CX:CXT}{k:Nat}{f:Addr}{fd:FuncData}{ps:List Str}{ι:Type}{C:ι->Prop}{sp:ι->Sp}(h:∀i,C i->FnOk P w K mg base CX k f fd ps (sp i)) :
  FnOk P w K mg base CX k f fd ps (λvs H Q E=>∃i,C i/\sp i vs H Q E):=
 ⟨λvs H Q E ⟨i,c,q⟩=>(h i c).len vs H Q E q,λA outer s H j us vs Q E B D L r ⟨i,c,q⟩=>(h i c).run A outer s H j us vs Q E B D L r q⟩
noncomputable def CellAt (H:Hp)(c:Addr)(v:V):Prop:=∃o u,H c=some (.frz o (.own c))/\o.data=.cell (some u)/\RelV v u
noncomputable abbrev OC:=List (Str×Addr)
noncomputable def CellsAt (H:Hp)(cl:OC)(vs:List V):Prop:=Paired (λ(q:Str×Addr) v=>CellAt H q.2 v) cl vs
noncomputable def hideC (cl:OC)(H:Hp):Hp:=λb=>if b∈cl.map (·.2) then none else H b
noncomputable def Uo (cl:OC)(H H':Hp):Hp:=λb=>if b∈cl.map (·.2) then H b else H' b
section
variable {cl:OC}{H H':Hp}{b:Addr}
theorem J2 (h:b∈cl.map (·.2)):hideC cl H b=none:=if_pos h
theorem Gy (h:b ∉ cl.map (·.2)):hideC cl H b=H b:=if_neg h
theorem XH (h:b∈cl.map (·.2)):Uo cl H H' b=H b:=if_pos h
theorem Jz (h:b ∉ cl.map (·.2)):Uo cl H H' b=H' b:=if_neg h
theorem CellAt.same {c:Addr}{v:V}(h:CellAt H c v)(s:Same H H'):CellAt H' c v:=let ⟨o,u,e,r⟩:=h;⟨o,u,s _ _ e,r⟩
theorem CellsAt.same {vs:List V}(h:CellsAt H cl vs)(s:Same H H'):CellsAt H' cl vs:=Paired.mapP h λ_ _ z=>z.same s
theorem CellsAt.frz:∀{cl:OC}{vs:List V},CellsAt H cl vs->∀c∈cl.map (·.2),∃o,H c=some (.frz o (.own c))
 | _,_,.nil,c,h=>by simp at h
 | _,_,.cons r t,c,h=>by
  rw [Yaq] at h;rcases Yaz.mp h with rfl | h
  ·obtain ⟨o,u,e,_⟩:=r;exact ⟨o,e⟩
  ·exact CellsAt.frz t c h
theorem Yw {P:Program}{w:World}{h:Heap}(ok:HOk P w H h)(hz:∀c∈cl.map (·.2),∃o,H c=some (.frz o (.own c))):HOk P w (hideC cl H) h:=λa o e=>by
 have ha:a ∉ cl.map (·.2):=λz=>by rw [J2 z] at e;cases e
 rw [Gy ha] at e;refine (ok a o e).stay (λ_ _ _ q=>q) (λd q=>?_) λd ys q=>?_
 ·rw [Gy (λz=>by obtain ⟨o',j⟩:=hz d z;rw [j] at q;cases q)];exact q
 ·rw [Gy (λz=>by obtain ⟨o',j⟩:=hz d z;rw [j] at q;cases q)];exact q
theorem OY {α:Type}:∀{l:List (Str×α)}{x:Str}{u:α},(l.map (·.1)).Nodup->(x,u)∈l->l.lookup x=some u
 | [],_,_,_,h=>by cases h
 | p::l,x,u,nd,h=>by
  rw [Yaq,List.nodup_cons] at nd;rw [List.lookup_cons];rcases Yaz.mp h with rfl | h
  ·simp
  ·have hne:(x == p.1)=false:=by
    rw [Yda];exact λz=>nd.1 (by rw [<-z];exact Yam.mpr ⟨_,h,rfl⟩)
   rw [hne];exact OY nd.2 h
theorem Ze {ps:List Str}{us:List Value}(j:us.length=ps.length)(nd:ps.Nodup){i:Nat}{x:Str}{u:Value}(h1:ps[i]?=some x)(h2:us[i]?=some u):(ps.zip us).reverse.lookup x=some u:=by
 refine OY ?_ ?_
 ·rw [List.map_reverse,List.map_fst_zip (by lia)];unfold List.Nodup at nd ⊢;rw [List.pairwise_reverse];exact nd.imp λh=>Ne.symm h
 ·rw [List.mem_reverse];refine Yau (i:=i) ?_;rw [List.getElem?_zip_eq_some];exact ⟨h1,h2⟩
end
structure JN (N ps fr:List Str)(sc:Scope):Prop where
 kind:sc.kind=.function
 co:sc.isCoroutine=false
 gen:sc.isGenerator=false
 nd:N.Nodup
 pre:N.take (ps++fr).length=ps++fr
 par:∀x∈ps,sc.names.lookup x=some .local
 frk:∀x∈fr,sc.names.lookup x=some .free
 nocell:∀y∈sc.names,y.2≠.cell
 free:∀y∈sc.names,y.2=.free->y.1∈fr
noncomputable def UM (P:Program)(w:World)(K:W.Frag)(mg:Str->Option Value)(base:Heap)(N:List Str)(qual:Str)(scope:Scope)(clos:OC)(f:Addr)(cd:Value)(A:Around)(outer:List Env)(s:Shared)(H:Hp):Cx where
 prog:=P
 w:=w
 K:=K
 mg:=mg
 base:=base
 A:=A.deeper (W.envX qual scope s.heap.objs.size f cd clos)
 N:=N
 s₀:=s
 H₀:=hideC clos H
 env:=W.envX qual scope s.heap.objs.size f cd clos
 outer:=outer
 stack:=W.envX qual scope s.heap.objs.size f cd clos::outer
 ex:=[]
 calm:=true
 fn:=λ_=>false
 pn:=[]
 xe:=λ_ _=>False
section
variable {P:Program}{w:World}{K:W.Frag}{mg:Str->Option Value}{base:Heap}{N ps fr:List Str}{qual:Str}{scope:Scope}{clos:OC}{f:Addr}{cd:Value}{A:Around}{outer:List Env}{s:Shared}{H:Hp}{us:List Value}{vs fvs:List V}
theorem ZaE {h1:Heap}{tk:Nat}(S:JN N ps fr scope)(hd:A.handled=none)(j:Env0 P w K mg base A outer s H)(hl:vs.length=ps.length)(r:Vals vs us)(hc:CellsAt H clos fvs)(B:clos.map (·.1)=fr)(aa:(clos.map (·.2)).Nodup)(ae:h1.Ns s.heap.objs.size (λx=>(ps.zip us).reverse.lookup x))(hk:∀b o,s.heap.get? b=some o->h1.get? b=some o) :
  Inv (UM P w K mg base N qual scope clos f cd A outer s H) [] (start N (vs++fvs)) (hideC clos H) { s with heap:=h1,toks:=tk }:=by
 have ah:fvs.length=fr.length:=by rw [<-B,Yab];exact (Ydi hc).symm
 have ai:(vs++fvs).length<=N.length:=by
  have:=Ybi List.length S.pre;rw [Ybj,Yag] at this;rw [Yag]
  lia
 have ab:(ps++fr).Nodup:=by rw [<-S.pre];exact S.nd.sublist (List.take_sublist _ _)
 have ag:ps.Nodup:=(Yca.mp ab).1;have ac:fr.Nodup:=(Yca.mp ab).2.1;have L:∀{i:Nat}{x:Str}{v:V},fr[i]?=some x->fvs[i]?=some v->∃c u,clos.lookup x=some c/\RelV v u/\h1.IsCell c (some u):=λ{i x v} e1 e2=>by
  rw [<-B,Yba] at e1;obtain ⟨q,hq,rfl⟩:=Ybn.mp e1;obtain ⟨v',ad,o,u,ho,U,rv⟩:=J1 hc hq;rw [e2] at ad;cases ad;refine ⟨q.2,u,OY (by rw [B];exact ac) (Yau hq),rv,o,hk _ _ ?_,U⟩;exact (show ObjOk P w H s.heap q.2 (.frz o (.own q.2)) from j.hok _ _ ho).1
 have O:∀{x:Str}{c:Addr},clos.lookup x=some c->c∈clos.map (·.2):=λ{x c} e=>Yam.mpr ⟨_,Ycd e,rfl⟩;have Y:∀b:Addr,b ∉ (UM P w K mg base N qual scope clos f cd A outer s H).ex:=λb z=>absurd (show b∈([]:List Addr) from z) (by simp);refine ⟨⟨j.mod,S.kind,rfl,rfl,Yad _,λy z c h1 h2=>?_,λy Z=>?_,λy c h _=>(nomatch h),λ_=>hd,Around.frames_deeper j.frames,.inr ⟨rfl,rfl⟩,λb z=>absurd z (Y b),λb o e=>⟨(j.bs b o e).1,?_⟩,j.bsz,λb _ _=>Y b,λb z=>absurd z (Y b),j.funs,λb hb=>?_⟩,
  rfl,j.bare,Un.kept hk,⟨_,ae,λi y v h1 h2 h3=>?_⟩,λy c h=>?_,?_,λy c h=>J2 (O h),λp D=>absurd (show p∈([]:List (Addr×Obj)) from D) (by simp),(Yw j.hok hc.frz).kept hk,?_⟩
 ·have m1:=Ycd h1;have m2:=Ycd h2;have D:clos.Pairwise λa b=>a.2≠b.2:=by unfold List.Nodup at aa;rwa [Ycq] at aa
  exact name_of_addr D m1 m2
 ·have Z:scope.names.lookup y=some .cell\/scope.names.lookup y=some .free:=Z;rcases Z with Z | Z
  ·exact absurd rfl (S.nocell _ (Ycd Z))
  ·have hm:=S.free _ (Ycd Z) rfl;rw [<-B] at hm;obtain ⟨q,hq,rfl⟩:=Yam.mp hm;exact ⟨q.2,OY (l:=clos) (by rw [B];exact ac) hq⟩
 ·by_cases z:b∈clos.map (·.2)
  ·exact J2 z
  ·show hideC clos H b=none;rw [Gy z];exact (j.bs b o e).2
 ·by_cases z:b∈clos.map (·.2)
  ·exact J2 z
  ·show hideC clos H b=none;rw [Gy z];exact j.frf b hb
 ·have hi:i<(vs++fvs).length:=by
   unfold start at h2;by_cases hi:i<(vs++fvs).length
   ·exact hi
   ·rw [Ybw (by simpa using hi)] at h2;rw [List.getElem?_replicate] at h2;split at h2 <;> cases h2
  have ha:(vs++fvs)[i]?=some v:=by
   unfold start at h2;rw [Ybp (by rw [Yab];exact hi),Yba] at h2;cases e:(vs++fvs)[i]? with
   | none=>rw [e] at h2;cases h2
   | some a=>rw [e] at h2;cases h2;rfl
  have D:(ps++fr)[i]?=some y:=by
   rw [<-S.pre,List.getElem?_take_of_lt (by rw [Yag] at hi ⊢;lia)];exact h1
  by_cases hv:i<vs.length
  ·rw [Ybp hv] at ha;rw [Ybp (by lia)] at D;obtain ⟨u,hu,rv⟩:=r.get ha;exact ⟨u,rv,.inl ⟨S.par y (Yau D),Ze (by rw [<-hl];exact r.length.symm) ag D hu⟩⟩
  ·rw [Ybw (by lia)] at ha D;rw [hl] at ha;obtain ⟨c,u,e1,rv,ic⟩:=L D ha;exact ⟨u,rv,.inr ⟨.inr (S.frk y (Yau D)),c,e1,ic⟩⟩
 ·have hm:=Ycd h;obtain ⟨i,hi⟩:=List.getElem?_of_mem hm;obtain ⟨v,hv,o,u,ho,U,rv⟩:=J1 hc hi;exact ⟨some u,o,hk _ _ (show ObjOk P w H s.heap c (.frz o (.own c)) from j.hok _ _ ho).1,U⟩
 ·have:H s.heap.objs.size=none:=j.hok.fresh (Yad _);show hideC clos H s.heap.objs.size=none;by_cases z:s.heap.objs.size∈clos.map (·.2)
  ·exact J2 z
  ·rw [Gy z];exact this
 ·unfold start;show _=N.length;rw [Yag,Yab,List.length_replicate]
  lia
theorem XI {H':Hp}{s':Shared}{Q:VK}{u:Value}{v:V}{σ':St}(e0:Env0 P w K mg base A outer s H)(Y:CellsAt H clos fvs)(J:Inv (UM P w K mg base N qual scope clos f cd A outer s H) [] σ' H' s')(rv:RelV v u)(q:(∀c∈clos.map (·.2),H' c=none)->Q v (Uo clos H H')) :
  CE outer P w H s Q u s':=by
 have U:=Y.frz;have B:=J.base;have nH:∀{b:Addr}{o:HO},H b=some o->(∀j,o≠.frz j (.own b))->b ∉ clos.map (·.2):=λ{b o} e n z=>by
  obtain ⟨j,D⟩:=U b z;rw [e] at D;cases D;exact n _ rfl
 have Z:∀{b:Addr},H b=none->hideC clos H b=none:=λ{b} n=>by
  by_cases z:b∈clos.map (·.2)
  ·exact J2 z
  ·rw [Gy z];exact n
 have nz:∀{b:Addr},H b=none->b ∉ clos.map (·.2):=λ{b} n z=>by
  obtain ⟨j,D⟩:=U b z;rw [n] at D;cases D
 have O:∀{b:Addr}{j:Obj},H b=some (.frz j (.own b))->s.heap.get? b=some j:=λ{b j} e=>(show ObjOk P w H s.heap b (.frz j (.own b)) from e0.hok _ _ e).1;have at1:∀{b:Addr}{j:Obj},b∈clos.map (·.2)->H b=some (.frz j (.own b))->s'.heap.get? b=some j:=λ{b j} z e=>B.keep b j (O e) (J2 z) (λy=>by have:=e0.frf b y;rw [e] at this;cases this) (by simp [UM]);have L:∀{b:Addr},b∈clos.map (·.2)->H' b=none:=λ{b} z=>by
  obtain ⟨j,e⟩:=U b z;exact B.free b j (O e) (J2 z) (by simp [UM])
 refine ⟨v,Uo clos H H',J.os,J.bare,⟨λb o e n h1 h2=>B.keep b o e (Z n) h1 (by simp [UM]),λb o e n h1 h2=>B.slot b o e (Z n) h1 (by simp [UM]),λb o e n h1=>?_,λb o e h1=>B.there b o e (by simp [UM]),λb ys e=>?_,λb o y e=>?_,λb ys e=>?_⟩,λa o e=>?_,rv,q λc Y=>L Y⟩
 ·rw [Jz (nz n)];exact B.free b o e (Z n) (by simp [UM])
 ·have z:=nH e (λ_=>by simp);rw [Jz z];exact B.tups b ys (by show hideC clos H b=_;rw [Gy z];exact e)
 ·by_cases z:b∈clos.map (·.2)
  ·rw [XH z];exact e
  ·rw [Jz z];exact B.frzs b o y (by show hideC clos H b=_;rw [Gy z];exact e)
 ·have z:=nH e (λ_=>by simp);rw [Jz z];exact B.tbls b ys (by show hideC clos H b=_;rw [Gy z];exact e)
 ·by_cases z:a∈clos.map (·.2)
  ·obtain ⟨j,D⟩:=U a z;rw [XH z,D] at e;cases e;exact ⟨at1 z D,_,at1 z D⟩
  ·rw [Jz z] at e;refine (J.hok a o e).stay (λ_ _ _ y=>y) (λd y=>?_) λd ys y=>?_
   ·rw [Jz (λzz=>by rw [L zz] at y;cases y)];exact y
   ·rw [Jz (λzz=>by rw [L zz] at y;cases y)];exact y
noncomputable def CloFn (H:Hp)(f c:Addr)(qual:Str)(o:Obj):Prop:=H f=some (.frz o (.own f))/\∃j,H c=some (.frz j (.own c))/\Y3 qual j
theorem CloFn.same {H H':Hp}{f c:Addr}{qual:Str}{o:Obj}(h:CloFn H f c qual o)(s:Same H H'):CloFn H' f c qual o:=⟨s _ _ h.1,h.2.elim λj z=>⟨j,s _ _ z.1,z.2⟩⟩
theorem CloFn.rec_ {f c:Addr}{o:Obj}(h:CloFn H f c qual o)(ok:HOk P w H s.heap):s.heap.get? f=some o/\s.heap.CodeRec (.ref c) qual:=by
 obtain ⟨h1,j,h2,vs,t,B,D⟩:=h;exact ⟨(show ObjOk P w H s.heap f (.frz o (.own f)) from ok _ _ h1).1,c,j,vs,t,rfl,(show ObjOk P w H s.heap c (.frz j (.own c)) from ok _ _ h2).1,B,D⟩
theorem ZaF {k:Nat}{c':Addr}{name:Str}{params:Arguments}{body:List Stmt}{D pm L:Value}{sp:Sp}(S:JN N ps fr scope)(U:clos.map (·.1)=fr)(Y:(clos.map (·.2)).Nodup)(len:∀vs H Q E,sp vs H Q E->vs.length=ps.length)(Z:∀(A:Around)(outer:List Env)(s:Shared)(H:Hp)(vs:List V)(Q:VK)(E:XK),Room k (A.deeper (W.envX qual scope s.heap.objs.size f (.ref c') clos))->sp vs H Q E->CloFn H f c' qual (W.fnMade name qual params body scope clos D pm c' L)/\∃fvs,CellsAt H clos fvs /\
   ∃t,PSs (UM P w K mg base N qual scope clos f (.ref c') A outer s H) body t/\t { nx:=λ_ H'=>(∀c∈clos.map (·.2),H' c=none)->Q .non (Uo clos H H'),rt:=λv H'=>(∀c∈clos.map (·.2),H' c=none)->Q v (Uo clos H H') } (start N (vs++fvs)) (hideC clos H)) :
  FnOk P w K mg base CX0 (k+1) f (W.fnX name qual params body scope clos .none .none D pm none (.ref c') L) ps sp:=by
 refine ⟨len,λA outer s H ad us vs Q E hr j hb r h=>?_⟩;have hl:=len _ _ _ _ h;obtain ⟨hf,fvs,hc,t,ht,q⟩:=Z A outer s H vs Q E (hr.deeper _) h;obtain ⟨ho,aa⟩:=hf.rec_ j.hok;have ab:s.heap.NoLimit:=j.mod.nolimit.keeps λb o e=>(j.bs b o e).1;refine codeAny_call_function hr.depth ho rfl S.co S.gen rfl aa (hb _ _ _ _ ?_);refine wpAny_newFunctionEnv S.nocell (λy hy=>S.par y.1 (List.of_mem_zip (show (y.1,y.2)∈ps.zip us from hy)).1) (λh1 ac O=>⟨ab.fresh _ O,codeAny_func ?_⟩) S.kind;have hk:∀b o,s.heap.get? b=some o->h1.get? b=some o:=λb o e=>O.extBut b o (Yay (Yal e)) (Yao _ e);have I:=ZaE (qual:=qual) (f:=f) (cd:=.ref c') (tk:=s.toks+(ps.zip us).length) S hr.hd j hl r hc U Y ac hk;refine Ybr (ht [] _ (start N (vs++fvs)) _ _ I q) (λfl s' B=>?_) λe s' B=>B.elim;cases fl with
 | ret u=>
  obtain ⟨v,σ',H',J,rv,q⟩:=B;exact XI j hc J rv q
 | next=>
  obtain ⟨σ',H',J,q⟩:=B;exact XI (v:=V.non) (u:=Value.none) j hc J rfl q
 | brk=>
  obtain ⟨_,_,_,q⟩:=B;exact False.elim q
 | cont=>
  obtain ⟨_,_,_,q⟩:=B;exact False.elim q
theorem ZcQ {k:Nat}{c':Addr}{name:Str}{params:Arguments}{body:Expr}{pm j:Value}{sp:Sp}(S:JN N ps fr scope)(L:clos.map (·.1)=fr)(O:(clos.map (·.2)).Nodup)(len:∀vs H Q E,sp vs H Q E->vs.length=ps.length)(U:∀(A:Around)(outer:List Env)(s:Shared)(H:Hp)(vs:List V)(Q:VK)(E:XK),Room k (A.deeper (W.envX qual scope s.heap.objs.size f (.ref c') clos))->sp vs H Q E->CloFn H f c' qual (W.kla_obj name qual params body scope clos pm c' j)/\∃fvs,CellsAt H clos fvs /\
   ∃t,PE (UM P w K mg base N qual scope clos f (.ref c') A outer s H) body t/\t (start N (vs++fvs)) (hideC clos H) (λv H'=>(∀c∈clos.map (·.2),H' c=none)->Q v (Uo clos H H'))) :
  FnOk P w K mg base CX0 (k+1) f (W.kla_fn name qual params body scope clos pm (.ref c') j) ps sp:=by
 refine ⟨len,λA outer s H ac us vs Q E Y B hb r h=>?_⟩;have hl:=len _ _ _ _ h;obtain ⟨hf,fvs,hc,t,ht,q⟩:=U A outer s H vs Q E (Y.deeper _) h;obtain ⟨ho,Z⟩:=hf.rec_ B.hok;have aa:s.heap.NoLimit:=B.mod.nolimit.keeps λb o e=>(B.bs b o e).1;refine W.kla_callFunE Y.depth ho rfl S.co S.gen rfl Z (hb _ _ _ _ ?_);refine wpAny_newFunctionEnv S.nocell (λy hy=>S.par y.1 (List.of_mem_zip (show (y.1,y.2)∈ps.zip us from hy)).1) (λh1 ab D=>⟨aa.fresh _ D,W.kla_codeExpr ?_⟩) S.kind;have hk:∀b o,s.heap.get? b=some o->h1.get? b=some o:=λb o e=>D.extBut b o (Yay (Yal e)) (Yao _ e);have I:=ZaE (qual:=qual) (f:=f) (cd:=.ref c') (tk:=s.toks+(ps.zip us).length) S Y.hd B hl r hc L O ab hk;refine Ybr (ht [] _ (start N (vs++fvs)) _ _ I q) (λu s' hs=>?_) λe s' hs=>hs.elim;obtain ⟨v,H',J,rv,q⟩:=hs;exact XI B hc J rv q
end
structure Za8 where
 line:Nat
 col:Nat
 qual:Str
 c:Addr
noncomputable def W3 (es:List Za8):List Value:=es.flatMap λe=>[rawInt e.line,rawInt e.col,.ref e.c]
noncomputable def TabOn (P:Addr)(es:List Za8)(H:Hp):Prop:=H P=some (.tbl (W3 es).toArray)/\∀e∈es,∃j,H e.c=some (.frz j (.own e.c))/\Y3 e.qual j
theorem TabOn.same {P:Addr}{es:List Za8}{H H':Hp}(h:TabOn P es H)(s:Same H H'):TabOn P es H':=⟨s _ _ h.1,λe j=>(h.2 e j).elim λB z=>⟨B,s _ _ z.1,z.2⟩⟩
theorem W4:∀es:List Za8,TriplesOk (W3 es)
 | []=>trivial
 | e::es=>by
  show TriplesOk (rawInt e.line::rawInt e.col::.ref e.c::W3 es);exact W4 es
theorem Xa (es:List Za8)(e:Za8):(W3 (es++[e])).toArray=(W3 es).toArray++#[rawInt e.line,rawInt e.col,.ref e.c]:=by
 unfold W3;rw [List.flatMap_append];simp
section
variable {X:Cx}{qQ:List (Addr×Obj)}{σ:St}{H:Hp}{s:Shared}
theorem ZaG {P c':Addr}{ps more:Array Value}{h':Heap}{tk:Nat}{Z o:Obj}(I:Inv X qQ σ H s)(D:H P=some (.tbl ps))(hx:Heap.ExtBut P s.heap h')(j:s.heap.objs.size<=c')(O:c'<h'.objs.size)(U:h'.get? c'=some Z)(L:h'.get? P=some (W.tabObj (ps++more)))(aa:(h'.push o).get? h'.objs.size=some o) :
  ∃H',Inv X qQ σ H' { s with heap:=h'.push o,toks:=tk }/\SameL P H H'/\H' P=some (.tbl (ps++more))/\H' c'=some (.frz Z (.own c'))/\H' h'.objs.size=some (.frz o (.own h'.objs.size))/\H c'=none/\H h'.objs.size=none:=by
 have hP:s.heap.get? P=some (W.tabObj ps):=I.hok P _ D;have ab:c'≠P:=λz=>by rw [z] at j;exact Yce _ (Yax (Yal hP) j)
 have ad:P<h'.objs.size:=Yal L;have nc:H c'=none:=I.hok.fresh j;have Y:s.heap.objs.size<=h'.objs.size:=Ycb j (Ycs O);have nf:H h'.objs.size=none:=I.hok.fresh Y;have ae:c'≠h'.objs.size:=Yay O;have ag:P≠h'.objs.size:=Yay ad;generalize hH':upd (upd (upd H P (.tbl (ps++more))) c' (.frz Z (.own c'))) h'.objs.size (.frz o (.own h'.objs.size))=H';have aP:H' P=some (.tbl (ps++more)):=by rw [<-hH',Go ag,Go (Ne.symm ab),Gb]
 have ac:H' c'=some (.frz Z (.own c')):=by rw [<-hH',Go ae,Gb]
 have af:H' h'.objs.size=some (.frz o (.own h'.objs.size)):=by rw [<-hH',Gb]
 have ao:∀b,b≠P->b≠c'->b≠h'.objs.size->H' b=H b:=λb h1 h2 h3=>by rw [<-hH',Go h3,Go h2,Go h1]
 have sl:SameL P H H':=λb o hb e=>by
  rw [ao b hb (λz=>by rw [z,nc] at e;cases e) (λz=>by rw [z,nf] at e;cases e)];exact e
 have kp:∀b u,b≠P->s.heap.get? b=some u->(h'.push o).get? b=some u:=λb u hb e=>Yao _ (hx b u hb e);have nP:∀b,H b=none->b≠P:=λb n z=>by rw [z,D] at n;cases n
 have gf:=aa;have I':Inv X qQ σ H' { s with heap:=h'.push o,toks:=tk }:=by
  refine I.un ⟨λb o e n _ _=>kp b o (nP b n) e,λb o e n _ _=>⟨o.slots,kp b o (nP b n) e⟩,λb o e n _=>?_,λb o e _=>?_,λb ys e=>sl b _ (λz=>by rw [z,D] at e;cases e) e,λb o u e=>sl b _ (λz=>by rw [z,D] at e;cases e) e,λb qs e=>?_⟩ λb u e=>?_
  ·rw [ao b (nP b n) (Yay (Yax (Yal e) j)) (Yay (Yax (Yal e) Y))];exact n
  ·by_cases z:b=P
   ·rw [z];exact ⟨_,Yao _ L⟩
   ·exact ⟨o,kp b o z e⟩
  ·by_cases z:b=P
   ·rw [z,D] at e;cases e;exact ⟨more,by rw [z];exact aP⟩
   ·exact ⟨#[],by rw [sl b _ z e];simp⟩
  ·by_cases z:b=P
   ·rw [z,aP] at e;cases e;rw [z];exact Yao _ L
   ·by_cases z2:b=c'
    ·rw [z2,ac] at e;cases e;rw [z2];exact ⟨Yao _ U,_,Yao _ U⟩
    ·by_cases z3:b=h'.objs.size
     ·rw [z3,af] at e;cases e;rw [z3];exact ⟨gf,_,gf⟩
     ·rw [ao b z z2 z3] at e;refine (I.hok b u e).stay (λd y hd B=>kp d y ?_ B) (λd B=>sl d _ (λy=>by rw [y,D] at B;cases B) B) λd ys B=>sl d _ (λy=>by rw [y,D] at B;cases B) B;rcases hd with rfl | hd
      ·exact z
      ·exact λy=>by rw [y,D] at hd;cases hd
 exact ⟨H',I',sl,aP,ac,af,nc,nf⟩
end
section
variable {X:Cx}
noncomputable def tMk (P:Addr)(pos:Pos)(qual:Str)(o:Addr->Value->Value->Obj)(H:Hp)(Q:VK):Prop:=∃es,TabOn P es H /\
 ((codeAmong pos (W3 es)=none/\∀(f c':Addr)(ctv doc:Value)(H':Hp),SameL P H H'->TabOn P (es++[⟨pos.line,pos.col,qual,c'⟩]) H'->H f=none->CloFn H' f c' qual (o c' ctv doc)->Q (.ref f) H') \/
  ∃e∈es,codeAmong pos (W3 es)=some (.ref e.c)/\e.qual=qual/\∀(f:Addr)(ctv doc:Value)(H':Hp),Same H H'->H f=none->CloFn H' f e.c qual (o e.c ctv doc)->Q (.ref f) H')
noncomputable def Zig (P:Addr)(pos:Pos)(qual:Str)(o:Addr->Value->Value->Obj)(i:Nat):TS:=λD σ H=>tMk P pos qual o H λv H'=>D.nx (σ.set i (some v)) H'
theorem ZaH {P:Addr}{ps:Array Value}{mg:Str->Option Value}{h:Heap}(j:h.Ns mainGlobals mg)(B:h.get? P=some (W.tabObj ps)):mainGlobals≠P:=λz=>by
 obtain ⟨o,es,ep,e,D,_⟩:=j;rw [z,B] at e;cases e;cases D
theorem ZaI {i:Nat}{name qual:Str}{params:Arguments}{body:List Stmt}{scope:Scope}{pos:Pos}{clos:OC}{c P:Addr}(hN:X.N.Nodup)(hi:X.N[i]?=some name)(hx:Loc X.env.scope name)(O:closureFor scope X.env=pure clos)(L:X.env.code=.ref c)(C:W.CodeHd X.base c P)(hb:X.base.BuiltinsAt X.mg P)(hq:qualnameIn X.env name name=qual)(ab:params.defaults=[]:=by rfl)(ad:params.kw_defaults=[]:=by rfl)(ha:annTrees params none X.env=[]:=by rfl)(hf:X.fn name=true\/X.env.scope.names.lookup name=some .local:=by first | exact .inl rfl | exact .inr rfl | assumption) :
  PS X (.FunctionDef name params body [] none [] scope none name pos) (Zig P pos qual (λc' j B=>W.fnMade name qual params body scope clos B ((X.mg "__name__").getD .none) c' j) i):=by
 intro qQ s σ H D I h;refine W.nestDef_K ab ad ha ?_;rw [hq];have hg:s.heap.Ns mainGlobals X.mg:=I.ok.mod.glob.keeps I.bk;have hB:s.heap.BuiltinsAt X.mg P:=by
  obtain ⟨bm,o,h1,h2,h3,h4,h5,h6⟩:=hb;exact ⟨bm,o,h1,h2,h3,h4,I.bk _ _ h5,h6⟩
 obtain ⟨es,U,h⟩:=h;have hP:s.heap.get? P=some (W.tabObj (W3 es).toArray):=I.hok P _ U.1;rcases h with ⟨ae,q⟩ | ⟨e,he,ag,ah,q⟩
 ·refine W.makeFunction_K (mg:=X.mg) O I.ok.glob hg L (C.keeps I.bk) hP (W4 es) ae (ZaH hg hP) hB λc' j B h' tk ai aj ak Y am=>?_;obtain ⟨c2,oc,vs,tq,ec,an,hd,hv⟩:=Y;cases ec;obtain ⟨H',I',sl,aP,ac,af,nc,nf⟩:=ZaG (o:=W.fnMade name qual params body scope clos B ((X.mg "__name__").getD .none) c' j) (tk:=tk) I U.1 ai aj ak an am (Ybl _ rfl);refine Up (v:=.ref h'.objs.size) I' hN hi hx rfl (λs' J=>⟨_,H',J,q _ c' j B H' sl ⟨?_,λy Z=>?_⟩ nf ⟨af,oc,ac,vs,tq,hd,hv⟩⟩) hf
  ·rw [Xa];exact aP
  ·rcases Yah.mp Z with Z | Z
   ·obtain ⟨oy,z1,z2⟩:=U.2 y Z;exact ⟨oy,sl _ _ (λz=>by rw [z,U.1] at z1;cases z1) z1,z2⟩
   ·rw [Yai.mp Z];exact ⟨oc,ac,vs,tq,hd,hv⟩
 ·refine W.makeFunction_hit (cv:=.ref e.c) (mg:=X.mg) O I.ok.glob hg L (C.keeps I.bk) hP (W4 es) ag hB λj B h' tk hk aa=>?_;have nf:H h'.objs.size=none:=I.hok.fresh aa;have I':=I.laid (a:=h'.objs.size) (o:=.frz (W.fnMade name qual params body scope clos B ((X.mg "__name__").getD .none) e.c j) (.own h'.objs.size)) (h':=h'.push (W.fnMade name qual params body scope clos B ((X.mg "__name__").getD .none) e.c j)) (t':=tk) (λb o e=>Yao _ (hk b o e)) aa ⟨Ybl _ rfl,_,Ybl _ rfl⟩;have sm:Same H (upd H h'.objs.size (.frz (W.fnMade name qual params body scope clos B ((X.mg "__name__").getD .none) e.c j) (.own h'.objs.size))):=Same.new nf;obtain ⟨oc,z1,z2⟩:=U.2 e he;rw [ah] at z2;exact Up (v:=.ref h'.objs.size) I' hN hi hx rfl (λs' J=>⟨_,_,J,q _ j B _ sm nf ⟨Gb,oc,sm _ _ z1,z2⟩⟩) hf
theorem ZaJ {params:Arguments}{body:Expr}{scope:Scope}{pos:Pos}{clos:OC}{c P:Addr}{qual:Str}(D:closureFor scope X.env=pure clos)(B:X.env.code=.ref c)(C:W.CodeHd X.base c P)(hb:X.base.BuiltinsAt X.mg P)(hq:X.env.qual ++ "<lambda>" = qual)(L:defaultsOf params X.env=([],[]):=by rfl):PE X (.Lambda params body scope pos) (λ_ H Q=>tMk P pos qual (λc' j _=>W.kla_obj "<lambda>" qual params body scope clos ((X.mg "__name__").getD .none) c' j) H Q):=by
 intro qQ s σ H Q I h;refine W.kla_eval L ?_;rw [hq];have hg:s.heap.Ns mainGlobals X.mg:=I.ok.mod.glob.keeps I.bk;have hB:s.heap.BuiltinsAt X.mg P:=by
  obtain ⟨bm,o,h1,h2,h3,h4,h5,h6⟩:=hb;exact ⟨bm,o,h1,h2,h3,h4,I.bk _ _ h5,h6⟩
 obtain ⟨es,O,h⟩:=h;have hP:s.heap.get? P=some (W.tabObj (W3 es).toArray):=I.hok P _ O.1;rcases h with ⟨ab,q⟩ | ⟨e,he,ad,ae,q⟩
 ·refine W.kla_makeFunction (mg:=X.mg) D I.ok.glob hg B (C.keeps I.bk) hP (W4 es) ab (ZaH hg hP) hB λc' j h' tk ag ah ai U aj=>?_;obtain ⟨c2,oc,vs,tq,ec,ak,hd,hv⟩:=U;cases ec;obtain ⟨H',I',sl,aP,ac,af,nc,nf⟩:=ZaG (o:=W.kla_obj "<lambda>" qual params body scope clos ((X.mg "__name__").getD .none) c' j) (tk:=tk) I O.1 ag ah ai ak aj (Ybl _ rfl);refine ⟨.ref h'.objs.size,H',I',rfl,q _ c' j .none H' sl ⟨?_,λy Y=>?_⟩ nf ⟨af,oc,ac,vs,tq,hd,hv⟩⟩
  ·rw [Xa];exact aP
  ·rcases Yah.mp Y with Y | Y
   ·obtain ⟨oy,Z,z2⟩:=O.2 y Y;exact ⟨oy,sl _ _ (λz=>by rw [z,O.1] at Z;cases Z) Z,z2⟩
   ·rw [Yai.mp Y];exact ⟨oc,ac,vs,tq,hd,hv⟩
 ·refine W.kla_makeFunctionHit (cv:=.ref e.c) (mg:=X.mg) D I.ok.glob hg B (C.keeps I.bk) hP (W4 es) ad hB λj h' tk hk aa=>?_;have nf:H h'.objs.size=none:=I.hok.fresh aa;have I':=I.laid (a:=h'.objs.size) (o:=.frz (W.kla_obj "<lambda>" qual params body scope clos ((X.mg "__name__").getD .none) e.c j) (.own h'.objs.size)) (h':=h'.push (W.kla_obj "<lambda>" qual params body scope clos ((X.mg "__name__").getD .none) e.c j)) (t':=tk) (λb o e=>Yao _ (hk b o e)) aa ⟨Ybl _ rfl,_,Ybl _ rfl⟩;have sm:Same H (upd H h'.objs.size (.frz (W.kla_obj "<lambda>" qual params body scope clos ((X.mg "__name__").getD .none) e.c j) (.own h'.objs.size))):=Same.new nf;obtain ⟨oc,Z,z2⟩:=O.2 e he;rw [ae] at z2;exact ⟨.ref h'.objs.size,_,I',rfl,q _ j .none _ sm nf ⟨Gb,oc,sm _ _ Z,z2⟩⟩
noncomputable def FnIn (H:Hp)(f:Addr):Prop:=∃o u fd,H f=some (.frz o u)/\o.data=.func fd
theorem CloFn.fin {H:Hp}{f c:Addr}{qual:Str}{o:Obj}{fd:FuncData}(h:CloFn H f c qual o)(e:o.data=.func fd):FnIn H f:=⟨o,_,fd,h.1,e⟩
theorem FnIn.at_ {qQ:List (Addr×Obj)}{σ:St}{H:Hp}{s:Shared}{f:Addr}(h:FnIn H f)(I:Inv X qQ σ H s):W.FnAt f s.heap:=by
 obtain ⟨o,u,fd,e,j⟩:=h;have B:=(show ObjOk X.prog X.w H s.heap f (.frz o u) from I.hok _ _ e).1;obtain ⟨D,L,O,sl⟩:=o;cases j;exact ⟨D,L,fd,sl,B⟩
noncomputable def Ze0 (i:Nat)(f:Addr)(sp:Sp)(dvs:List V)(E:XK)(t:TA):TE:=λσ H Q=>σ[i]?=some (some (.ref f))/\FnIn H f/\t σ H λvs H1=>FnIn H1 f/\sp (vs++dvs) H1 Q E
theorem V1 {CX:CXT}{k i:Nat}{f:Addr}{fd:FuncData}{ps:List Str}{sp:Sp}{ds:List Value}{dvs:List V}{E:XK}{x:Str}{e:Expr}{es:List Expr}{t:TA}{p pos:Pos}(F:FnOk X.prog X.w X.K X.mg X.base CX k f fd ps sp)(L:Room k X.A)(O:PE X (.Name x p) (Zei i))(U:Binds X.K fd ps ds)(Y:Vals dvs ds)(Z:Uf CX X E)(ha:PA X (e::es) t)(he:starEach (e::es) X.env=(false,eval e X.env)::starEach es X.env:=by rfl)(j:(backTo pos (starEach es X.env)).any (·.1)=false:=by rfl):PE X (.Call (.Name x p) (e::es) [] pos) (Ze0 i f sp dvs E t):=by
 intro qQ s σ H Q I h;refine Ydq (thG (O qQ s σ H (λv H'=>v=.ref f/\H'=H) I ⟨_,h.1,rfl,rfl⟩) λu s1 v H1 B r1 ⟨ev,eH⟩=>?_);subst ev eH;obtain rfl:u=Value.ref f:=r1;refine W.callWith_F (h.2.1.at_ B) (thG (ha pos qQ s1 σ H1 _ B h.2.2) λus s2 vs H2 D r ⟨hf,q⟩=>⟨hf.at_ D,?_⟩) he j;exact ZE F L U Y Z D r q
end
theorem Paired.comp {α β γ:Type}{A:α->β->Prop}{B:β->γ->Prop}{C:α->γ->Prop}:∀{l:List α}{m:List β}{n:List γ},Paired A l m->Paired B m n->(∀a b c,A a b->B b c->C a c)->Paired C l n
 | _,_,_,.nil,.nil,_=>.nil
 | _,_,_,.cons a t,.cons b u,h=>.cons (h _ _ _ a b) (Paired.comp t u h)
noncomputable def ZdI (cl:OC)(h:Heap)(H:Hp):Hp:=λb=>if b∈cl.map (·.2) then (h.get? b).map (λo=>HO.frz o (.own b)) else H b
section
variable {X:Cx}{qQ:List (Addr×Obj)}{σ:St}{H:Hp}{s:Shared}
noncomputable def Zgt (X:Cx)(cl:OC)(is:List Nat):Prop:=Paired (λ(q:Str×Addr) (i:Nat)=>X.N[i]?=some q.1/\X.env.scope.names.lookup q.1=some .cell/\X.env.cells.lookup q.1=some q.2/\X.fn q.1=true) cl is
theorem UN {cl:OC}{is:List Nat}(h:Zgt X cl is):∀c∈cl.map (·.2),∃x,X.env.cells.lookup x=some c/\X.fn x=true:=λc B=>by
 obtain ⟨q,D,rfl⟩:=Yam.mp B;obtain ⟨i,hi⟩:=List.getElem?_of_mem D;obtain ⟨j,_,_,_,h1,h2⟩:=J1 h hi;exact ⟨q.1,h1,h2⟩
theorem ZdJ {cl:OC}{is:List Nat}{fvs:List V}(I:Inv X qQ σ H s)(j:Zgt X cl is)(hv:Paired (λ(i:Nat) v=>σ[i]?=some (some v)) is fvs) :
  Env0 X.prog X.w X.K X.mg X.base X.A X.stack s (ZdI cl s.heap H)/\CellsAt (ZdI cl s.heap H) cl fvs/\∀b∈cl.map (·.2),H b=none:=by
 have E:=I.env0;have L:∀{b:Addr},b∈cl.map (·.2)->ZdI cl s.heap H b=(s.heap.get? b).map (λo=>HO.frz o (.own b)):=λ{b} z=>if_pos z;have out:∀{b:Addr},b ∉ cl.map (·.2)->ZdI cl s.heap H b=H b:=λ{b} z=>if_neg z;have U:∀b∈cl.map (·.2),H b=none:=λb B=>by
  obtain ⟨x,e,_⟩:=UN j b B;exact I.freeC x b e
 have old:∀b∈cl.map (·.2),X.s₀.heap.objs.size<=b:=λb B=>by
  obtain ⟨x,e,hf⟩:=UN j b B;exact I.ok.cab x b hf e
 refine ⟨⟨E.frames,E.mod,λb o e=>⟨(E.bs b o e).1,?_⟩,E.bsz,E.funs,λb B=>?_,λa o e=>?_,E.bare⟩,?_,U⟩
 ·rw [out (λz=>Yce _ (Yax (Yal (I.ok.bs b o e).1) (old b z)))];exact (E.bs b o e).2
 ·rw [out (λz=>?_)]
  ·exact E.frf b B
  ·rcases Yaz.mp (I.stkSub b B) with y | y
   ·obtain ⟨x,e,_⟩:=UN j b z;exact I.cne x b e y
   ·obtain ⟨_,o,D,_⟩:=I.ok.funs.mem y;exact Yce _ (Yax (Yal D) (old b z))
 ·by_cases z:a∈cl.map (·.2)
  ·rw [L z] at e;obtain ⟨ob,D,rfl⟩:=Ybn.mp e;exact ⟨D,ob,D⟩
  ·rw [out z] at e;refine (I.hok a o e).stay (λ_ _ _ y=>y) (λd y=>?_) λd ys y=>?_
   ·rw [out (λY=>by rw [U d Y] at y;cases y)];exact y
   ·rw [out (λY=>by rw [U d Y] at y;cases y)];exact y
 ·obtain ⟨m,_,hl⟩:=I.loc;have O:Paired (λ(q:Str×Addr) (i:Nat)=>(X.N[i]?=some q.1/\X.env.scope.names.lookup q.1=some .cell/\X.env.cells.lookup q.1=some q.2/\X.fn q.1=true)/\q.2∈cl.map (·.2)) cl is:=by
   have:∀{l:OC}{Z:List Nat},Zgt X l Z->(∀q∈l,q.2∈cl.map (·.2))->Paired (λ(q:Str×Addr) (i:Nat)=>(X.N[i]?=some q.1/\X.env.scope.names.lookup q.1=some .cell/\X.env.cells.lookup q.1=some q.2/\X.fn q.1=true)/\q.2∈cl.map (·.2)) l Z:=by
    intro l Z h
    induction h with
    | nil=>intro _;exact .nil
    | cons r t ih=>intro hm;exact .cons ⟨r,hm _ (Yaw ..)⟩ (ih λq hq=>hm q (Ybc _ hq))
   exact this j λq hq=>Yam.mpr ⟨q,hq,rfl⟩
  refine Paired.comp O hv λq i v ⟨⟨h1,h2,h3,h4⟩,h5⟩ hs=>?_;obtain ⟨u,rv,lk⟩:=hl i q.1 v h1 hs (.inr (.inl h2));rcases lk with ⟨k,_⟩ | ⟨_,c,hc,o,D,hd⟩
  ·have k:X.env.scope.names.lookup q.1=some .local:=k;rw [h2] at k;cases k
  ·rw [h3] at hc;cases hc;refine ⟨o,u,?_,hd,rv⟩;rw [L h5,D]
   rfl
theorem Zih {cl:OC}{Q:VK}{u:Value}{s':Shared}(hN:∀b∈cl.map (·.2),H b=none)(L:∀b∈cl.map (·.2),∃o,s.heap.get? b=some o)(O:∀b∈frs X.stack,b ∉ cl.map (·.2))(h:CE X.stack X.prog X.w (ZdI cl s.heap H) s (λv H'=>Q v (hideC cl H')) u s'):CE X.stack X.prog X.w H s Q u s':=by
 obtain ⟨v,H',os,j,un,B,rv,q⟩:=h;have U:∀{b:Addr},b∈cl.map (·.2)->ZdI cl s.heap H b=(s.heap.get? b).map (λo=>HO.frz o (.own b)):=λ{b} z=>if_pos z;have out:∀{b:Addr},b ∉ cl.map (·.2)->ZdI cl s.heap H b=H b:=λ{b} z=>if_neg z;have Z:∀b∈cl.map (·.2),∃o,s.heap.get? b=some o/\H' b=some (.frz o (.own b)):=λb hb=>by
  obtain ⟨o,D⟩:=L b hb;refine ⟨o,D,un.frzs b o _ ?_⟩;rw [U hb,D]
  rfl
 have nz:∀{b:Addr}{o:HO},H b=some o->b ∉ cl.map (·.2):=λ{b o} e z=>by rw [hN b z] at e;cases e
 refine ⟨v,hideC cl H',os,j,⟨λb o e n h1 h2=>?_,λb o e n h1 h2=>un.slot b o e (by rw [out (O b h1)];exact n) h1 h2,λb o e n h1=>?_,un.there,λb ys e=>?_,λb o y e=>?_,λb ys e=>?_⟩,Yw B λc hc=>?_,rv,q⟩
 ·by_cases z:b∈cl.map (·.2)
  ·obtain ⟨o',D,Y⟩:=Z b z;rw [e] at D;cases D;exact (show ObjOk X.prog X.w H' s'.heap b (.frz o (.own b)) from B _ _ Y).1
  ·exact un.keep b o e (by rw [out z];exact n) h1 h2
 ·by_cases z:b∈cl.map (·.2)
  ·exact J2 z
  ·rw [Gy z];exact un.free b o e (by rw [out z];exact n) h1
 ·rw [Gy (nz e)];exact un.tups b ys (by rw [out (nz e)];exact e)
 ·rw [Gy (nz e)];exact un.frzs b o y (by rw [out (nz e)];exact e)
 ·rw [Gy (nz e)];exact un.tbls b ys (by rw [out (nz e)];exact e)
 ·obtain ⟨o,_,Y⟩:=Z c hc;exact ⟨o,Y⟩
noncomputable def Ze1 (cl:OC)(is:List Nat)(sp:Sp)(dvs:List V)(E:XK)(t:TA):TE:=λσ H Q=>t σ H λvs H1=>∃fvs,Paired (λ(i:Nat) v=>σ[i]?=some (some v)) is fvs /\
 ∀H2:Hp,(∀b,b ∉ cl.map (·.2)->H2 b=H1 b)->(∀b∈cl.map (·.2),H1 b=none)->CellsAt H2 cl fvs->sp (vs++dvs) H2 (λv H'=>Q v (hideC cl H')) E
theorem V2 {CX:CXT}{k:Nat}{f:Addr}{fd:FuncData}{ps:List Str}{sp:Sp}{ds:List Value}{dvs:List V}{E:XK}{x:Str}{e:Expr}{es:List Expr}{t:TA}{p pos:Pos}{cl:OC}{is:List Nat}(B:Zgt X cl is)(F:FnOk X.prog X.w X.K X.mg X.base CX k f fd ps sp)(hr:Room k X.A)(hg:Gl X x)(hm:X.mg x=some (.ref f))(hk:W.keepIn X.K (.ref f)=true)(D:Binds X.K fd ps ds)(hd:Vals dvs ds)(hx:∀{outer:List Env}{H:Hp}{s:Shared}{ev:Value}{s':Shared},CX outer H s E ev s'->False)(ha:PA X (e::es) t)(Y:(x == ("__debug__" : Str))=false:=by decide)(he:starEach (e::es) X.env=(false,eval e X.env)::starEach es X.env:=by rfl)(Z:(backTo pos (starEach es X.env)).any (·.1)=false:=by rfl) :
  PE X (.Call (.Name x p) (e::es) [] pos) (Ze1 cl is sp dvs E t):=by
 intro qQ s σ H Q I h;refine Ydq (Uz I hg hm ?_ Y);refine W.callWith_K (h₀:=X.base) I.ok.mod.kin hk (thG (ha pos qQ s σ H _ I h) λus s1 vs H1 j r ⟨fvs,hv,q⟩=>⟨j.kIn,?_⟩) he Z;obtain ⟨aa,hC,hN⟩:=ZdJ j B hv;have q:=q _ (λb z=>if_neg z) hN hC;have r2:Vals (vs++dvs) (us++ds):=r.append hd;have hl:(us++ds).length=ps.length:=by rw [<-r2.length];exact F.len _ _ _ _ q
 refine wpAny_call (codeAny_mono (F.run X.A X.stack s1 _ ⟨us,[]⟩ (us++ds) (vs++dvs) _ E hr aa (D s1 us j.kIn hl) r2 q) λr s' L=>?_);cases r with
 | error e=>exact (hx L).elim
 | ok fl=>
  cases fl with
  | ret u=>
   refine j.after (Zih hN (λb D=>?_) (λb D z=>?_) L)
   ·obtain ⟨O,U,_⟩:=UN B b D;obtain ⟨v',o,ho,_⟩:=j.cell O b U;exact ⟨o,ho⟩
   ·obtain ⟨O,U,hf⟩:=UN B b z;rcases Yaz.mp (j.stkSub b D) with y | y
    ·exact j.cne O b U y
    ·obtain ⟨_,o,ho,_⟩:=j.ok.funs.mem y;exact Yce _ (Yax (Yal ho) (j.ok.cab O b hf U))
  | next=>exact False.elim L
  | brk=>exact False.elim L
  | cont=>exact False.elim L
end
theorem walk_of4 {l:W.OpenLaw}{n k:Nat}{q:Program}{D:List Str}{XP:(Str->Option Value)->Heap->Prop}{YP:World->Heap->Prop}{d dd de dg dh:DefRec}{K:Params->W.Frag}{CX:World->CXT}{sp:World->Addr->Addr->Addr->Addr->Sp}{x tn tm to tp:Str}(hn:l.most=some n)(ao:n<=sizeLine)(ap:d.params.defaults=[])(hr:Room k callerA)(hY:∀(w:World)(h:Heap),YP w h->(K w.params).In h)(ad:(recsOf q).find? (λe=>e.name == tn)=some dd)(L:(recsOf q).find? (λe=>e.name == tm)=some de)(O:(recsOf q).find? (λe=>e.name == to)=some dg)(U:(recsOf q).find? (λe=>e.name == tp)=some dh)(F:∀(w:World)(mg:Str->Option Value)(fa:Addr)(h:Heap),(K w.params).In h->h.Ns mainGlobals mg->mg d.name=some (.ref fa) ->
   ∃(fd:FuncData)(c P c2 P2 c3 P3 c4 P4:Addr),W.tabIn (K w.params) tn=some (c,P)/\(K w.params).lookup P=none/\W.tabIn (K w.params) tm=some (c2,P2)/\(K w.params).lookup P2=none/\W.tabIn (K w.params) to=some (c3,P3)/\(K w.params).lookup P3=none/\W.tabIn (K w.params) tp=some (c4,P4)/\(K w.params).lookup P4=none/\(P≠P2/\P≠P3/\P≠P4/\P2≠P3/\P2≠P4/\P3≠P4)/\(∀(s:Shared)(u:Value),BindsTo s fd ⟨[u],[]⟩ [(x,u)]) /\
    ∀base:Heap,(K w.params).In base->base.Ns mainGlobals mg->W.CodeHd base c P->base.BuiltinsAt mg P->W.CodeHd base c2 P2->base.BuiltinsAt mg P2->W.CodeHd base c3 P3->base.BuiltinsAt mg P3->W.CodeHd base c4 P4->base.BuiltinsAt mg P4->FnOk l.prog w (K w.params) mg base (CX w) k fa fd [x] (sp w P P2 P3 P4))(aq:∀(w:World)(P P2 P3 P4:Addr)(H:Hp)(a:Addr)(ns:List Int),ns.length<=n->H P=some (.tbl #[])->H P2=some (.tbl #[])->H P3=some (.tbl #[])->H P4=some (.tbl #[])->(P≠P2/\P≠P3/\P≠P4/\P2≠P3/\P2≠P4/\P3≠P4)->SqL (K w.params) H a (ns.map V.int)->sp w P P2 P3 P4 [.ref a] H (λv _=>v=.bl true) λ_ _ _=>False)(ar:∀(w:World)(H:Hp)(s:Shared)(e:Value)(s':Shared),CX w [] H s (λ_ _ _=>False) e s'->False) :
  W.WalkO q D XP YP l.row.toRowW d [] (λf vs=>PySem.call f vs):=by
 refine Att.attach_call hn ap λw s₀ s₁ mg mb fa o pm cd ax a vs ns G Y ho hd ay as ae Z qV hg=>?_;have KX:=hY w _ Y;obtain ⟨fd,c,P,c2,P2,c3,P3,c4,P4,ag,au,aa,ah,ab,ai,ac,aj,av,hb,hF⟩:=F w mg fa _ KX G.T.g as;obtain ⟨C,hP⟩:=W.tab_of G.T KX ad ag;obtain ⟨C2,ak⟩:=W.tab_of G.T KX L aa;obtain ⟨C3,am⟩:=W.tab_of G.T KX O ab;obtain ⟨C4,an⟩:=W.tab_of G.T KX U ac;have hB:∀P,s₁.heap.get? P=some (W.tabObj #[])->s₁.heap.BuiltinsAt mg P:=λP hP=>by
  obtain ⟨bm,ob,b1,b2,b3,b4,b5,b6⟩:=G.T.bmain;refine ⟨bm,ob,b1,b2,λz=>?_,λz=>?_,b3,b4,b5,b6⟩
  ·obtain ⟨o',es,ep,e,aw,_⟩:=G.T.g;rw [z,e] at b3;cases b3;rw [aw] at b6;cases b6
  ·rw [z,hP] at b3;cases b3;cases b4
 have j:∀{φ:Addr×Addr->Prop},φ (c,P)->φ (c2,P2)->φ (c3,P3)->φ (c4,P4)->∀t∈[(c,P),(c2,P2),(c3,P3),(c4,P4)],φ t:=λh1 h2 B h4 t ht=>by
  rcases Yaz.mp ht with rfl | ht
  ·exact h1
  ·rcases Yaz.mp ht with rfl | ht
   ·exact h2
   ·rcases Yaz.mp ht with rfl | ht
    ·exact B
    ·rw [Yai.mp ht];exact h4
 exact Zd (cs:=[(c,P),(c2,P2),(c3,P3),(c4,P4)]) KX G.T.g G.T.b G.T.builtins G.T.nolimit hg (j C C2 C3 C4) (j hP ak am an) (j au ah ai aj) (j (hB P hP) (hB P2 ak) (hB P3 am) (hB P4 an)) ae Z (Ycb qV ao) hr
  (λbase h1 h2 B=>hF base h1 h2 (B (c,P) (by simp)).1 (B (c,P) (by simp)).2 (B (c2,P2) (by simp)).1 (B (c2,P2) (by simp)).2 (B (c3,P3) (by simp)).1 (B (c3,P3) (by simp)).2 (B (c4,P4) (by simp)).1 (B (c4,P4) (by simp)).2) hb (λH hO hT hS=>aq w P P2 P3 P4 H a ns qV (hT (c,P) (by simp)) (hT (c2,P2) (by simp)) (hT (c3,P3) (by simp)) (hT (c4,P4) (by simp)) av hS) λH e s'=>ar w H s₁ e s'
end L2
namespace M
open PySem L2
noncomputable def top (i:Nat):Stmt:=PySem.Challenge.pw_onceways_k47_through_and_touching.main.body.getD i (.Pass ⟨0,0,0,0⟩)
noncomputable abbrev Ze2:Stmt:=top 6
noncomputable abbrev Zd9:Stmt:=top 7
noncomputable abbrev Ze3:Stmt:=top 8
noncomputable abbrev Ze4:Stmt:=top 9
noncomputable abbrev Ze5:Stmt:=top 10
noncomputable abbrev Zea:Stmt:=top 13
noncomputable abbrev Zeb:Stmt:=top 14
noncomputable abbrev Zec:Stmt:=top 15
noncomputable abbrev Zgu:Stmt:=top 16
noncomputable abbrev Zgv:Stmt:=top 17
noncomputable abbrev Zgw:Stmt:=top 18
noncomputable abbrev Zgx:Stmt:=top 20
noncomputable abbrev Zb6:Stmt:=top 21
noncomputable abbrev Zgy:Stmt:=top 22
noncomputable abbrev Zgz:Stmt:=top 23
noncomputable abbrev ZgA:Stmt:=top 24
noncomputable abbrev Ze6:Stmt:=top 25
noncomputable abbrev ZgB:Stmt:=top 26
noncomputable abbrev Ze7:Stmt:=top 28
noncomputable abbrev Ze8:Stmt:=top 29
noncomputable abbrev Ze9:Stmt:=top 30
noncomputable abbrev ZgC:Stmt:=top 31
noncomputable abbrev ZgD:Stmt:=top 32
noncomputable abbrev ZgE:Stmt:=top 33
noncomputable abbrev ZgF:Stmt:=top 34
noncomputable abbrev ZgG:Stmt:=top 35
noncomputable abbrev Zb7:Stmt:=top 36
noncomputable abbrev Zb8:Stmt:=ZP (top 5) 0
noncomputable abbrev ZdK:Stmt:=ZP (top 5) 1
section
variable {P:Program}{w:World}{K:W.Frag}{mg:Str->Option Value}{base:Heap}
theorem JS:2<=sizeLine:=by decide
theorem ZdL {xs:List V}{i:Int}{v:V}(h0:0<=i)(h:xs[i.toNat]?=some v):atI xs i=some v:=by
 obtain ⟨k,rfl⟩:=Int.eq_ofNat_of_zero_le h0;exact Gq h
theorem ZaK {H:Hp}{xs:List V}{ts:List Tri}(T:Trs H xs ts){c:Int}{r:Tri}(n:Nd ts c r):∃t,atI xs (c-2)=some (.ref t)/\H t=some (.tup [.int r.1,.int r.2.1,.int r.2.2]):=by
 obtain ⟨t,h1,h2⟩:=T.at n.2;exact ⟨t,ZdL (by have:=n.1;lia) h1,h2⟩
structure TabAt (H:Hp)(tb l:Addr)(root:Int)(xs:List V)(ts:List Tri):Prop where
 w:H tb=some (.tup [.int root,.ref l])
 l:H l=some (.lst xs)
 t:Trs H xs ts
theorem TabAt.same {H H':Hp}{tb l:Addr}{root:Int}{xs:List V}{ts:List Tri}(h:TabAt H tb l root xs ts)(s:Same H H'):TabAt H' tb l root xs ts:=⟨s _ _ h.w,s _ _ h.l,h.t.same s⟩
theorem JA {ns:List Int}{i:Nat}{x:V}(h:(ns.map V.int)[i]?=some x):∃z,x=.int z/\ns[i]?=some z:=by
 rw [Yba] at h;cases hz:ns[i]? with
 | none=>rw [hz] at h;cases h
 | some z=>rw [hz] at h;cases h;exact ⟨z,rfl,rfl⟩
end
section
theorem Zhk:¬ (("most" : Str) = "nodes"):=by decide +kernel
theorem Zhl:¬ (("most" : Str) = "places"):=by decide +kernel
theorem Zhm:¬ (("nodes" : Str) = "places"):=by decide +kernel
noncomputable def Za9 (m:V)(nl pd:Addr):List (Str×V):=Ue "places" (.ref pd) (Ue "nodes" (.ref nl) (Ue "most" m []))
theorem Xb (m:V)(nl pd:Addr):(Za9 m nl pd).lookup ("most" : Str)=some m:=by
 unfold Za9;rw [GM,if_neg Zhl,GM,if_neg Zhk,GM,if_pos rfl]
theorem Os (m:V)(nl pd:Addr):(Za9 m nl pd).lookup ("nodes" : Str)=some (.ref nl):=by
 unfold Za9;rw [GM,if_neg Zhm,GM,if_pos rfl]
theorem JI (m:V)(nl pd:Addr):(Za9 m nl pd).lookup ("places" : Str)=some (.ref pd):=by
 unfold Za9;rw [GM,if_pos rfl]
theorem ZdM (m:V)(nl pd:Addr){x:Str}(h1:¬ x = "places")(h2:¬ x = "nodes")(j:¬ x = "most"):(Za9 m nl pd).lookup x=none:=by
 unfold Za9;rw [GM,if_neg h1,GM,if_neg h2,GM,if_neg j]
 rfl
end
structure PlOk (kvs:List (List Key×V))(ts:List Tri):Prop where
 s:SeenOk kvs ts
 n:∀r:Tri,J8 kvs (U4 r)=none->r ∉ ts
 l:kvs.length<=ts.length
theorem PlOk.nil:PlOk [] []:=⟨λr v e=>(by cases e),λr _ h=>(by cases h),Yad _⟩
theorem PlOk.add {kvs:List (List Key×V)}{ts:List Tri}(S:PlOk kvs ts)(r:Tri):PlOk (JT kvs (U4 r) (.int ((ts.length:Int)+2))) (ts++[r]):=by
 refine ⟨S.s.add rfl,λq e j=>?_,Ycb (Jp _ _ _) (by rw [Yag,Yat];have:=S.l;lia)⟩;rw [Jy] at e;by_cases h:U4 q=U4 r
 ·rw [if_pos h] at e;cases e
 ·rw [if_neg h] at e;rcases Yah.mp j with z | z
  ·exact S.n q e z
  ·exact h (by rw [Yai.mp z])
structure ShelfAt (C:Addr)(H:Hp)(p nl pd:Addr)(m:V)(xs:List V)(ts:List Tri)(kvs:List (List Key×V)):Prop where
 ob:∃dx,H p=some (.ins C dx (Za9 m nl pd))
 nd:H nl=some (.lst xs)
 tr:Trs H xs ts
 pl:H pd=some (.dT kvs)
 ok:PlOk kvs ts
structure Shf (C:Addr)(H0 H:Hp)(p nl pd:Addr)(m:V)(ts:List Tri):Prop where
 kp:∀b o,b≠nl->b≠pd->H0 b=some o->H b=some o
 at_:∃xs kvs,ShelfAt C H p nl pd m xs ts kvs
section
variable {C p nl pd:Addr}{H0 H H':Hp}{m:V}{xs:List V}{ts:List Tri}{kvs:List (List Key×V)}
theorem ShelfAt.same (S:ShelfAt C H p nl pd m xs ts kvs)(s:Same H H'):ShelfAt C H' p nl pd m xs ts kvs:=
 ⟨S.ob.elim λdx e=>⟨dx,s _ _ e⟩,s _ _ S.nd,S.tr.same s,s _ _ S.pl,S.ok⟩
end
structure Zfa (K:W.Frag)(mg:Str->Option Value)(C TM:Addr):Prop where
 cl:Cls K C
 nM:NoAttr K C "most"
 nN:NoAttr K C "nodes"
 nP:NoAttr K C "places"
 mgC:mg "Shelf" = some (.ref C)
section
variable {P:Program}{w:World}{K:W.Frag}{mg:Str->Option Value}{base:Heap}
noncomputable def Zfb (C:Addr):Sp:=λvs H Q _=>∃(p dx:Addr)(m:V),vs=[.ref p,m]/\H p=some (.ins C dx [])/\∀(nl pd:Addr)(H':Hp),H nl=none->H pd=none->nl≠pd->ShelfAt C H' p nl pd m [] [] []->(∀b o,H b=some o->b≠p->H' b=some o)->Q .non H'
theorem Zhn:Gu ["self", "most"] ["self", "most"] (Gg Zb8):=⟨rfl,rfl,rfl,by decide +kernel,rfl,by decide +kernel,by decide +kernel⟩
theorem Zfc {f C TM:Addr}{fd:FuncData}{dV:Value}(F:FunD K "__init__" "Shelf.__init__" Zb8 dV f fd)(T:Zfa K mg C TM):FnOk P w K mg base CX0 1 f fd ["self", "most"] (Zfb C):=by
 refine F.ok Zhn (λvs H Q E h=>?_) (λaa A outer s H vs Q E hr h=>?_)
 ·obtain ⟨p,dx,m,rfl,_⟩:=h
  rfl
 ·obtain ⟨p,dx,m,rfl,hp,q⟩:=h;refine ⟨_,Ge (ZC (pv 0) (pv 1) rfl)
    (Ge (ZC (pv 0) (Gr Gc) rfl)
    (Gi (ZC (pv 0) ZbB rfl))),?_⟩
  refine ⟨_,rfl,_,rfl,p,C,dx,[],rfl,hp,T.cl,T.nM,(by show 0<1000;decide),?_⟩;have Y:upd H p (.ins C dx (Ue "most" m [])) p=some (.ins C dx (Ue "most" m [])):=Gb;have k1:∀b o,H b=some o->b≠p->upd H p (.ins C dx (Ue "most" m [])) b=some o:=λb o e n=>Gj e n;have Z:∀b,upd H p (.ins C dx (Ue "most" m [])) b=none->H b=none:=λb e=>by
   by_cases z:b=p
   ·rw [z,Y] at e;cases e
   ·rw [Go z] at e;exact e
  generalize upd H p (.ins C dx (Ue "most" m []))=H1 at Y k1 Z ⊢;refine ⟨Yan _,λnl L=>?_⟩;have O:p≠nl:=Gf Y L;refine ⟨_,rfl,p,C,dx,_,rfl,Gj Y O,T.cl,T.nN,(by show 1<1000;decide),?_⟩;intro pd j;have B:p≠pd:=λz=>by rw [z,Gb] at j;cases j
  have U:nl≠pd:=λz=>by rw [z,Go (Ne.symm B),Gb] at j;cases j
  have D:H1 pd=none:=by rw [Go (Ne.symm B),Go (Ne.symm U)] at j;exact j
  refine ⟨_,rfl,p,C,dx,_,rfl,Gj Gb B,T.cl,T.nP,(by simp [Ue];split <;> simp [Ue]),?_⟩;refine q nl pd _ (Z _ L) (Z _ D) U ⟨⟨dx,Gb⟩,?_,.nil,?_,PlOk.nil⟩ λb o e n=>?_
  ·rw [Go (Ne.symm O),Go U,Go (Ne.symm O),Gb]
  ·rw [Go (Ne.symm B),Gb]
  ·have e':=k1 b o e n;rw [Go n,Go (Gf e' D),Go n,Go (Gf e' L)];exact e'
noncomputable def Zfd (C j:Addr):Sp:=λvs H Q E=>∃(p nl pd:Addr)(M:Int)(xs:List V)(ts:List Tri)(kvs:List (List Key×V))(r lo hi:Int),vs=[.ref p,.int r,.int lo,.int hi]/\ShelfAt C H p nl pd (.int M) xs ts kvs/\ts.length<=10000 /\
 (hi=0->Q (.int lo) H)/\(hi≠0->(∀c H',Nd ts c (r,lo,hi)->Same H H'->Q (.int c) H')/\((r,lo,hi) ∉ ts->((ts.length:Int)<M->∀H',Shf C H H' p nl pd (.int M) (ts++[(r,lo,hi)])->Q (.int ((ts.length:Int)+2)) H')/\(¬ (ts.length:Int)<M->∀H',Same H H'->E (.ref j) none H')))
theorem scPut:Gu ["self", "road", "low", "high", "node"] ["self", "road", "low", "high"] (Gg ZdK):=⟨rfl,rfl,rfl,by decide +kernel,rfl,by decide +kernel,by decide +kernel⟩
theorem Zfe {f C TM:Addr}{fd:FuncData}(F:Fun K "put" "Shelf.put" ZdK f fd)(T:Zfa K mg C TM)(ab:mg "TooMany" = some (.ref TM))(ac:ExcC K TM)(D:mg "len" = none):FnOk P w K mg base (CXr P w) 1 f fd ["self", "road", "low", "high"] (Zfd C TM):=by
 refine F.okR scPut (λvs H Q E h=>?_) (λad A outer s H vs Q E hr h=>?_)
 ·obtain ⟨_,_,_,_,_,_,_,_,_,_,rfl,_⟩:=h
  rfl
 ·obtain ⟨p,nl,pd,M,xs,ts,kvs,r,lo,hi,rfl,S,ak,q0,q1⟩:=h;have L:(A.deeper (PyProof.Rows.envOfC "Shelf.put" (Gg ZdK) s.heap.objs.size f ad)).units+1<cLine:=by have:=hr.un;lia
  have am:=Ybe.symm;refine ⟨_,Ge (Jl (Gs U2 (pv 3) Gh (GH _)) (Gi (Gv (pv 2))) GC)
    (Ge (Gp (i:=4) scPut.nd rfl (Or.inl rfl) (Jf (Ga (pv 1) (Ga (pv 2) (Ga (pv 3) Gc)))))
    (Ge (Jl (XY (WT L (pv 4) (OK (pv 0) rfl)) rfl) (Ge (Jl (PW.pt (XZ (Gs Zc1 (OK (pv 0) rfl) Zo (GH _)) (Xp (Gs Zes (Gw (YU K) rfl D Yck (Ga (OK (pv 0) rfl) Gc)) (OK (pv 0) rfl) (GH _))))) (Gi (Zbu (E:=E) rfl WP rfl ab ac (Ga Zek Gc))) GC)
    (Ge (Xu L (OK (pv 0) rfl) (pv 4) (GW JF (Gw (YU K) rfl D Yck (Ga (OK (pv 0) rfl) Gc)) Gh) rfl)
    (Gi (Jn (Um Yco Ycy Ycz G9 (OK (pv 0) rfl) (Ga (pv 4) Gc)))))) GC)
    (Gi (Gv (VD L (OK (pv 0) rfl) (pv 4) (λ_ _=>rfl)))))),?_⟩
  refine ⟨_,rfl,rfl,_,rfl,Ug (λc1=>?_) (λc1=>?_)⟩
  ·have O:hi=0:=V.int.inj (Ych c1);exact ⟨_,rfl,q0 O⟩
  have O:hi≠0:=λz=>c1 (Ybh (Ybi V.int z));obtain ⟨qo,qn⟩:=q1 O;dsimp only [JV];refine ⟨_,rfl,_,rfl,_,rfl,(by show 3<=sizeLine;decide),λt ht=>?_⟩;have Z:Same H (upd H t (.tup [.int r,.int lo,.int hi])):=Same.new ht;have U:upd H t (.tup [.int r,.int lo,.int hi]) t=some (.tup ((U4 (r,lo,hi)).map kV)):=Gb;have j:=S.same Z;generalize upd H t (.tup [.int r,.int lo,.int hi])=H1 at Z U j ⊢;obtain ⟨dx,B⟩:=j.ob;have an:=j.tr.len;have ao:=j.ok.l;dsimp only [GY];cases hv:J8 kvs (U4 (r,lo,hi)) with
  | some v=>
   obtain ⟨c,rfl,hc⟩:=j.ok.s _ _ hv;have dg:DGet H1 pd (.ref t) (some (.int c)):=hv▸DGet.t j.pl U;refine ⟨_,rfl,_,rfl,p,C,dx,_,_,rfl,B,T.cl,T.nP,JI _ _ _,pd,_,rfl,dg,_,rfl,J7 ?_⟩;dsimp only [JV];exact ⟨_,rfl,p,C,dx,_,_,rfl,B,T.cl,T.nP,JI _ _ _,_,rfl,pd,_,rfl,dg,qo c H1 hc Z⟩
  | none=>
   have dg:DGet H1 pd (.ref t) none:=hv▸DGet.t j.pl U;obtain ⟨qM,qE⟩:=qn (j.ok.n _ hv);refine ⟨_,rfl,_,rfl,p,C,dx,_,_,rfl,B,T.cl,T.nP,JI _ _ _,pd,_,rfl,dg,_,rfl,Ox ?_⟩;refine ⟨_,rfl,p,C,dx,_,_,rfl,B,T.cl,T.nM,Xb _ _ _,rfl,_,rfl,Ox ?_⟩;refine ⟨_,rfl,p,C,dx,_,_,rfl,B,T.cl,T.nN,Os _ _ _,nl,_,rfl,.inl (SqL.of j.nd),_,rfl,p,C,dx,_,_,rfl,B,T.cl,T.nM,Xb _ _ _,_,_,rfl,rfl,_,rfl,Ug (λc2=>?_) (λc2=>?_)⟩
   ·have ae:((xs.length:Int))>=M:=Ych c2;exact ⟨by show 1<=sizeLine;rw [Ybe];lia,qE (by lia) H1 Z⟩
   ·have ae:¬ ((xs.length:Int))>=M:=λz=>c2 (Ybh z);dsimp only [JV];refine ⟨_,rfl,p,C,dx,_,_,rfl,B,T.cl,T.nN,Os _ _ _,nl,_,rfl,.inl (SqL.of j.nd),_,_,rfl,rfl,_,rfl,p,C,dx,_,_,rfl,B,T.cl,T.nP,JI _ _ _,_,rfl,pd,_,rfl,DPut.t j.pl U (by lia),?_⟩;have aa:p≠pd:=GZ B j.pl (λz=>by cases z);have Y:nl≠pd:=GZ j.nd j.pl (λz=>by cases z);have ag:p≠nl:=GZ B j.nd (λz=>by cases z);have ah:t≠pd:=GZ U j.pl (λz=>by cases z);have ai:t≠nl:=GZ U j.nd (λz=>by cases z);rw [show (xs.length:Int)=(ts.length:Int) by lia];refine ⟨_,rfl,p,C,dx,_,_,rfl,Gj B aa,T.cl,T.nN,Os _ _ _,.inl ⟨rfl,_,SqL.of (Gj j.nd Y)⟩,_,rfl,nl,_,_,rfl,rfl,Gj j.nd Y,by lia,?_⟩;have aj:=j.ok.add (r,lo,hi);have ev:J8 (JT kvs (U4 (r,lo,hi)) (.int ((ts.length:Int)+2))) (U4 (r,lo,hi))=some (.int ((ts.length:Int)+2)):=by rw [Jy,if_pos rfl]
    have e1:upd (upd H1 pd (.dT (JT kvs (U4 (r,lo,hi)) (.int ((ts.length:Int)+2))))) nl (.lst (xs++[.ref t])) pd=some (.dT (JT kvs (U4 (r,lo,hi)) (.int ((ts.length:Int)+2)))):=Gj Gb (Ne.symm Y);have e2:upd (upd H1 pd (.dT (JT kvs (U4 (r,lo,hi)) (.int ((ts.length:Int)+2))))) nl (.lst (xs++[.ref t])) t=some (.tup ((U4 (r,lo,hi)).map kV)):=Gj (Gj U ah) ai;have e3:upd (upd H1 pd (.dT (JT kvs (U4 (r,lo,hi)) (.int ((ts.length:Int)+2))))) nl (.lst (xs++[.ref t])) p=some (.ins C dx (Za9 (.int M) nl pd)):=Gj (Gj B aa) ag;have t1:∀b ys,H1 b=some (.tup ys)->upd (upd H1 pd (.dT (JT kvs (U4 (r,lo,hi)) (.int ((ts.length:Int)+2))))) nl (.lst (xs++[.ref t])) b=some (.tup ys):=λb ys e=>Gj (Gj e (GZ e j.pl (λz=>by cases z))) (GZ e j.nd (λz=>by cases z));refine ⟨_,rfl,p,C,dx,_,_,rfl,e3,T.cl,T.nP,JI _ _ _,_,rfl,pd,_,rfl,ev▸DGet.t e1 e2,?_⟩;exact qM (by lia) _ ⟨λb o n1 n2 e=>Gj (Gj (Z _ _ e) n2) n1,_,_,⟨dx,e3⟩,Gb,(j.tr.keep t1).snoc e2,e1,aj⟩
end
inductive Pt (κ:Type) where
 | leaf (n:Int)
 | node (r:Int) (lo hi:κ)
inductive Rc {κ:Type}(pf:κ->Pt κ)(s:κ):κ->Prop
 | start:Rc pf s s
 | lo {k:κ} {r:Int} {a b:κ}:Rc pf s k->pf k=.node r a b->Rc pf s a
 | hi {k:κ} {r:Int} {a b:κ}:Rc pf s k->pf k=.node r a b->Rc pf s b
section
variable {P:Program}{w:World}{κ:Type}[DecidableEq κ](G:GK P w κ)
noncomputable def PV (H:Hp)(v:V):Pt κ->Prop
 | .leaf n=>v=.int n
 | .node r lo hi=>∃t bl bh,v=.ref t/\H t=some (.tup [.int r,.ref bl,.ref bh])/\G.At H bl lo/\G.At H bh hi
noncomputable def Zho (pf:κ->Pt κ)(Dom:κ->Prop):Sp:=λvs H Q _=>∃(b:Addr)(k:κ),vs=[.ref b]/\G.At H b k/\Dom k/\∀(v:V)(H':Hp),Same H H'->PV G H' v (pf k)->Q v H'
structure FndG (pf:κ->Pt κ)(s:κ)(H:Hp)(kvs:GKv κ):Prop where
 ks:GKeys G H kvs
 nd:(kvs.map (·.1)).Nodup
 rc:∀p∈kvs,Rc pf s p.1
 pv:∀p∈kvs,PV G H p.2.2 (pf p.1)
end
section
variable {P:Program}{w:World}{κ:Type}[DecidableEq κ]{G:GK P w κ}{H H':Hp}{v:V}{pf:κ->Pt κ}{s:κ}{kvs:GKv κ}
theorem PV.keep {p:Pt κ}(h:PV G H v p)(t:∀b ys,H b=some (.tup ys)->H' b=some (.tup ys)):PV G H' v p:=by
 cases p with
 | leaf n=>exact h
 | node r lo hi=>
  obtain ⟨x,j,B,e,h1,h2,D⟩:=h;exact ⟨x,j,B,e,t _ _ h1,G.keep h2 t,G.keep D t⟩
theorem FndG.keep (F:FndG G pf s H kvs)(t:∀b ys,H b=some (.tup ys)->H' b=some (.tup ys)):FndG G pf s H' kvs:=⟨F.ks.keep t,F.nd,F.rc,λp j=>(F.pv p j).keep t⟩
theorem UO {k:κ}(h:O1 kvs k=none):k ∉ kvs.map (·.1):=by
 intro j;obtain ⟨p,B,rfl⟩:=Yam.mp j;unfold O1 at h;have:=List.find?_eq_none.mp (Ydg.mp h) p B;simp at this
theorem Yx {k:κ}{v:V}(h:O1 kvs k=some v):∃b,(k,b,v)∈kvs:=by
 unfold O1 at h;obtain ⟨p,j,rfl⟩:=Ybn.mp h;have h1:=List.find?_some j;have h2:=List.mem_of_find?_eq_some j;exact ⟨p.2.1,by rw [<-Ych h1];exact h2⟩
theorem ZaL (nd:(kvs.map (·.1)).Nodup){k:κ}{b:Addr}{v:V}(h:(k,b,v)∈kvs):O1 kvs k=some v:=by
 unfold O1
 induction kvs with
 | nil=>cases h
 | cons p kvs ih=>
  rw [Yaq] at nd;obtain ⟨B,D⟩:=List.nodup_cons.mp nd;rcases Yaz.mp h with e | e
  ·rw [<-e];simp
  ·have j:¬ p.1=k:=λz=>B (by rw [z];exact Yam.mpr ⟨_,e,rfl⟩);rw [Ycf];simp only [j,decide_false,Bool.false_eq_true,if_false];exact ih D e
theorem Xc {k:κ}{b:Addr}{v:V}(h:O1 kvs k=none):O1 (kvs++[(k,b,v)]) k=some v:=by
 unfold O1 at h ⊢;rw [List.find?_append,Ydg.mp h];simp
theorem FndG.snoc (F:FndG G pf s H kvs){k:κ}{b:Addr}{v:V}(D:O1 kvs k=none)(L:G.At H b k)(O:Rc pf s k)(U:PV G H v (pf k)):FndG G pf s H (kvs++[(k,b,v)]):=by
 refine ⟨λp j=>?_,?_,λp j=>?_,λp j=>?_⟩
 ·rcases Yah.mp j with h | h
  ·exact F.ks p h
  ·rw [Yai.mp h];exact L
 ·rw [Yak];refine Yca.mpr ⟨F.nd,by simp,λa ha c B=>?_⟩;have B:c=k:=by simpa using B
  rw [B];exact λz=>UO D (z▸ha)
 ·rcases Yah.mp j with h | h
  ·exact F.rc p h
  ·rw [Yai.mp h];exact O
 ·rcases Yah.mp j with h | h
  ·exact F.pv p h
  ·rw [Yai.mp h];exact U
end
noncomputable def Shut {κ:Type}(pf:κ->Pt κ)(s:κ)(ks ws:List κ):Prop:=(s∈ks\/s∈ws)/\∀k∈ks,∀r a b,pf k=.node r a b->(a∈ks\/a∈ws)/\(b∈ks\/b∈ws)
theorem Shut.all {κ:Type}{pf:κ->Pt κ}{s:κ}{ks:List κ}(h:Shut pf s ks []):∀k,Rc pf s k->k∈ks:=by
 intro k j
 induction j with
 | start=>exact h.1.resolve_right (by simp)
 | lo _ e ih=>exact (h.2 _ ih _ _ _ e).1.resolve_right (by simp)
 | hi _ e ih=>exact (h.2 _ ih _ _ _ e).2.resolve_right (by simp)
section
variable {P:Program}{w:World}{K:W.Frag}{mg:Str->Option Value}{base:Heap}{κ:Type}[DecidableEq κ]{G:GK P w κ}{pf:κ->Pt κ}{Dom:κ->Prop}{HF:Hp->Prop}
noncomputable def Zff (G:GK P w κ)(pf:κ->Pt κ)(j:Addr):Sp:=λvs H Q _=>∃(b:Addr)(s:κ)(U:List κ),vs=[.ref b,.ref j]/\G.At H b s/\(∀k,Rc pf s k->k∈U)/\U.length<=100000 /\
 ∀(fo:Addr)(kvs:GKv κ)(H':Hp),Same H H'->H fo=none->H' fo=some (gd G fo kvs)->FndG G pf s H' kvs->(∀k,Rc pf s k->k∈kvs.map (·.1))->kvs.length<=U.length->Q (.ref fo) H'
theorem scPbl:Gu ["start", "parts", "found", "pending", "part"] ["start", "parts"] (Gg Ze2):=⟨rfl,rfl,rfl,by decide +kernel,rfl,by decide +kernel,by decide +kernel⟩
theorem Zfg {f fP:Addr}{fd ap:FuncData}{kp:Nat}{ps:List Str}(F:Fun K "parts_below" "parts_below" Ze2 f fd)(ai:∀{H H':Hp},HF H->Same H H'->HF H')(aq:∀{H:Hp},HF H->FnIn H fP)(a1:Binds K ap ps [])(a2:FnOk P w K mg base CX0 kp fP ap ps (λvs H Q E=>HF H/\Zho G pf Dom vs H Q E))(ar:∀s k,Rc pf s k->Dom s->Dom k)(a3:W.kitOne K (.type "int") (.type "tuple")=some false)(as:mg "isinstance" = none)(au:mg "tuple" = none):FnOk P w K mg base CX0 (kp+1) f fd ["start", "parts"] (λvs H Q E=>(HF H/\∀b s,vs=[.ref b,.ref fP]->G.At H b s->Dom s)/\Zff G pf fP vs H Q E):=by
 refine F.ok scPbl (λvs H Q E h=>?_) (λa4 A outer s H vs Q E hr h=>?_)
 ·obtain ⟨_,_,_,_,rfl,_⟩:=h
  rfl
 ·obtain ⟨⟨aj,av⟩,b,st,U,rfl,hb,hU,aC,qq⟩:=h;have a5:Dom st:=av b st rfl hb;have L:(A.deeper (PyProof.Rows.envOfC "parts_below" (Gg Ze2) s.heap.objs.size f a4)).units+71<cLine:=by have:=hr.un;lia
  have aD:=Ybe.symm;refine ⟨_,Ge (Gp (i:=2) scPbl.nd rfl (Or.inl rfl) (Zay (G:=G)))
    (Ge (Gp (i:=3) scPbl.nd rfl (Or.inl rfl) (Gr (Ga (pv 0) Gc)))
    (Ge (Vs Yci (X2 (pv 3) (λ_=>rfl))
    (Ge (Gp (i:=4) scPbl.nd rfl (Or.inl rfl) (ZeB Yco PySem.F.slot_list_pop PySem.F.type_list_pop ZeC (pv 3)))
    (Gi (Jl (XY (Zaz (G:=G) L (pv 4) (pv 2)) rfl) (Ge (XG (G:=G) L (pv 2) (pv 4) (V1 a2 hr (pv 1) a1 .nil Gz (Ga (pv 4) Gc)) rfl)
    (Gi (Jl (Jh (Gw (Zdf K) rfl as JX (Ga (OX (G:=G) L (pv 2) (pv 4) (λ_ _=>rfl)) (Ga (UH au Jg) Gc)))) (Gi (Jn (Um Yco PySem.F.slot_list_extend PySem.F.type_list_extend Vj (pv 3) (Ga (Uq (Zhd K) (OX (G:=G) L (pv 2) (pv 4) (λ_ _=>rfl)) (Vw Gh) Vv) Gc)))) GC))) GC))))
    (Gi (Gv (pv 2))))),?_⟩
  refine GD (λσ' H'=>∃fo:Addr,σ'=[some (.ref b),some (.ref fP),some (.ref fo),none,none]/\Same H H'/\H fo=none/\H' fo=some (gd G fo ([]:GKv κ))) ?s0 ?f0
  case f0=>exact λj fo aa=>j _ _ ⟨fo,rfl,Same.new aa,aa,Gb⟩
  rintro σ' H1 ⟨fo,rfl,s1,aa,ef⟩;refine GD (λσ' H'=>∃B:Addr,σ'=[some (.ref b),some (.ref fP),some (.ref fo),some (.ref B),none]/\Same H1 H'/\H1 B=none/\H' B=some (.lst [.ref b])) ?s1 ?f1
  case f1=>exact λj=>⟨_,rfl,(by show 1<=sizeLine;decide),λB ab=>j _ _ ⟨B,rfl,Same.new ab,ab,Gb⟩⟩
  rintro σ' H2 ⟨B,rfl,s2,ab,ep⟩;have ak:B≠fo:=Ne.symm (Gf ef ab);have aw:H B=none:=s1.free ab;refine GD (λσ' H'=>∃(kvs:GKv κ)(v4:Option V),σ'=[some (.ref b),some (.ref fP),some (.ref fo),some (.ref B),v4]/\Same H H'/\H' fo=some (gd G fo kvs)/\FndG G pf st H' kvs/\Shut pf st (kvs.map (·.1)) []) ?s2 ?f2
  case s2=>
   rintro σ' H3 ⟨kvs,v4,rfl,s3,e3,F3,sh⟩;have hl:kvs.length<=U.length:=by
    have:=Yct F3.nd (l₂:=U) λk j=>by
     obtain ⟨p,D,rfl⟩:=Yam.mp j;exact hU _ (F3.rc p D)
    rwa [Yab] at this
   exact ⟨_,rfl,qq fo kvs H3 s3 aa e3 F3 sh.all hl⟩
  case f2=>
   intro j;refine ⟨λm σ' H'=>∃(kvs:GKv κ)(bs:List (Addr×κ))(v4:Option V),σ'=[some (.ref b),some (.ref fP),some (.ref fo),some (.ref B),v4]/\Same H H'/\H' fo=some (gd G fo kvs)/\H' B=some (.lst (bs.map λz=>V.ref z.1))/\FndG G pf st H' kvs/\(∀z∈bs,G.At H' z.1 z.2/\Rc pf st z.2)/\Shut pf st (kvs.map (·.1)) (bs.map (·.2))/\m=3 * (U.length-kvs.length)+bs.length/\bs.length<=1+2 * kvs.length,
    ⟨_,[],[(b,st)],none,rfl,s1.trans s2,s2 _ _ ef,ep,⟨λp D=>(by cases D),Ycv,λp D=>(by cases D),λp D=>(by cases D)⟩,λz hz=>by rw [Yai.mp hz];exact ⟨G.keep hb λp ys e=>s2 _ _ (s1 _ _ e),.start⟩,⟨.inr (by simp),λk j=>(by cases j)⟩,rfl,by simp⟩,?_⟩
   rintro m σ' H3 ⟨kvs,bs,v4,rfl,s3,e3,ac,F3,am,sh,rfl,ag⟩;have aE:kvs.length<=U.length:=by
    have:=Yct F3.nd (l₂:=U) λk j=>by
     obtain ⟨p,D,rfl⟩:=Yam.mp j;exact hU _ (F3.rc p D)
    rwa [Yab] at this
   by_cases ax:bs=[]
   ·subst ax;refine ⟨_,rfl,false,.inl ⟨_,SqL.of ac,rfl⟩,J7 ?_⟩;exact j _ _ ⟨kvs,v4,rfl,s3,e3,F3,sh⟩
   ·obtain ⟨cs,z,rfl⟩:∃cs z,bs=cs++[z]:=⟨_,_,(List.dropLast_concat_getLast ax).symm⟩;refine ⟨_,rfl,true,.inl ⟨_,SqL.of ac,by simp⟩,Ox ?_⟩;refine ⟨_,λ_ _ h=>h,?_⟩;obtain ⟨Y,ad⟩:=am z (by simp);refine ⟨_,rfl,.inl ⟨rfl,_,SqL.of ac⟩,B,_,.ref z.1,rfl,rfl,ac,by simp,?_⟩;have a6:((cs++[z]).map λz=>V.ref z.1).dropLast=cs.map λz=>V.ref z.1:=by rw [Yak];simp
    rw [a6];have t4:∀p ys,H3 p=some (.tup ys)->upd H3 B (.lst (cs.map λz=>V.ref z.1)) p=some (.tup ys):=Jx ac;have s4:Same H (upd H3 B (.lst (cs.map λz=>V.ref z.1))):=s3.put aw;have e4:upd H3 B (.lst (cs.map λz=>V.ref z.1)) fo=some (gd G fo kvs):=Gj e3 (Ne.symm ak);have an:upd H3 B (.lst (cs.map λz=>V.ref z.1)) B=some (.lst (cs.map λz=>V.ref z.1)):=Gb;have F4:=F3.keep t4;have Y:=G.keep Y t4;have ah:∀y∈cs,G.At (upd H3 B (.lst (cs.map λz=>V.ref z.1))) y.1 y.2/\Rc pf st y.2:=λy hy=>⟨G.keep (am y (by simp [hy])).1 t4,(am y (by simp [hy])).2⟩;generalize upd H3 B (.lst (cs.map λz=>V.ref z.1))=H4 at s4 e4 an F4 Y ah ⊢;have ay:∀k,k∈(cs++[z]).map (·.2)->k=z.2\/k∈cs.map (·.2):=λk j=>by
     rw [Yak] at j;rcases Yah.mp j with h | h
     ·exact .inr h
     ·exact .inl (by simpa using h)
    dsimp only [GY];refine ⟨_,rfl,_,rfl,fo,O1 kvs z.2,rfl,⟨kvs,z.2,z.1,.inl e4,F4.ks,rfl,Y,rfl⟩,_,rfl,?_⟩;cases hv:O1 kvs z.2 with
    | some v=>
     refine J7 ?_;obtain ⟨b',hm⟩:=Yx hv;have a7:z.2∈kvs.map (·.1):=Yam.mpr ⟨_,hm,rfl⟩;have mv:∀k,(k∈kvs.map (·.1)\/k∈(cs++[z]).map (·.2))->(k∈kvs.map (·.1)\/k∈cs.map (·.2)):=λk h=>h.elim .inl λh=>(ay k h).elim (λe=>.inl (e▸a7)) .inr;exact ⟨3 * (U.length-kvs.length)+cs.length,by rw [Yag,Yat];lia,kvs,cs,_,rfl,s4,e4,an,F4,ah,⟨mv _ sh.1,λk j r a b e=>⟨mv _ (sh.2 k j r a b e).1,mv _ (sh.2 k j r a b e).2⟩⟩,rfl,by rw [Yag,Yat] at ag;lia⟩
    | none=>
     refine Ox ?_;have aF:kvs.length<U.length:=by
      have hn:(kvs.map (·.1)++[z.2]).Nodup:=Yca.mpr ⟨F4.nd,by simp,λa ha c hc=>by
       have hc:c=z.2:=by simpa using hc
       rw [hc];exact λe=>UO hv (e▸ha)⟩
      have:=Yct hn (l₂:=U) λk j=>by
       rcases Yah.mp j with h | h
       ·obtain ⟨p,D,rfl⟩:=Yam.mp h;exact hU _ (F4.rc p D)
       ·rw [Yai.mp h];exact hU _ ad
      rw [Yag,Yab,Yat] at this
      lia
     refine ⟨rfl,aq (ai aj s4),_,rfl,aq (ai aj s4),ai aj s4,z.1,z.2,rfl,Y,ar _ _ ad a5,λv H5 s5 pv=>?_⟩;have F5:=F4.keep λp ys e=>s5 _ _ e;have ao:=G.keep Y λp ys e=>s5 _ _ e;refine ⟨_,rfl,_,rfl,fo,z.1,kvs,z.2,rfl,rfl,s5 _ _ e4,F5.ks,ao,hv,by lia,?_⟩;have a8:fo≠B:=Ne.symm ak;have t6:∀p ys,H5 p=some (.tup ys)->upd H5 fo (gd G fo (kvs++[(z.2,z.1,v)])) p=some (.tup ys):=λp ys e=>Gj e (GZ e (s5 _ _ e4) (λz=>by cases z));have s6:Same H (upd H5 fo (gd G fo (kvs++[(z.2,z.1,v)]))):=(s4.trans s5).put aa;have e6:upd H5 fo (gd G fo (kvs++[(z.2,z.1,v)])) fo=some (gd G fo (kvs++[(z.2,z.1,v)])):=Gb;have Z:upd H5 fo (gd G fo (kvs++[(z.2,z.1,v)])) B=some (.lst (cs.map λz=>V.ref z.1)):=Gj (s5 _ _ an) ak;have F6:=(F5.snoc hv ao ad pv).keep t6;have az:=G.keep ao t6;have ae:=pv.keep t6;have O:∀y∈cs,G.At (upd H5 fo (gd G fo (kvs++[(z.2,z.1,v)]))) y.1 y.2/\Rc pf st y.2:=λy hy=>⟨G.keep (G.keep (ah y hy).1 λp ys e=>s5 _ _ e) t6,(ah y hy).2⟩;dsimp only [JV];change ZhD _ _ _ _ _ (upd H5 fo (gd G fo (kvs++[(z.2,z.1,v)])));generalize upd H5 fo (gd G fo (kvs++[(z.2,z.1,v)]))=H6 at s6 e6 Z F6 az ae O ⊢;have gg:Y8 G H6 fo (.ref z.1) (some v):=⟨_,z.2,z.1,.inl e6,F6.ks,rfl,az,(Xc hv).symm⟩;have mv:∀k,(k∈kvs.map (·.1)\/k∈(cs++[z]).map (·.2))->(k∈(kvs++[(z.2,z.1,v)]).map (·.1)\/k∈cs.map (·.2)):=λk h=>by
      rw [Yak];rcases h with h | h
      ·exact .inl (Ydb _ h)
      ·rcases ay k h with rfl | h
       ·exact .inl (Ycc _ (by simp))
       ·exact .inr h
     cases D:pf z.2 with
     | leaf n=>
      rw [D] at ae;have ev:v=.int n:=ae;subst ev;refine ⟨_,rfl,_,rfl,fo,_,rfl,gg,_,_,false,rfl,⟨_,rfl,J7 ?_⟩,.inl ⟨_,.int _,rfl,a3⟩⟩;refine ⟨3 * (U.length-(kvs++[(z.2,z.1,V.int n)]).length)+cs.length,by rw [Yag,Yag,Yat,Yat];lia,_,cs,_,rfl,s6,e6,Z,F6,O,⟨mv _ sh.1,λk j r a b e=>?_⟩,rfl,by rw [Yag,Yat] at ag ⊢;lia⟩;rw [Yak] at j;rcases Yah.mp j with h | h
      ·exact ⟨mv _ (sh.2 k h r a b e).1,mv _ (sh.2 k h r a b e).2⟩
      ·have:k=z.2:=by simpa using h
       rw [this,D] at e;cases e
     | node r lo hi=>
      rw [D] at ae;obtain ⟨t,bl,bh,rfl,et,a9,aA⟩:=ae;refine ⟨_,rfl,_,rfl,fo,_,rfl,gg,_,_,true,rfl,⟨_,rfl,Ox ?_⟩,.inl ⟨_,.tup et,rfl,Ol⟩⟩;refine ⟨_,rfl,.inl ⟨rfl,_,SqL.of Z⟩,_,rfl,_,rfl,fo,_,rfl,gg,_,rfl,t,_,rfl,SqT.of et,?_,λq hq=>?_⟩
      ·rintro ⟨zz,_⟩;rw [show (some (1:Int))=some ((1:Nat):Int) from rfl,HT.sIx_nat] at zz;simp at zz
      ·have ec:YQ [V.int r,.ref bl,.ref bh] (some 1) none=[V.ref bl,.ref bh]:=rfl;rw [ec];have s7:Same H6 (upd H6 q (.tup [.ref bl,.ref bh])):=Same.new hq;refine ⟨B,q,_,_,rfl,rfl,s7 _ _ Z,Gb,by rw [Yab];show cs.length+2<=sizeLine;rw [Yag,Yat] at ag;lia,?_⟩;have aG:B≠q:=Gf Z hq;have t8:∀p ys,upd H6 q (.tup [.ref bl,.ref bh]) p=some (.tup ys)->upd (upd H6 q (.tup [.ref bl,.ref bh])) B (.lst ((cs.map λz=>V.ref z.1)++[.ref bl,.ref bh])) p=some (.tup ys):=Jx (s7 _ _ Z);have t9:∀p ys,H6 p=some (.tup ys)->upd (upd H6 q (.tup [.ref bl,.ref bh])) B (.lst ((cs.map λz=>V.ref z.1)++[.ref bl,.ref bh])) p=some (.tup ys):=λp ys e=>t8 p ys (s7 _ _ e);refine ⟨3 * (U.length-(kvs++[(z.2,z.1,V.ref t)]).length)+(cs++[(bl,lo),(bh,hi)]).length,by rw [Yag,Yag,Yag,Yat,Yat];show _+(cs.length+2)<_;lia,_,cs++[(bl,lo),(bh,hi)],_,rfl,(s6.trans s7).put aw,Gj (s7 _ _ e6) a8,by rw [Gb,Yak];rfl,F6.keep t9,λy hy=>?_,⟨?_,λk j r' a b' e=>?_⟩,rfl,?_⟩
       ·rcases Yah.mp hy with h | h
        ·exact ⟨G.keep (O y h).1 t9,(O y h).2⟩
        ·simp at h;rcases h with rfl | rfl
         ·exact ⟨G.keep a9 t9,.lo ad D⟩
         ·exact ⟨G.keep aA t9,.hi ad D⟩
       ·exact (mv _ sh.1).imp id λh=>by rw [Yak];exact Ydb _ h
       ·have up:∀k,(k∈(kvs++[(z.2,z.1,V.ref t)]).map (·.1)\/k∈cs.map (·.2))->(k∈(kvs++[(z.2,z.1,V.ref t)]).map (·.1)\/k∈(cs++[(bl,lo),(bh,hi)]).map (·.2)):=λk h=>h.imp id λh=>by rw [Yak];exact Ydb _ h
        rw [Yak] at j;rcases Yah.mp j with h | h
        ·exact ⟨up _ (mv _ (sh.2 k h r' a b' e).1),up _ (mv _ (sh.2 k h r' a b' e).2)⟩
        ·have aB:k=z.2:=by simpa using h
         rw [aB,D] at e;cases e;exact ⟨.inr (by simp),.inr (by simp)⟩
       ·rw [Yag,Yag,Yat];rw [Yag,Yat] at ag;show cs.length+2<=_
        lia
end
inductive Zba {κ:Type}(pf:κ->Pt κ):κ->List Int->Prop
 | one {k:κ}:pf k=.leaf 1->Zba pf k []
 | lo {k a b:κ} {r:Int} {s:List Int}:pf k=.node r a b->Zba pf a s->Zba pf k s
 | hi {k a b:κ} {r:Int} {s:List Int}:pf k=.node r a b->Zba pf b s->Zba pf k (r::s)
noncomputable def Abv {κ:Type}(pf:κ->Pt κ)(k:κ)(lo:Int):Prop:=∀r a b,pf k=.node r a b->lo<r
structure Zhp {κ:Type}(pf:κ->Pt κ)(s:κ):Prop where
 lf:∀k n,Rc pf s k->pf k=.leaf n->n=0\/n=1
 nd:∀k r a b,Rc pf s k->pf k=.node r a b->(0<=r/\r<30)/\Abv pf a r/\Abv pf b r
structure NumOk {κ:Type}(pf:κ->Pt κ)(ts:List Tri)(k:κ)(c:Int):Prop where
 at_:∀lo,Abv pf k lo->At ts c lo
 has:∀s,Has ts c s↔Zba pf k s
structure ShOk (ts:List Tri):Prop where
 ok:TabOk ts
 nd:ts.Nodup
 hi:∀r∈ts,r.2.2≠0
section
variable {κ:Type}{pf:κ->Pt κ}{ts us:List Tri}{k a b:κ}{c r n ca cb:Int}
theorem ShOk.nil:ShOk []:=⟨TabOk.nil,Ycv,λr h=>by cases h⟩
theorem Zfh {c:Int}{s:List Int}(h:Has ts c s):Has (ts++us) c s:=by
 induction h with
 | one=>exact .one
 | low n _ ih=>exact .low (n.app us) ih
 | high n _ ih=>exact .high (n.app us) ih
theorem Zb9 (T:TabOk ts){c:Int}{s:List Int}(h:Has (ts++us) c s):∀{lo:Int},At ts c lo->Has ts c s:=by
 induction h with
 | one=>exact λ_=>.one
 | low n _ ih=>
  intro lo a;obtain ⟨q,m,_⟩:=a.nd (by have:=n.1;lia);have e:=(m.app us).one n;subst e;exact .low m (ih (T.nd m).2.1)
 | high n _ ih=>
  intro lo a;obtain ⟨q,m,_⟩:=a.nd (by have:=n.1;lia);have e:=(m.app us).one n;subst e;exact .high m (ih (T.nd m).2.2)
theorem Zca (pf:κ->Pt κ)(k:κ):∃lo,Abv pf k lo:=by
 cases h:pf k with
 | leaf n=>exact ⟨0,λr a b e=>by rw [h] at e;cases e⟩
 | node r a b=>exact ⟨r-1,λr' j B e=>by rw [h] at e;cases e;lia⟩
theorem NumOk.app (h:NumOk pf ts k c)(T:TabOk ts):NumOk pf (ts++us) k c:=
 ⟨λlo a=>(h.at_ lo a).app us,λs=>⟨λx=>(h.has s).mp (by obtain ⟨lo,a⟩:=Zca pf k;exact Zb9 T x (h.at_ lo a)),λx=>Zfh ((h.has s).mpr x)⟩⟩
theorem NumOk.leaf (e:pf k=.leaf n)(h:n=0\/n=1):NumOk pf ts k n:=by
 refine ⟨λlo _=>h.imp id .inl,λs=>?_⟩;rw [Has.small (by lia) (by lia)];constructor
 ·rintro ⟨rfl,rfl⟩;exact .one e
 ·intro h';cases h' with
  | one e'=>rw [e] at e';cases e';exact ⟨rfl,rfl⟩
  | lo e' _=>rw [e] at e';cases e'
  | hi e' _=>rw [e] at e';cases e'
theorem NumOk.flat (e:pf k=.node r a b)(ha:Abv pf a r)(na:NumOk pf ts a ca)(nb:NumOk pf ts b 0):NumOk pf ts k ca:=by
 refine ⟨λlo h=>(na.at_ r ha).mono (by have:=h _ _ _ e;lia),λs=>?_⟩;rw [na.has];constructor
 ·exact .lo e
 ·intro h';cases h' with
  | one e'=>rw [e] at e';cases e'
  | lo e' x=>rw [e] at e';cases e';exact x
  | hi e' x=>rw [e] at e';cases e';exact absurd ((nb.has _).mpr x) Has.zero
theorem NumOk.node (e:pf k=.node r a b)(na:NumOk pf ts a ca)(nb:NumOk pf ts b cb)(N:Nd ts c (r,ca,cb)):NumOk pf ts k c:=by
 refine ⟨λlo h=>.inr (.inr ⟨_,N,h _ _ _ e⟩),λs=>?_⟩;constructor
 ·intro h;cases h with
  | one=>exact absurd N.1 (by decide)
  | low n x=>rw [<-N.one n] at x;exact .lo e ((na.has _).mp x)
  | high n x=>
   rw [<-N.one n] at x ⊢;exact .hi e ((nb.has _).mp x)
 ·intro h';cases h' with
  | one e'=>rw [e] at e';cases e'
  | lo e' x=>rw [e] at e';cases e';exact .low N ((na.has _).mpr x)
  | hi e' x=>rw [e] at e';cases e';exact .high N ((nb.has _).mpr x)
theorem ShOk.snoc (S:ShOk ts)(h0:0<=r/\r<30)(ha:Abv pf a r)(j:Abv pf b r)(na:NumOk pf ts a ca)(nb:NumOk pf ts b cb)(B:cb≠0)(D:(r,ca,cb) ∉ ts):ShOk (ts++[(r,ca,cb)]):=by
 refine ⟨S.ok.snoc h0 (na.at_ r ha) (nb.at_ r j),Yca.mpr ⟨S.nd,by simp,λx L y O=>?_⟩,λq U=>?_⟩
 ·rw [Yai.mp O];exact λz=>D (z▸L)
 ·rcases Yah.mp U with h | h
  ·exact S.hi q h
  ·rw [Yai.mp h];exact B
end
section
variable {P:Program}{w:World}{K:W.Frag}{mg:Str->Option Value}{base:Heap}
theorem Fun.okRC {x qual:Str}{st:Stmt}{f c:Addr}{fd:FuncData}{N ps:List Str}{k:Nat}{sp:Sp}(F:Fun K x qual st f fd)(L:fd.code=.ref c)(S:Gu N ps (Gg st))(len:∀vs H Q E,sp vs H Q E->vs.length=ps.length)(O:∀(A:Around)(outer:List Env)(s:Shared)(H:Hp)(vs:List V)(Q:VK)(E:XK),Room k (A.deeper (PyProof.Rows.envOfC qual (Gg st) s.heap.objs.size f (.ref c)))->sp vs H Q E ->
   ∃t,PSs (YM (CXr P w) P w K mg base N qual (Gg st) f (.ref c) A outer s H E) (Gx st) t/\t { nx:=λ_ H'=>Q .non H',rt:=Q } (start N vs) H):FnOk P w K mg base (CXr P w) (k+1) f fd ps sp:=by
 obtain ⟨oc,od,kV,U,pm,an,j,ct,Y,rfl,Z,B⟩:=F.ex;obtain rfl:j=.ref c:=L;exact ZI Z B S len λA outer s H vs Q E hr D=>O A outer s H vs Q E hr D
end
noncomputable def lqD:Str:=Str.ofString "laid_down.<locals>.<lambda>"
noncomputable abbrev LD (tb:Addr)(H:Hp):Prop:=LamSt tb 42 35 lqD H
noncomputable def Uw {κ:Type}:Pt κ->Bool
 | .leaf _=>false
 | .node ..=>true
noncomputable def rdP {κ:Type}:Pt κ->Int
 | .leaf _=>0
 | .node r _ _=>r
structure Grw {κ:Type}(pf:κ->Pt κ)(s:κ)(ts0 ts:List Tri):Prop where
 pre:∃us,ts=ts0++us
 sh:ShOk ts
 own:∀c r,Nd ts c r->c<ts0.length+2\/∃k,Rc pf s k/\NumOk pf ts k c
section
variable {P:Program}{w:World}{κ:Type}[DecidableEq κ](G:GK P w κ)
structure NV (pf:κ->Pt κ)(ts:List Tri)(done:κ->Prop)(kvs:GKv κ)(H:Hp)(nvs:GKv κ):Prop where
 ks:GKeys G H nvs
 nd:(nvs.map (·.1)).Nodup
 nm:∀q∈nvs,∃c:Int,q.2.2=.int c/\NumOk pf ts q.1 c
 le:∀q∈nvs,done q.1/\q.1∈kvs.map (·.1)
 al:∀q∈kvs,done q.1->∃c:Int,O1 nvs q.1=some (.int c)/\NumOk pf ts q.1 c
end
section
variable {P:Program}{w:World}{κ:Type}[DecidableEq κ]{G:GK P w κ}{H H':Hp}{pf:κ->Pt κ}{s:κ}{kvs nvs:GKv κ}{ts:List Tri}{done done':κ->Prop}
theorem NV.keep (N:NV G pf ts done kvs H nvs)(t:∀b ys,H b=some (.tup ys)->H' b=some (.tup ys)):NV G pf ts done kvs H' nvs:=⟨N.ks.keep t,N.nd,N.nm,N.le,N.al⟩
theorem NV.len (N:NV G pf ts done kvs H nvs):nvs.length<=kvs.length:=by
 have:=Yct N.nd (l₂:=kvs.map (·.1)) λk j=>by
  obtain ⟨q,B,rfl⟩:=Yam.mp j;exact (N.le q B).2
 rwa [Yab,Yab] at this
theorem NV.none (N:NV G pf ts done kvs H nvs){k:κ}(h:¬ done k):O1 nvs k=none:=by
 cases e:O1 nvs k with
 | none=>rfl
 | some v=>
  obtain ⟨b,j⟩:=Yx e;exact absurd (N.le _ j).1 h
theorem NV.like (N:NV G pf ts done kvs H nvs)(h:∀k∈kvs.map (·.1),done k↔done' k):NV G pf ts done' kvs H nvs:=
 ⟨N.ks,N.nd,N.nm,λq j=>⟨(h _ (N.le q j).2).mp (N.le q j).1,(N.le q j).2⟩,λq j d=>N.al q j ((h _ (Yam.mpr ⟨q,j,rfl⟩)).mpr d)⟩
theorem NV.app (N:NV G pf ts done kvs H nvs)(T:TabOk ts)(us:List Tri):NV G pf (ts++us) done kvs H nvs:=
 ⟨N.ks,N.nd,λq j=>(N.nm q j).elim λc h=>⟨c,h.1,h.2.app T⟩,N.le,λq j d=>(N.al q j d).elim λc h=>⟨c,h.1,h.2.app T⟩⟩
theorem Zcb {k:κ}{v:V}{us:GKv κ}(h:O1 nvs k=some v):O1 (nvs++us) k=some v:=by
 unfold O1 at h ⊢;rw [List.find?_append];obtain ⟨p,j,rfl⟩:=Ybn.mp h;rw [j]
 rfl
theorem NV.snoc (N:NV G pf ts done kvs H nvs){k:κ}{b:Addr}{c:Int}(O:G.At H b k)(U:¬ done k)(Y:k∈kvs.map (·.1))(D:NumOk pf ts k c):NV G pf ts (λx=>done x\/x=k) kvs H (nvs++[(k,b,.int c)]):=by
 have L:=N.none U;refine ⟨λp Z=>?_,?_,λq j=>?_,λq j=>?_,λq j d=>?_⟩
 ·rcases Yah.mp Z with h | h
  ·exact N.ks p h
  ·rw [Yai.mp h];exact O
 ·rw [Yak];refine Yca.mpr ⟨N.nd,by simp,λa ha d B=>?_⟩;have B:d=k:=by simpa using B
  rw [B];exact λz=>UO L (z▸ha)
 ·rcases Yah.mp j with h | h
  ·exact N.nm q h
  ·rw [Yai.mp h];exact ⟨c,rfl,D⟩
 ·rcases Yah.mp j with h | h
  ·exact ⟨.inl (N.le q h).1,(N.le q h).2⟩
  ·rw [Yai.mp h];exact ⟨.inr rfl,Y⟩
 ·by_cases e:q.1=k
  ·rw [e];exact ⟨c,Xc L,D⟩
  ·obtain ⟨c',h1,h2⟩:=N.al q j (d.resolve_right e);exact ⟨c',Zcb h1,h2⟩
theorem Grw.refl {j:List Tri}(S:ShOk j):Grw pf s j j:=⟨⟨[],by simp⟩,S,λc r n=>.inl n.lt⟩
theorem Grw.snoc {j:List Tri}{k a b:κ}{r ca cb:Int}(D:Grw pf s j ts)(B:Rc pf s k)(e:pf k=.node r a b)(h0:0<=r/\r<30)(ha:Abv pf a r)(L:Abv pf b r)(na:NumOk pf ts a ca)(nb:NumOk pf ts b cb)(O:cb≠0)(U:(r,ca,cb) ∉ ts):Grw pf s j (ts++[(r,ca,cb)])/\NumOk pf (ts++[(r,ca,cb)]) k ((ts.length:Int)+2):=by
 have N:NumOk pf (ts++[(r,ca,cb)]) k ((ts.length:Int)+2):=NumOk.node e (na.app D.sh.ok) (nb.app D.sh.ok) (Nd.last ts _);refine ⟨⟨D.pre.elim λus h=>⟨us++[(r,ca,cb)],by rw [h,Ybg]⟩,D.sh.snoc h0 ha L na nb O U,λc q n=>?_⟩,N⟩;by_cases Z:c<(ts.length:Int)+2
 ·have Y:Nd ts c q:=⟨n.1,by
   have:=n.2;have h1:=n.1
   rwa [Ybp (by lia)] at this⟩
  exact (D.own c q Y).imp id λ⟨k,h1,h2⟩=>⟨k,h1,h2.app D.sh.ok⟩
 ·have:=n.lt;rw [Yag,Yat] at this;exact .inr ⟨k,B,by rw [show c=(ts.length:Int)+2 by lia];exact N⟩
end
section
variable {P:Program}{w:World}{K:W.Frag}{mg:Str->Option Value}{base:Heap}{κ:Type}[DecidableEq κ]{G:GK P w κ}{pf:κ->Pt κ}{Dom:κ->Prop}
noncomputable def FrD (nl pd tb:Addr)(H H':Hp):Prop:=∀b o,b≠nl->b≠pd->b≠tb->H b=some o->H' b=some o
noncomputable def Zfi (G:GK P w κ)(pf:κ->Pt κ)(Dom:κ->Prop)(HF:Hp->Prop)(j C B tb:Addr):Sp:=λvs H Q E=>∃(b p nl pd:Addr)(s:κ)(U Un:List κ)(M:Int)(xs0:List V)(ts0:List Tri)(kv0:List (List Key×V)),vs=[.ref b,.ref j,.ref p]/\HF H/\G.At H b s/\Dom s/\(∀k,Rc pf s k->k∈U)/\(∀k,Rc pf s k->Uw (pf k)=true->k∈Un)/\ts0.length+U.length<=10000/\Zhp pf s/\LD tb H /\
 ShelfAt C H p nl pd (.int M) xs0 ts0 kv0/\ShOk ts0 /\
 (∀(c:Int)(xs:List V)(ts:List Tri)(kvs:List (List Key×V))(H':Hp),FrD nl pd tb H H'->LD tb H'->ShelfAt C H' p nl pd (.int M) xs ts kvs->Grw pf s ts0 ts->ts.length<=ts0.length+Un.length->((ts.length:Int)<=M\/ts=ts0)->(∀k,Rc pf s k->∃c,NumOk pf ts k c)->NumOk pf ts s c->Q (.int c) H') /\
 (∀(ts:List Tri)(H':Hp),FrD nl pd tb H H'->LD tb H'->Grw pf s ts0 ts->M<ts.length->ts.length<=ts0.length+Un.length->E (.ref B) none H')
theorem scLdn:Gu ["start", "parts", "shelf", "numbers", "part", "rising", "road", "low", "high", "found"] ["start", "parts", "shelf"] (Gg Zd9):=⟨rfl,rfl,rfl,by decide +kernel,rfl,by decide +kernel,by decide +kernel⟩
theorem Zii {X:Cx}{o i:Expr}{td ty:TE}{pos:Pos}(j:PE X o td)(hi:PE X i ty)(B:Zgq i)(D:X.prog=P:=by rfl)(L:X.w=w:=by rfl)(O:X.A.units+71<cLine:=by assumption):PE X (.Subscript o i pos) (ZhR G td ty):=by
 subst D L;exact OX O j hi B
theorem Vl {T:Addr}{j col:Nat}{qual:Str}{H H':Hp}(h:LamSt T j col qual H)(k:∀b o,((∃ps,o=.tbl ps)\/∃B,o=.frz B (.own b))->H b=some o->H' b=some o):LamSt T j col qual H':=by
 rcases h with e | ⟨c,e,B,D,L⟩
 ·exact .inl (k _ _ (.inl ⟨_,rfl⟩) e)
 ·exact .inr ⟨c,k _ _ (.inl ⟨_,rfl⟩) e,B,k _ _ (.inr ⟨_,rfl⟩) D,L⟩
theorem Zcc {B:GKv κ}(O:B.Pairwise λa b=>rdP (pf b.1)<=rdP (pf a.1)){i:Nat}{q D:κ×Addr×V}(hi:B[i]?=some q)(U:D∈B)(Y:rdP (pf q.1)<rdP (pf D.1)):D∈B.take i:=by
 obtain ⟨j,Z,e⟩:=Yel U;obtain ⟨hi',L⟩:=Yaj.mp hi;by_cases h:j<i
 ·exact List.mem_take_iff_getElem.mpr ⟨j,by lia,e⟩
 ·by_cases h2:i=j
  ·subst h2;rw [<-e,L] at Y
   lia
  ·have:=Ydf.mp O i j hi' Z (by lia);rw [e,L] at this
   lia
theorem UP {k:κ}(h:Uw (pf k)=true):∃r a b,pf k=.node r a b:=by
 cases e:pf k with
 | leaf n=>rw [e] at h;cases h
 | node r a b=>exact ⟨r,a,b,rfl⟩
theorem ZaM {α:Type}{xs:List α}{i:Nat}{x:α}(p:α->Bool)(h:xs[i]?=some x):(xs.take (i+1)).filter p=if p x=true then (xs.take i).filter p++[x] else (xs.take i).filter p:=by
 rw [Ybs,h,Option.toList_some,Ydm];by_cases e:p x=true
 ·rw [if_pos e];simp [e]
 ·rw [if_neg e];simp [e]
theorem Zfj {HF:Hp->Prop}{f c tb fP a3 av C TM:Addr}{fd ag ah:FuncData}{kp:Nat}(F:Fun K "laid_down" "laid_down" Zd9 f fd)(hc:fd.code=.ref c)(hC:W.CodeHd base c tb)(aW:base.BuiltinsAt mg tb)(aX:Fun K "parts_below" "parts_below" Ze2 a3 ag)(aY:Binds K ag ["start", "parts"] [])(aZ:mg "parts_below" = some (.ref a3))(ba:FnOk P w K mg base CX0 (kp+1) a3 ag ["start", "parts"] (λvs H Q E=>(HF H/\∀b s,vs=[.ref b,.ref fP]->G.At H b s->Dom s)/\Zff G pf fP vs H Q E))(inj:∀{H:Hp}{b:Addr}{k k':κ},G.At H b k->G.At H b k'->k=k')(TS:Zfa K mg C TM)(aA:ZgX K C "put" av)(aB:Binds K ah ["self", "road", "low", "high"] [])(aC:FnOk P w K mg base (CXr P w) 1 av ah ["self", "road", "low", "high"] (Zfd C TM))(bb:W.kitOne K (.type "int") (.type "tuple")=some false)(aD:W.kitOne K (.type "tuple") (.type "int")=some false)(aw:mg "isinstance" = none)(aE:mg "tuple" = none)(aF:mg "int" = none)(aG:mg "sorted" = none) :
  FnOk P w K mg base (CXr P w) (kp+2) f fd ["start", "parts", "shelf"] (Zfi G pf Dom HF fP C TM tb):=by
 refine Fun.okRC F hc scLdn (λvs H Q E h=>?_) (λA outer s H vs Q E hr h=>?_)
 ·obtain ⟨_,_,_,_,_,_,_,_,_,_,_,rfl,_⟩:=h
  rfl
 ·obtain ⟨b,p,nl,pd,st,U,Un,M,a4,Y,a5,rfl,bc,hb,bd,hU,be,bF,PO,ld,S0,bf,qq,qe⟩:=h;have L:(A.deeper (PyProof.Rows.envOfC "laid_down" (Gg Zd9) s.heap.objs.size f (.ref c))).units+71<cLine:=by have:=hr.un;lia
  have aH:(A.deeper (PyProof.Rows.envOfC "laid_down" (Gg Zd9) s.heap.objs.size f (.ref c))).units+80<cLine:=by have:=hr.un;lia
  have qG:=hr.depth;have bG:=Ybe.symm;refine ⟨_,Ge (Gp (i:=9) scLdn.nd rfl (Or.inr rfl) (Gk ba hr rfl aZ aX.kp aY .nil Gz (Ga (pv 0) (Ga (pv 1) Gc))))
    (Ge (Gp (i:=3) scLdn.nd rfl (Or.inl rfl) (Zay (G:=G)))
    (Ge (JK PassesOwn.leaving rfl (Ys (G:=G) (pv 9)) (Gn (i:=4) scLdn.nd rfl (Or.inl rfl))
    (Gi (Jl (Jh (Gw (Zdf K) rfl aw JX (Ga (OX (G:=G) L (pv 9) (pv 4) (λ_ _=>rfl)) (Ga (UH aF VC) Gc)))) (Gi (XG (G:=G) L (pv 3) (pv 4) (OX (G:=G) L (pv 9) (pv 4) (λ_ _=>rfl)) rfl)) GC)))
    (Ge (VA (i:=5) scLdn.nd rfl (Or.inl rfl) (own:=["part"]) rfl (Gm (fr:=[("found", 9)]) [(".0", .local),("part", .local),("isinstance", .globalImplicit),("tuple", .globalImplicit),("found", .cell)] rfl rfl (by decide +kernel) rfl (by decide +kernel) ⟨rfl,trivial⟩ ⟨λh=>GQ h,λh=>GQ h,λh=>GQ h,λh=>GQ h,λ_=>⟨_,rfl⟩,trivial⟩ ⟨⟨rfl,.inl rfl,.inl rfl⟩,trivial⟩) (Ys (G:=G) (pv 9)) (λ_ _ _ _=>Gn (i:=0) (show List.Nodup (["part", "found"]:List Str) by decide +kernel) rfl (Or.inl rfl)) (λ_ _ _ _=>G8 (Jh (Gw (Zdf K) rfl aw JX (Ga (Zii (G:=G) (pv 1) (pv 0) (λ_ _=>rfl)) (Ga (UH aE Jg) Gc))))) (λ_ _ _ _=>pv 0))
    (Ge (JK PassesOwn.leaving rfl (Jv K (Y4 (Zc (G:=G) (K:=K) (j:=9) (x:=Str.ofString "part") (y:=Str.ofString "found") (cc:=s.heap.objs.size+1) (qual:=Str.ofString "laid_down.<locals>.<lambda>") (params:={ posonlyargs:=[],args:=[{ arg := "part", annotation:=none,pos:=⟨42,42,42,46⟩:PySem.Arg }],vararg:=none,kwonlyargs:=[],kw_defaults:=[],kwarg:=none,defaults:=[]:PySem.Arguments }) (pm:=(mg "__name__").getD .none) (scope:={ kind:=PySem.ScopeKind.function,names:=[(PySem.Str.ofString "part", PySem.NameKind.local),(PySem.Str.ofString "found", PySem.NameKind.free)],isGenerator:=false,isCoroutine:=false,more:=[]:PySem.Scope }) (p1:=⟨42,48,42,53⟩) (p2:=⟨42,54,42,58⟩) (p5:=⟨42,48,42,59⟩) (p6:=⟨42,60,42,61⟩) (p7:=⟨42,48,42,62⟩) (d2:=0) rfl qG aH rfl (Or.inr (Or.inl rfl)) rfl rfl rfl rfl rfl (λ_ _ _=>rfl) rfl rfl (by decide +kernel) (by decide) (by decide) (by decide)) rfl aG PyProof.Rows.boot_sorted (Ga (pv 5) Gc) (ZG (ZeT (qual:=Str.ofString "laid_down.<locals>.<lambda>") (clos:=[(Str.ofString "found", s.heap.objs.size+1)]) rfl rfl hC aW rfl) (ZG Ow Zew)))) (Gn (i:=4) scLdn.nd rfl (Or.inl rfl))
    (Ge (Ws (OX (G:=G) L (pv 9) (pv 4) (λ_ _=>rfl)) (ZeI K (n:=3) rfl (Jb (Gn (i:=6) scLdn.nd rfl (Or.inl rfl)) (Jb (Gn (i:=7) scLdn.nd rfl (Or.inl rfl)) (Jb (Gn (i:=8) scLdn.nd rfl (Or.inl rfl)) UA)))))
    (Gi (XG (G:=G) L (pv 3) (pv 4) (Zc5 (pv 2) TS.cl aA aC (hr.mono (by lia)) aB .nil ZeK (Ga (pv 6) (Ga (OX (G:=G) L (pv 3) (pv 7) (λ_ _=>rfl)) (Ga (OX (G:=G) L (pv 3) (pv 8) (λ_ _=>rfl)) Gc)))) rfl))))
    (Gi (Gv (OX (G:=G) L (pv 3) (pv 0) (λ_ _=>rfl)))))))),?_⟩
  refine ⟨_,rfl,_,rfl,⟨bc,λb' s' e ai=>?_⟩,b,st,U,rfl,hb,hU,by lia,λfo kvs H1 s1 bg ef F1 a6 bH=>?_⟩
  ·have e1:b=b':=by
    have:=Ybi (·[0]?) e;exact V.ref.inj (Ybo this)
   rw [inj ai (e1▸hb)];exact bd
  have bi:LD tb H1:=ld.same s1;have S1:=S0.same s1;have a7:∀q∈kvs,Rc pf st q.1:=F1.rc;dsimp only [GY];intro B an;have ao:fo≠B:=Gf ef an;have aI:upd H1 B (gd G B ([]:GKv κ)) fo=some (gd G fo kvs):=Gj ef ao;have aJ:upd H1 B (gd G B ([]:GKv κ)) B=some (gd G B ([]:GKv κ)):=Gb;have s2:Same H1 (upd H1 B (gd G B ([]:GKv κ))):=Same.new an;dsimp only [GY];change Zgm _ _ _ _ (upd H1 B (gd G B ([]:GKv κ)));generalize upd H1 B (gd G B ([]:GKv κ))=H2 at aI aJ s2 ⊢;have gK:∀{H':Hp},(∀a u,a≠fo->H1 a=some u->H' a=some u)->∀a ys,H1 a=some (.tup ys)->H' a=some (.tup ys):=λk a ys e=>k a _ (GZ e ef (λz=>by cases z)) e;have gG:∀{H':Hp}{o:Obj}{q:κ×Addr×V},(∀a u,a≠fo->H1 a=some u->H' a=some u)->H' fo=some (.frz o (gd G fo kvs))->q∈kvs->Y8 G H' fo (.ref q.2.1) (some q.2.2):=λ{H' o q} k e hq=>⟨kvs,q.1,q.2.1,.inr ⟨o,e⟩,F1.ks.keep (gK k),rfl,G.keep (F1.ks q hq) (gK k),(ZaL F1.nd (b:=q.2.1) (v:=q.2.2) hq).symm⟩;refine GD (λσ' H'=>∃(o:Obj)(nvs:GKv κ)(v4:Option V),σ'=[some (.ref b),some (.ref fP),some (.ref p),some (.ref B),v4,none,none,none,none,some (.ref fo)]/\(∀a u,a≠fo->H1 a=some u->H' a=some u)/\H' fo=some (.frz o (gd G fo kvs))/\H' B=some (gd G B nvs)/\NV G pf Y (λk=>Uw (pf k)=false) kvs H' nvs) ?s1 ?f1
  case f1=>
   intro hk;refine ⟨_,rfl,fo,kvs,rfl,.inl ⟨aI,λo=>?_⟩⟩;refine ZaA (G:=G) (a:=fo) (o:=o) (kvs:=kvs) (λi σ' H'=>∃(nvs:GKv κ)(v4:Option V),σ'=[some (.ref b),some (.ref fP),some (.ref p),some (.ref B),v4,none,none,none,none,some (.ref fo)]/\(∀a u,a≠fo->H1 a=some u->H' a=some u)/\H' fo=some (.frz o (gd G fo kvs))/\H' B=some (gd G B nvs)/\NV G pf Y (λk=>k∈(kvs.take i).map (·.1)/\Uw (pf k)=false) kvs H' nvs)
    ⟨[],none,rfl,λa u n e=>Gj (s2 _ _ e) n,Gb,Gj aJ (Ne.symm ao),⟨λq hq=>(by cases hq),Ycv,λq hq=>(by cases hq),λq hq=>(by cases hq),λq hq d=>by have:=d.1;simp at this⟩⟩ (by rintro i σ' H' _ ⟨_,_,_,_,e,_⟩;exact e) ?_ ?_
   ·rintro i k bk v σ' H3 ac ⟨nvs,v4,rfl,k3,Z,aa,N⟩;have hm:(k,bk,v)∈kvs:=Yau ac;have bj:i<kvs.length:=(Yaj.mp ac).1;have gg:Y8 G H3 fo (.ref bk) (some v):=gG k3 Z hm;have pv:=(F1.pv _ hm).keep (gK k3);have tk:(kvs.take (i+1)).map (·.1)=(kvs.take i).map (·.1)++[k]:=by
     rw [Ybs,ac,Yak]
     rfl
    dsimp only [GY];cases O:pf k with
    | leaf n=>
     dsimp only at pv;rw [O] at pv;obtain rfl:v=.int n:=pv;refine ⟨_,rfl,_,rfl,fo,_,rfl,gg,_,_,true,rfl,⟨_,rfl,Ox ?_⟩,.inl ⟨_,.int _,rfl,Ol⟩⟩;have ap:¬ (k∈(kvs.take i).map (·.1)/\Uw (pf k)=false):=λz=>by
      have hz:=F1.nd;rw [<-Ycw (i+1) kvs,Yak,tk] at hz;exact (Yca.mp (Yca.mp hz).1).2.2 k z.1 k (by simp) rfl
     have hl:=N.len;refine ⟨_,rfl,_,rfl,fo,_,rfl,gg,_,rfl,_,rfl,B,bk,nvs,k,rfl,rfl,aa,N.ks,G.keep (F1.ks _ hm) (gK k3),N.none ap,by lia,?_⟩;have t4:∀a ys,H3 a=some (.tup ys)->upd H3 B (gd G B (nvs++[(k,bk,.int n)])) a=some (.tup ys):=λa ys e=>Gj e (GZ e aa (λz=>by cases z));refine ⟨_,_,rfl,λa u n e=>Gj (k3 a u n e) (λz=>by rw [z,an] at e;cases e),Gj Z ao,Gb,?_⟩;refine ((N.snoc (G.keep (F1.ks _ hm) (gK k3)) ap (Yam.mpr ⟨_,hm,rfl⟩) (NumOk.leaf O (PO.lf k n (a7 _ hm) O))).keep t4).like λx _=>?_;rw [tk,Yah,Yai];constructor
     ·rintro (h | rfl)
      ·exact ⟨.inl h.1,h.2⟩
      ·exact ⟨.inr rfl,by rw [O];rfl⟩
     ·rintro ⟨h | rfl,h2⟩
      ·exact .inl ⟨h,h2⟩
      ·exact .inr rfl
    | node r lo hi=>
     dsimp only at pv;rw [O] at pv;obtain ⟨t,bl,bh,rfl,et,_⟩:=pv;refine ⟨_,rfl,_,rfl,fo,_,rfl,gg,_,_,false,rfl,⟨_,rfl,J7 ?_⟩,.inl ⟨_,.tup et,rfl,aD⟩⟩;refine ⟨_,_,rfl,k3,Z,aa,N.like λx _=>?_⟩;rw [tk,Yah,Yai];constructor
     ·rintro ⟨h,h2⟩;exact ⟨.inl h,h2⟩
     ·rintro ⟨h | rfl,h2⟩
      ·exact ⟨h,h2⟩
      ·rw [O] at h2;cases h2
   ·rintro σ' H3 ⟨nvs,v4,rfl,k3,Z,aa,N⟩;refine hk _ _ ⟨o,nvs,v4,rfl,k3,Z,aa,N.like λx hx=>?_⟩;rw [Ybk];exact ⟨λh=>h.2,λh=>⟨hx,h⟩⟩
  rintro σ' H3 ⟨o,ax,v4,rfl,k3,Z,aa,N0⟩;refine GD (λσ' H'=>∃(ri:Addr),σ'=[some (.ref b),some (.ref fP),some (.ref p),some (.ref B),v4,some (.ref ri),none,none,none,some (.ref fo)]/\Same H3 H'/\H3 ri=none/\H' ri=some (.lst ((kvs.filter λq=>Uw (pf q.1)).map λq=>V.ref q.2.1))) ?s2 ?f2
  case f2=>
   intro hk;refine ⟨_,rfl,fo,kvs,rfl,.inr ⟨o,Z,λD hD=>?_⟩⟩;refine Za (G:=G) (a:=fo) (o:=o) (kvs:=kvs) (λi ys H'=>Same H3 H'/\H' D=some (.lst ys)/\ys=((kvs.take i).filter λq=>Uw (pf q.1)).map λq=>V.ref q.2.1) ⟨Same.new hD,Gb,rfl⟩ (by rintro i ys H' _ ⟨s4,_⟩;exact s4 _ _ Z) ?_ ?_
   ·rintro i k bk v ys H4 ac ⟨s4,aj,rfl⟩;have hm:(k,bk,v)∈kvs:=Yau ac;have k4:∀a u,a≠fo->H1 a=some u->H4 a=some u:=λa u n e=>s4 _ _ (k3 a u n e);have gg:Y8 G H4 fo (.ref bk) (some v):=gG k4 (s4 _ _ Z) hm;have pv:=(F1.pv _ hm).keep (gK k4);rw [ZaM _ ac];refine ⟨⟨rfl,trivial⟩,?_⟩;cases O:pf k with
    | leaf n=>
     dsimp only at pv;rw [O] at pv;obtain rfl:v=.int n:=pv;refine ⟨_,rfl,_,rfl,fo,_,rfl,gg,_,_,false,rfl,⟨_,rfl,J7 ?_⟩,.inl ⟨_,.int _,rfl,bb⟩⟩;exact ⟨s4,aj,by simp [O,Uw]⟩
    | node r lo hi=>
     dsimp only at pv;rw [O] at pv;obtain ⟨t,bl,bh,rfl,et,_⟩:=pv;refine ⟨_,rfl,_,rfl,fo,_,rfl,gg,_,_,true,rfl,⟨_,rfl,Ox ?_⟩,.inl ⟨_,.tup et,rfl,Ol⟩⟩;refine ⟨_,rfl,aj,?_,s4.put hD,Gb,by simp [O,Uw]⟩;rw [Yab];have:=Ycr (λq:κ×Addr×V=>Uw (pf q.1)) (kvs.take i);rw [Ybj] at this
     lia
   ·rintro ys H4 ⟨s4,aj,rfl⟩;rw [Ybk] at aj;exact hk _ _ ⟨D,rfl,s4,hD,aj⟩
  rintro σ' H4 ⟨ri,rfl,s4,bJ,bm⟩;have bn:=s4 _ _ Z;have bo:=s4 _ _ aa;have N4:=N0.keep λa ys e=>s4 _ _ e;have k4:∀a u,a≠fo->H1 a=some u->H4 a=some u:=λa u n e=>s4 _ _ (k3 a u n e);have aK:LD tb H4:=Vl bi λa u h e=>k4 a u (λz=>by
   rw [z,ef] at e;rcases h with ⟨_,rfl⟩ | ⟨_,rfl⟩ <;> cases e) e
  have S4:ShelfAt C H4 p nl pd (.int M) a4 Y a5:=⟨S1.ob.elim λdx e=>⟨dx,k4 _ _ (GZ e ef (λz=>by cases z)) e⟩,k4 _ _ (GZ S1.nd ef (λz=>by cases z)) S1.nd,S1.tr.keep (gK k4),k4 _ _ (GZ S1.pl ef (λz=>by cases z)) S1.pl,S1.ok⟩;obtain ⟨bK,eT⟩:=aK.tbl;refine ⟨_,rfl,aK,λfl c' bp H5 sl on bL bq=>?_⟩;obtain ⟨br,oc,aL,aM⟩:=on;have n5:∀a u,(∀ps,u≠.tbl ps)->H4 a=some u->H5 a=some u:=λa u hu e=>sl a u (λz=>by rw [z,eT] at e;exact hu _ (Ybo e).symm) e;have aN:=n5 _ _ (λ_ z=>by cases z) bm;have aO:=n5 _ _ (λ_ z=>by cases z) bn;have bt:=n5 _ _ (λ_ z=>by cases z) bo;have t5:∀a ys,H4 a=some (.tup ys)->H5 a=some (.tup ys):=λa ys e=>n5 a _ (λ_ z=>by cases z) e;have a8:∀a ys,H1 a=some (.tup ys)->H5 a=some (.tup ys):=λa ys e=>t5 a ys (gK k4 a ys e);have S5:ShelfAt C H5 p nl pd (.int M) a4 Y a5:=⟨S4.ob.elim λdx e=>⟨dx,n5 _ _ (λ_ z=>by cases z) e⟩,n5 _ _ (λ_ z=>by cases z) S4.nd,S4.tr.keep t5,n5 _ _ (λ_ z=>by cases z) S4.pl,S4.ok⟩;have gT:∀{H':Hp}{q:κ×Addr×V},(∀a ys,H1 a=some (.tup ys)->H' a=some (.tup ys))->H' fo=some (.frz o (gd G fo kvs))->q∈kvs->Y8 G H' fo (.ref q.2.1) (some q.2.2):=λ{H' q} k e hq=>⟨kvs,q.1,q.2.1,.inr ⟨o,e⟩,F1.ks.keep k,rfl,G.keep (F1.ks q hq) k,(ZaL F1.nd (b:=q.2.1) (v:=q.2.2) hq).symm⟩;refine ⟨ri,fl,c',fo,oc,bp,(kvs.filter λq=>Uw (pf q.1)).map (λq=>(q.2.1,rdP (pf q.1))),rfl,rfl,SqL.of (by rw [Ydh];exact aN),bq,aL,aM,rfl,λu hu=>?_,λl ps hl pm pw=>?_⟩
  ·obtain ⟨q,hq,rfl⟩:=Yam.mp hu;obtain ⟨aP,bu⟩:=Ybq.mp hq;obtain ⟨r,lo,hi,O⟩:=UP bu;have pv:=(F1.pv q aP).keep a8;rw [O] at pv;obtain ⟨t,bl,bh,ev,et,_⟩:=pv;exact ⟨t,[.ref bl,.ref bh],ev▸gT a8 aO aP,by rw [O];exact SqT.of et⟩
  obtain ⟨qs,pq,rfl⟩:=UK pm;rw [Ycq] at pw;have ad:∀q,q∈qs↔q∈kvs/\Uw (pf q.1)=true:=λq=>by rw [pq.mem_iff,Ybq]
  have bM:qs.length<=kvs.length:=by
   rw [pq.length_eq];exact Ycr _ _
  have aQ:(qs.map (·.1)).Nodup:=(pq.map (·.1)).nodup_iff.mpr (F1.nd.sublist (List.filter_sublist.map _));have bN:qs.length<=Un.length:=by
   have:=Yct aQ (l₂:=Un) λk hk=>by
    obtain ⟨q,hq,rfl⟩:=Yam.mp hk;exact be _ (a7 _ ((ad q).mp hq).1) ((ad q).mp hq).2
   rwa [Yab] at this
  rw [Ydh];obtain ⟨H6,q_,s6,ae⟩:=nwU (o:=.lst (qs.map ((λt:Addr×Int=>V.ref t.1)∘λq:κ×Addr×V=>(q.2.1,rdP (pf q.1))))) hl;have ae:H6 l=some (.lst (qs.map λq=>V.ref q.2.1)):=ae;rw [q_];have a9:=s6 _ _ aO;have ab:=s6 _ _ bt;have S6:=S5.same s6;have N6:NV G pf Y (λk=>Uw (pf k)=false) kvs H6 ax:=N4.keep λa ys e=>s6 _ _ (t5 a ys e);have aR:∀a ys,H1 a=some (.tup ys)->H6 a=some (.tup ys):=λa ys e=>s6 _ _ (a8 a ys e);have bv:LD tb H6:=LamSt.same (.inr ⟨c',br,oc,aL,aM⟩) s6;have bw:l≠nl:=λz=>by rw [z,S5.nd] at hl;cases hl
  have bx:l≠B:=GZ ae ab (λz=>by cases z);have bz:l≠pd:=GZ ae S6.pl (λz=>by cases z);have b0:fo≠B:=ao;have b1:fo≠nl:=GZ a9 S6.nd (λz=>by cases z);have b2:fo≠pd:=GZ a9 S6.pl (λz=>by cases z);have ay:B≠nl:=GZ ab S6.nd (λz=>by cases z);have az:B≠pd:=GZ ab S6.pl (λz=>by cases z);have b3:p≠B:=S6.ob.elim λdx e=>GZ e ab (λz=>by cases z);have a1:∀{H':Hp},(∀a u,a≠B->a≠nl->a≠pd->H6 a=some u->H' a=some u)->∀a ys,H6 a=some (.tup ys)->H' a=some (.tup ys):=λk a ys e=>k a _ (GZ e ab (λz=>by cases z)) (GZ e S6.nd (λz=>by cases z)) (GZ e S6.pl (λz=>by cases z)) e;have a2:∀{H':Hp},(∀a u,a≠B->a≠nl->a≠pd->H6 a=some u->H' a=some u)->FrD nl pd tb H H'/\LD tb H':=λ{H'} k=>by
   refine ⟨λa u h1 h2 h3 e=>?_,Vl bv λa u h e=>?_⟩
   ·have e1:=s1 _ _ e;exact k a u (λz=>by rw [z,an] at e1;cases e1) h1 h2 (s6 _ _ (sl a u h3 (k4 a u (λz=>by rw [z,bg] at e;cases e) e1)))
   ·refine k a u (λz=>?_) (λz=>?_) (λz=>?_) e
    ·rw [z,ab] at e;rcases h with ⟨_,rfl⟩ | ⟨_,rfl⟩ <;> cases e
    ·rw [z,S6.nd] at e;rcases h with ⟨_,rfl⟩ | ⟨_,rfl⟩ <;> cases e
    ·rw [z,S6.pl] at e;rcases h with ⟨_,rfl⟩ | ⟨_,rfl⟩ <;> cases e
  refine ⟨l,rfl,⟨_,SqL.of ae⟩,?_⟩;refine JW (K:=K) (a:=l) (xs:=qs.map λq=>V.ref q.2.1) (λi σ' H'=>∃(nvs:GKv κ)(v4 v6 v7 v8:Option V)(xs:List V)(ts:List Tri)(kd:List (List Key×V)),σ'=[some (.ref b),some (.ref fP),some (.ref p),some (.ref B),v4,some (.ref ri),v6,v7,v8,some (.ref fo)]/\(∀a u,a≠B->a≠nl->a≠pd->H6 a=some u->H' a=some u)/\H' B=some (gd G B nvs)/\ShelfAt C H' p nl pd (.int M) xs ts kd/\Grw pf st Y ts/\ts.length<=Y.length+i/\((ts.length:Int)<=M\/ts=Y)/\NV G pf ts (λk=>Uw (pf k)=false\/k∈(qs.take i).map (·.1)) kvs H' nvs)
   ⟨ax,_,none,none,none,a4,Y,a5,rfl,λ_ _ _ _ _ e=>e,ab,S6,Grw.refl bf,Yad _,.inr rfl,N6.like λk _=>⟨.inl,λh=>h.resolve_right (by simp)⟩⟩ (by rintro i σ' H' _ ⟨_,_,_,_,_,_,_,_,_,k,_⟩;exact SqL.of (k _ _ bx bw bz ae)) ?_ ?_
  ·rintro i x σ' H7 aS ⟨nvs,b4,v6,v7,v8,xs,ts,kd,rfl,k7,ak,S7,D,qV,aq,N⟩;rw [Yba] at aS;obtain ⟨⟨k,bk,v⟩,ar,rfl⟩:=Ybn.mp aS;have bj:i<qs.length:=(Yaj.mp ar).1;obtain ⟨hm,ap⟩:=(ad _).mp (Yau ar);have t7:∀a ys,H1 a=some (.tup ys)->H7 a=some (.tup ys):=λa ys e=>a1 k7 a ys (aR a ys e);have b5:=k7 _ _ b0 b1 b2 a9;have gg:Y8 G H7 fo (.ref bk) (some v):=gT t7 b5 hm;have aT:G.At H7 bk k:=G.keep (F1.ks _ hm) t7;obtain ⟨r,lo,hi,O⟩:=UP ap;dsimp only at O;have pv:=(F1.pv _ hm).keep t7;dsimp only at pv;rw [O] at pv;obtain ⟨t,bl,bh,rfl,et,b6,b7⟩:=pv;have hk:Rc pf st k:=a7 _ hm;obtain ⟨h0,ha,ai⟩:=PO.nd k r lo hi hk O;have tk:(qs.take (i+1)).map (·.1)=(qs.take i).map (·.1)++[k]:=by
    rw [Ybs,ar,Yak]
    rfl
   have as:¬ (Uw (pf k)=false\/k∈(qs.take i).map (·.1)):=by
    rintro (z | z)
    ·rw [O] at z;cases z
    ·have hz:=aQ;rw [<-Ycw (i+1) qs,Yak,tk] at hz;exact (Yca.mp (Yca.mp hz).1).2.2 k z k (by simp) rfl
   have ch:∀y,Rc pf st y->Abv pf y r->∃ca:Int,O1 nvs y=some (.int ca)/\NumOk pf ts y ca:=by
    intro y hy b8;obtain ⟨q',am,rfl⟩:=Yam.mp (a6 y hy);refine N.al q' am ?_;cases e:Uw (pf q'.1) with
    | false=>exact .inl rfl
    | true=>
     obtain ⟨r',a',b',e'⟩:=UP e;exact .inr (Yam.mpr ⟨q',Zcc pw ar ((ad q').mpr ⟨am,e⟩) (by dsimp only;rw [O,e'];exact b8 _ _ _ e'),rfl⟩)
   obtain ⟨ca,b9,na⟩:=ch lo (.lo hk O) ha;obtain ⟨cb,bA,nb⟩:=ch hi (.hi hk O) ai;have bO:=N.len;have step:∀{H8:Hp}{cn:Int}{xs':List V}{ts':List Tri}{au:List (List Key×V)},(∀a u,a≠nl->a≠pd->H7 a=some u->H8 a=some u)->ShelfAt C H8 p nl pd (.int M) xs' ts' au->Grw pf st Y ts'->ts'.length<=Y.length+(i+1)->NV G pf ts' (λk=>Uw (pf k)=false\/k∈(qs.take i).map (·.1)) kvs H7 nvs->NumOk pf ts' k cn ->
     H8 B=some (gd G B nvs)/\GKeys G H8 nvs/\G.At H8 bk k/\(∀a u,a≠B->a≠nl->a≠pd->H6 a=some u->upd H8 B (gd G B (nvs++[(k,bk,.int cn)])) a=some u)/\ShelfAt C (upd H8 B (gd G B (nvs++[(k,bk,.int cn)]))) p nl pd (.int M) xs' ts' au/\NV G pf ts' (λk=>Uw (pf k)=false\/k∈(qs.take (i+1)).map (·.1)) kvs (upd H8 B (gd G B (nvs++[(k,bk,.int cn)]))) (nvs++[(k,bk,.int cn)]):=by
    intro H8 cn xs' ts' au k8 S8 D8 l8 N8 nk;have aU:=k8 _ _ ay az ak;have t8:∀a ys,H7 a=some (.tup ys)->H8 a=some (.tup ys):=λa ys e=>k8 a _ (GZ e S7.nd (λz=>by cases z)) (GZ e S7.pl (λz=>by cases z)) e;have t9:∀a ys,H8 a=some (.tup ys)->upd H8 B (gd G B (nvs++[(k,bk,.int cn)])) a=some (.tup ys):=λa ys e=>Gj e (GZ e aU (λz=>by cases z));refine ⟨aU,N8.ks.keep t8,G.keep aT t8,λa u h1 h2 h3 e=>Gj (k8 a u h2 h3 (k7 a u h1 h2 h3 e)) h1,⟨S8.ob.elim λdx e=>⟨dx,Gj e b3⟩,Gj S8.nd (Ne.symm ay),S8.tr.keep t9,Gj S8.pl (Ne.symm az),S8.ok⟩,?_⟩;refine (((N8.keep t8).snoc (G.keep aT t8) as (Yam.mpr ⟨_,hm,rfl⟩) nk).keep t9).like λy _=>?_;rw [tk,Yah,Yai];exact or_assoc
   obtain ⟨dx,ob⟩:=S7.ob;dsimp only [GY];refine ⟨_,rfl,_,rfl,fo,_,rfl,gg,t,_,rfl,SqT.of et,rfl,_,_,rfl,_,_,rfl,_,_,rfl,rfl,?_⟩;have bB:¬ ("put" : Str) = "places" := by decide +kernel
   have bC:¬ ("put" : Str) = "nodes" := by decide +kernel
   have bD:¬ ("put" : Str) = "most" := by decide +kernel
   refine ⟨_,rfl,p,dx,_,rfl,ob,ZdM _ _ _ bB bC bD,_,rfl,_,rfl,_,rfl,B,_,rfl,⟨nvs,lo,bl,.inl ak,N.ks,rfl,b6,b9.symm⟩,_,rfl,_,rfl,B,_,rfl,⟨nvs,hi,bh,.inl ak,N.ks,rfl,b7,bA.symm⟩,?_⟩;refine ⟨p,nl,pd,M,xs,ts,kd,r,ca,cb,rfl,S7,by lia,λhz=>?_,λhz=>⟨λcn H8 bE s8=>?_,λaV=>⟨λhM H8 sf=>?_,λhM H8 s8=>?_⟩⟩⟩
   ·subst hz;obtain ⟨h1,h2,h3,h4,h5,h6⟩:=step (H8:=H7) (λa u _ _ e=>e) S7 D (by lia) N (NumOk.flat O ha na nb);exact ⟨_,rfl,_,rfl,B,bk,nvs,k,rfl,rfl,h1,h2,h3,N.none as,by lia,_,_,_,_,_,_,_,_,rfl,h4,Gb,h5,D,by lia,aq,h6⟩
   ·obtain ⟨h1,h2,h3,h4,h5,h6⟩:=step (H8:=H8) (λa u _ _ e=>s8 _ _ e) (S7.same s8) D (by lia) N (NumOk.node O na nb bE);exact ⟨_,rfl,_,rfl,B,bk,nvs,k,rfl,rfl,h1,h2,h3,N.none as,by lia,_,_,_,_,_,_,_,_,rfl,h4,Gb,h5,D,by lia,aq,h6⟩
   ·obtain ⟨xs',au,S8⟩:=sf.at_;obtain ⟨D',nk⟩:=D.snoc hk O h0 ha ai na nb hz aV;obtain ⟨h1,h2,h3,h4,h5,h6⟩:=step (H8:=H8) (λa u n1 n2 e=>sf.kp a u n1 n2 e) S8 D' (by rw [Yag,Yat];lia) (N.app D.sh.ok _) nk;exact ⟨_,rfl,_,rfl,B,bk,nvs,k,rfl,rfl,h1,h2,h3,N.none as,by lia,_,_,_,_,_,_,_,_,rfl,h4,Gb,h5,D',by rw [Yag,Yat];lia,.inl (by rw [Yag,Yat];lia),h6⟩
   ·obtain ⟨D',nk⟩:=D.snoc hk O h0 ha ai na nb hz aV;obtain ⟨f1,f2⟩:=a2 (H':=H8) λa u h1 h2 h3 e=>s8 _ _ (k7 a u h1 h2 h3 e);exact qe _ H8 f1 f2 D' (by rw [Yag,Yat];lia) (by rw [Yag,Yat];lia)
  ·rintro σ' H7 ⟨nvs,b4,v6,v7,v8,xs,ts,kd,rfl,k7,ak,S7,D,qV,aq,N⟩;rw [Yab] at qV N;rw [Ybk] at N;obtain ⟨f1,f2⟩:=a2 k7;obtain ⟨q',am,e'⟩:=Yam.mp (a6 st .start);have hd:Uw (pf q'.1)=false\/q'.1∈qs.map (·.1):=by
    cases e:Uw (pf q'.1) with
    | false=>exact .inl rfl
    | true=>exact .inr (Yam.mpr ⟨q',(ad q').mpr ⟨am,e⟩,rfl⟩)
   obtain ⟨cn,hv,hn⟩:=N.al q' am hd;rw [e'] at hv hn;refine ⟨_,rfl,_,rfl,B,_,rfl,⟨nvs,st,b,.inl ak,N.ks,rfl,G.keep (G.keep hb λa ys e=>s1 _ _ e) (λa ys e=>a1 k7 a ys (aR a ys e)),hv.symm⟩,?_⟩;refine qq cn xs ts kd H7 f1 f2 S7 D (by lia) aq (λk hk=>?_) hn;obtain ⟨q,hq,rfl⟩:=Yam.mp (a6 k hk);obtain ⟨c,_,hc⟩:=N.al q hq (by
    cases e:Uw (pf q.1) with
    | false=>exact .inl rfl
    | true=>exact .inr (Yam.mpr ⟨q,(ad q).mpr ⟨hq,e⟩,rfl⟩))
   exact ⟨c,hc⟩
end
section
variable {P:Program}{w:World}{K:W.Frag}{mg:Str->Option Value}{base:Heap}
theorem Zcd:bootBuiltins "max" = some (.builtin "max"):=by first | rfl | decide +kernel
theorem Je {p:Nat}{a:Int}(h:a.natAbs<2 ^ p:=by decide +kernel):Lt2 p a:=h
theorem ZdN {H:Hp}{l:Addr}{zs:List (Key×V)}{o:HO}(h:H l=some (.dK zs)):∀p ys,H p=some (.tup ys)->upd H l o p=some (.tup ys):=λp ys e=>Gj e (GZ e h (λz=>by cases z))
noncomputable def Zhq (H:Hp)(ks:List Tri)(root:Int)(Q:VK):Prop:=∀(p l:Addr)(a0:Int)(xs:List V)(us:List Tri)(fs:List Int)(H':Hp),Same H H'->H p=none->H l=none->TabAt H' p l a0 xs us->Rch ks root fs->Fin ks root fs->fs.Nodup->(∀x∈fs,∃r,Nd ks x r)->Said ks fs us fs.length->us.length=fs.length->fs.length<=ks.length->JE fs root=some a0->Q (.ref p) H'
theorem Zij (n:Int):J8 (Jw [] [(Sum.inl 0,.int 0),(Sum.inl 1,.int 1)]:List (Key×V)) (.inl n)=(JE [] n).map V.int:=by
 show J8 (JT (JT [] (Sum.inl 0) (.int 0)) (Sum.inl 1) (.int 1):List (Key×V)) (.inl n)=_;rw [Jy,Jy];unfold JE;by_cases h1:n=1
 ·subst h1
  rfl
 ·rw [if_neg (λz=>h1 (Sum.inl.inj z))];by_cases h0:n=0
  ·subst h0
   rfl
  ·rw [if_neg (λz=>h0 (Sum.inl.inj z)),if_neg h0,if_neg h1]
   rfl
noncomputable def Zfk:Sp:=λvs H Q _=>∃(l:Addr)(root:Int)(xs:List V)(ks:List Tri),vs=[.int root,.ref l]/\H l=some (.lst xs)/\Trs H xs ks/\TabOk ks/\ks.length<=900/\At ks root (-1) /\
 ∀(j:Addr)(fs:List Int)(H':Hp),Same H H'->H' j=some (.lst (fs.map V.int))->Rch ks root fs->Fin ks root fs->fs.Nodup->(∀x∈fs,∃r,Nd ks x r)->Q (.ref j) H'
theorem scFou:Gu ["root", "nodes", "found", "seen", "ahead", "new", "number"] ["root", "nodes"] (Gg Ze3):=⟨rfl,rfl,rfl,by decide +kernel,rfl,by decide +kernel,by decide +kernel⟩
theorem Zhr (n:Int):J8 (Jw [] [(Sum.inl 0,.bl true),(Sum.inl 1,.bl true)]:List (Key×V)) (.inl n)=none↔New [] n:=by
 show J8 (JT (JT [] (Sum.inl 0) (.bl true)) (Sum.inl 1) (.bl true):List (Key×V)) (.inl n)=none↔_;rw [Jy,Jy];unfold New;by_cases h1:n=1
 ·rw [if_pos (by rw [h1])];exact ⟨λz=>(by cases z),λz=>absurd h1 z.2.1⟩
 ·rw [if_neg (λz=>h1 (Sum.inl.inj z))];by_cases h0:n=0
  ·rw [if_pos (by rw [h0])];exact ⟨λz=>(by cases z),λz=>absurd h0 z.1⟩
  ·rw [if_neg (λz=>h0 (Sum.inl.inj z))];exact ⟨λ_=>⟨h0,h1,λz=>(by cases z)⟩,λ_=>rfl⟩
theorem Zfl {f:Addr}{fd:FuncData}(F:Fun K "found_from" "found_from" Ze3 f fd):FnOk P w K mg base CX0 1 f fd ["root", "nodes"] Zfk:=by
 refine F.ok scFou (λvs H Q E h=>?_) (λa2 A outer s H vs Q E hr h=>?_)
 ·obtain ⟨_,_,_,_,rfl,_⟩:=h
  rfl
 ·obtain ⟨l,root,xs,ks,rfl,el,tr,T,a9,ar,q⟩:=h;have aA:=Ybe.symm;have aq:(A.deeper (PyProof.Rows.envOfC "found_from" (Gg Ze3) s.heap.objs.size f a2)).units+1<cLine:=by have:=hr.un;lia
  refine ⟨_,Ge (Gp (i:=2) scFou.nd rfl (Or.inl rfl) (Gr Gc))
    (Ge (Gp (i:=3) scFou.nd rfl (Or.inl rfl) (Z0 (OM Gh Ow (OM Gh Ow Xv)) rfl rfl (by decide) (by decide)))
    (Ge (Gp (i:=4) scFou.nd rfl (Or.inl rfl) (Gr (Ga (pv 0) Gc)))
    (Ge (Vs Yci (X2 (pv 4) (λ_=>rfl))
    (Ge (Gp (i:=5) scFou.nd rfl (Or.inl rfl) (Gr Gc))
    (Ge (JK Yci rfl (Jv K (pv 4)) (Gn (i:=6) scFou.nd rfl (Or.inl rfl))
    (Gi (Jl (XY (WT aq (pv 6) (pv 3)) rfl) (Ge (Xu aq (pv 3) (pv 6) Ow rfl)
    (Ge (Jn (Um Yco Ycy Ycz G9 (pv 2) (Ga (pv 6) Gc)))
    (Gi (Jn (Um Yco PySem.F.slot_list_extend PySem.F.type_list_extend Vj (pv 5) (Ga (Uq (Zhd K) (GN (Oz K) (pv 1) (GW WA (pv 6) Gh) (λ_ _=>rfl)) (Vw Gh) Vv) Gc)))))) GC)))
    (Gi (Gp (i:=4) scFou.nd rfl (Or.inl rfl) (pv 5))))))
    (Gi (Gv (pv 2)))))),?_⟩
  refine ⟨Yan _,λO as=>?_⟩;obtain ⟨H1,q_,s1,D⟩:=nwU (o:=.lst []) as;have D:H1 O=some (.lst (([]:List Int).map V.int)):=D;rw [q_];intro d hd;refine ⟨Gb,[(.inl 0,.bl true),(.inl 1,.bl true)],rfl,by decide,?_⟩;have s2:Same H1 (upd (upd H1 d (.dK [])) d (.dK (Jw [] [(.inl 0,.bl true),(.inl 1,.bl true)]))):=(Same.new hd).put hd;have Y:upd (upd H1 d (.dK [])) d (.dK (Jw [] [(.inl 0,.bl true),(.inl 1,.bl true)])) d=some (.dK (Jw [] [(.inl 0,.bl true),(.inl 1,.bl true)])):=Gb;generalize upd (upd H1 d (.dK [])) d (.dK (Jw [] [(.inl 0,.bl true),(.inl 1,.bl true)]))=H2 at s2 Y ⊢;have a3:H d=none:=s1.free hd;have au:O≠d:=Gf D hd;have ac:=s2 _ _ D;have av:=s1.trans s2;clear D s1 s2;refine ⟨_,rfl,(by show 1<=sizeLine;decide),λal ag=>?_⟩;obtain ⟨H3,q_,s3,B⟩:=nwU (o:=.lst [.int root]) ag;have B:H3 al=some (.lst (([root]:List Int).map V.int)):=B;have Z:al≠O:=λz=>by rw [z,ac] at ag;cases ag
  rw [q_];have W0:Wk ks root [] (Jw [] [(.inl 0,.bl true),(.inl 1,.bl true)]) [] [root]:=⟨rfl,λy hy=>(by cases hy),Zhr,Ycv,λx hx=>(by cases hx),.nil,by decide,λy hy=>by rw [Yai] at hy;rw [hy];exact ar⟩;refine ⟨λm σ' H'=>∃(al:Addr)(fs:List Int)(kvs:List (Key×V))(pr U:List Int)(v5 v6:Option V),σ'=[some (.int root),some (.ref l),some (.ref O),some (.ref d),some (.ref al),v5,v6]/\Same H H'/\H' O=some (.lst (fs.map V.int))/\H' d=some (.dK kvs)/\H' al=some (.lst (U.map V.int))/\al≠O/\Wk ks root fs kvs pr U/\m=ks.length-fs.length+(if U=[] then 0 else 1),
   ⟨_,al,[],_,[],[root],none,none,rfl,av.trans s3,s3 _ _ ac,s3 _ _ Y,B,Z,W0,rfl⟩,?_⟩
  clear W0 B s3 ac Y av ag Z;rintro m σ' H4 ⟨al,fs,kvs,pr,U,v5,v6,rfl,s4,D,Y,B,Z,W,rfl⟩;have aB:=W.le;have aw:=W.ahl;by_cases hz:U=[]
  ·subst hz;refine ⟨_,rfl,false,.inl ⟨_,SqL.of B,rfl⟩,J7 ?_⟩;exact ⟨_,rfl,q O fs _ s4 D W.rch W.fin W.nd W.nod⟩
  ·refine ⟨_,rfl,true,.inl ⟨_,SqL.of B,by cases U with | nil=>exact absurd rfl hz | cons a b=>rfl⟩,Ox ?_⟩;refine ⟨_,λ_ _ h=>h,?_⟩;refine ⟨Yan _,λnl ab=>?_⟩;obtain ⟨H5,q_,s5,L⟩:=nwU (o:=.lst []) ab;have L:H5 nl=some (.lst (([]:List Int).map V.int)):=L;have a4:nl≠al:=λz=>by rw [z,B] at ab;cases ab
   have an:nl≠O:=λz=>by rw [z,D] at ab;cases ab
   have ax:H nl=none:=s4.free ab;rw [q_];refine ⟨_,rfl,al,rfl,⟨_,SqL.of (s5 _ _ B)⟩,?_⟩;refine JW (K:=K) (a:=al) (xs:=U.map V.int) (λi σ' H'=>∃(fs':List Int)(j:List (Key×V))(nw:List Int)(v6:Option V),σ'=[some (.int root),some (.ref l),some (.ref O),some (.ref d),some (.ref al),some (.ref nl),v6]/\Same H H'/\H' O=some (.lst (fs'.map V.int))/\H' d=some (.dK j)/\H' al=some (.lst (U.map V.int))/\H' nl=some (.lst (nw.map V.int))/\Wk ks root fs' j (pr++U.take i) (U.drop i++nw)/\((fs'=fs/\nw=[])\/fs.length<fs'.length))
    ⟨fs,kvs,[],_,rfl,s4.trans s5,s5 _ _ D,s5 _ _ Y,s5 _ _ B,L,by rw [List.take_zero,List.drop_zero,Ybt,Ybt];exact W,.inl ⟨rfl,rfl⟩⟩ (by rintro i σ' H' _ ⟨_,_,_,_,_,_,_,_,e,_⟩;exact SqL.of e) ?_ ?_
   ·clear D Y B L s5 W aw;rintro i y σ' H6 hy ⟨fs',j,nw,a5,rfl,s6,D,Y,B,L,W,hd⟩;obtain ⟨c,rfl,hc⟩:=JA hy;have e1:U.drop i=c::U.drop (i+1):=by
     obtain ⟨hi,e⟩:=Yaj.mp hc;rw [Yde hi,e]
    have e2:pr++U.take (i+1)=(pr++U.take i)++[c]:=by
     obtain ⟨hi,e⟩:=Yaj.mp hc;rw [List.take_succ_eq_append_getElem hi,e,Ybg]
    rw [e1,List.cons_append] at W;have ay:=W.le;have az:=W.ahl;rw [Ybm,Yag] at az;have aC:=W.kl;refine ⟨_,rfl,_,rfl,d,_,rfl,DGet.k (k:=.inl c) Y,_,rfl,?_⟩;cases hv:J8 j (.inl c) with
    | some v=>
     refine J7 ?_;refine ⟨fs',j,nw,_,rfl,s6,D,Y,B,L,?_,hd⟩;rw [e2];exact W.skip λz=>by rw [(W.seen c).mpr z] at hv;cases hv
    | none=>
     refine Ox ?_;have ad:=(W.seen c).mp hv;obtain ⟨r,n,_⟩:=(W.ok c Yaw).nd (by have:=(W.ok c Yaw).lt;have:=ad.1;have:=ad.2.1;lia);have W':=W.take (v:=.bl true) T ad n;refine ⟨_,rfl,_,rfl,d,_,rfl,DPut.k (k:=.inl c) Y (by lia),?_⟩;have k7:=ZdN (o:=.dK (JT j (.inl c) (.bl true))) Y;have ae:upd H6 d (.dK (JT j (.inl c) (.bl true))) O=some (.lst (fs'.map V.int)):=Gj D au;have ai:upd H6 d (.dK (JT j (.inl c) (.bl true))) al=some (.lst (U.map V.int)):=Gj B (GZ B Y (λz=>by cases z));have aj:upd H6 d (.dK (JT j (.inl c) (.bl true))) nl=some (.lst (nw.map V.int)):=Gj L (GZ L Y (λz=>by cases z));have a1:upd H6 d (.dK (JT j (.inl c) (.bl true))) d=some (.dK (JT j (.inl c) (.bl true))):=Gb;have s7:Same H (upd H6 d (.dK (JT j (.inl c) (.bl true)))):=s6.put a3;generalize upd H6 d (.dK (JT j (.inl c) (.bl true)))=H7 at ae ai aj a1 s7 ⊢;clear k7;refine ⟨_,rfl,.inl ⟨rfl,_,SqL.of ae⟩,_,rfl,O,_,_,rfl,rfl,ae,by rw [Yab];lia,?_⟩;have ak:upd H7 O (.lst (fs'.map V.int++[.int c])) O=some (.lst ((fs'++[c]).map V.int)):=by rw [Gb,Yak];rfl
     have am:upd H7 O (.lst (fs'.map V.int++[.int c])) al=some (.lst (U.map V.int)):=Gj ai Z;have aa:upd H7 O (.lst (fs'.map V.int++[.int c])) nl=some (.lst (nw.map V.int)):=Gj aj an;have ao:upd H7 O (.lst (fs'.map V.int++[.int c])) d=some (.dK (JT j (.inl c) (.bl true))):=Gj a1 (Ne.symm au);have s8:Same H (upd H7 O (.lst (fs'.map V.int++[.int c]))):=s7.put as;generalize upd H7 O (.lst (fs'.map V.int++[.int c]))=H8 at ak am aa ao s8 ⊢;obtain ⟨t,a6,a7⟩:=ZaK (tr.same s8) n;refine ⟨_,rfl,.inl ⟨rfl,_,SqL.of aa⟩,_,rfl,_,rfl,_,_,rfl,rfl,l,_,_,_,rfl,rfl,SqL.of (s8 _ _ el),a6,_,rfl,t,_,rfl,SqT.of a7,(λz=>by have:=z.1;simp [HT.sIx] at this),λps a8=>?_⟩;obtain ⟨H9,q_,s9,ap⟩:=nwU (o:=.tup (YQ [.int r.1,.int r.2.1,.int r.2.2] (some 1) none)) a8;have ap:H9 ps=some (.tup [.int r.2.1,.int r.2.2]):=ap;rw [q_];refine ⟨nl,ps,_,_,rfl,rfl,s9 _ _ aa,ap,by rw [Yab];show nw.length+2<=sizeLine;lia,?_⟩;refine ⟨fs'++[c],_,nw++[r.2.1,r.2.2],_,rfl,(s8.trans s9).put ax,Gj (s9 _ _ ak) (Ne.symm an),Gj (s9 _ _ ao) (GZ ao aa (λz=>by cases z)),Gj (s9 _ _ am) (Ne.symm a4),by rw [Gb,Yak];rfl,?_,.inr ?_⟩
     ·rw [e2,<-Ybg];exact W'
     ·rw [Yag,Yat];rcases hd with ⟨h,_⟩ | h
      ·rw [h];lia
      ·lia
   ·clear D Y B L s5 W aw;rintro σ' H6 ⟨fs',j,nw,a5,rfl,s6,D,Y,B,L,W,hd⟩;rw [Yab,Ybk,List.drop_length,List.nil_append] at W;have ay:=W.le;refine ⟨_,rfl,?_⟩;refine ⟨_,?_,nl,fs',j,pr++U,nw,_,_,rfl,s6,D,Y,L,an,W,rfl⟩;rw [if_neg hz];rcases hd with ⟨h1,h2⟩ | h
    ·rw [h1,h2,if_pos rfl];lia
    ·split <;> lia
theorem numI_of {fs:List Int}{y:Int}(h:¬ New fs y):∃a,JE fs y=some a:=by
 cases e:JE fs y with
 | none=>exact absurd (New.num.mpr e) h
 | some a=>exact ⟨a,rfl⟩
noncomputable def ZgH (ks:List Tri)(x:Int):Tri:=(ks[(x-2).toNat]?).getD (0,0,0)
theorem ZaN {ks:List Tri}{x:Int}{r:Tri}(n:Nd ks x r):ZgH ks x=r:=by
 unfold ZgH;rw [n.2]
 rfl
noncomputable def Zfm:Sp:=λvs H Q _=>∃(l:Addr)(root:Int)(xs:List V)(ks:List Tri),vs=[.int root,.ref l]/\H l=some (.lst xs)/\Trs H xs ks/\TabOk ks/\ks.length<=900/\At ks root (-1)/\Zhq H ks root Q
theorem scNum:Gu ["root", "nodes", "found", "numbers", "place", "number", "told"] ["root", "nodes"] (Gg Ze4):=⟨rfl,rfl,rfl,by decide +kernel,rfl,by decide +kernel,by decide +kernel⟩
theorem Zfn {f fF:Addr}{fd ag:FuncData}(F:Fun K "numbered" "numbered" Ze4 f fd)(FF:Fun K "found_from" "found_from" Ze3 fF ag)(bF:Binds K ag ["root", "nodes"] [])(mF:mg "found_from" = some (.ref fF))(GF:FnOk P w K mg base CX0 1 fF ag ["root", "nodes"] Zfk)(ah:mg "enumerate" = none) :
  FnOk P w K mg base CX0 2 f fd ["root", "nodes"] Zfm:=by
 refine F.ok scNum (λvs H Q E h=>?_) (λax A outer s H vs Q E hr h=>?_)
 ·obtain ⟨_,_,_,_,rfl,_⟩:=h
  rfl
 ·obtain ⟨l,root,xs,ks,rfl,el,tr,T,ay,ar,q⟩:=h;have aB:=Ybe.symm;have aa:(A.deeper (PyProof.Rows.envOfC "numbered" (Gg Ze4) s.heap.objs.size f ax)).units+1<cLine:=by have:=hr.un;lia
  refine ⟨_,Ge (Gp (i:=2) scNum.nd rfl (Or.inl rfl) (Gk GF (hr.mono (by decide)) rfl mF FF.kp bF .nil Gz (Ga (pv 0) (Ga (pv 1) Gc))))
    (Ge (Gp (i:=3) scNum.nd rfl (Or.inr rfl) (Z0 (OM Gh Gh (OM Gh Gh Xv)) rfl rfl (by decide) (by decide)))
    (Ge (JK Yci rfl (Zg6 K rfl ah (Ga (pv 2) Gc)) (ZeI K (n:=2) rfl (Jb (Gn (i:=4) scNum.nd rfl (Or.inl rfl)) (Jb (Gn (i:=5) scNum.nd rfl (Or.inl rfl)) UA)))
    (Gi (Xu aa (pv 3) (pv 5) (GW JF (pv 4) Gh) rfl)))
    (Ge (VA (i:=6) scNum.nd rfl (Or.inl rfl) (own:=["number"]) rfl (Gm (fr:=[("nodes", 1)]) [(".0", .local),("number", .local),("nodes", .cell)] rfl rfl (by decide +kernel) rfl (by decide +kernel) ⟨rfl,trivial⟩ ⟨λh=>GQ h,λh=>GQ h,λ_=>⟨_,rfl⟩,trivial⟩ ⟨⟨rfl,.inl rfl,.inl rfl⟩,trivial⟩) (Jv K (pv 2)) (λ_ _ _ _=>Gn (i:=0) (show List.Nodup (["number", "nodes"]:List Str) by decide +kernel) rfl (Or.inl rfl)) (λ_ _ _ _=>JL) (λ_ _ _ _=>GN (Oz K) (pv 1) (GW WA (pv 0) Gh) (λ_ _=>rfl)))
    (Gi (Gv (Jf (Ga (VD aa (pv 3) (pv 0) (λ_ _=>rfl)) (Ga (G7 (own:=["road", "low", "high"]) rfl (Gm (fr:=[("numbers", 3)]) [(".0", .local),("road", .local),("low", .local),("high", .local),("numbers", .cell)] rfl rfl (by decide +kernel) rfl (by decide +kernel) ⟨rfl,trivial⟩ ⟨λh=>GQ h,λh=>GQ h,λh=>GQ h,λh=>GQ h,λ_=>⟨_,rfl⟩,trivial⟩ ⟨⟨rfl,.inl rfl,.inl rfl⟩,trivial⟩) (Jv K (pv 6)) (λ_ _ _ _=>ZeI K (n:=3) rfl (Jb (Gn (i:=0) (show List.Nodup (["road", "low", "high", "numbers"]:List Str) by decide +kernel) rfl (Or.inl rfl)) (Jb (Gn (i:=1) (show List.Nodup (["road", "low", "high", "numbers"]:List Str) by decide +kernel) rfl (Or.inl rfl)) (Jb (Gn (i:=2) (show List.Nodup (["road", "low", "high", "numbers"]:List Str) by decide +kernel) rfl (Or.inl rfl)) UA)))) (λ_ _ _ _=>JL) (λ_ _ _ _=>Jf (Ga (pv 0) (Ga (VD aa (pv 3) (pv 1) (λ_ _=>rfl)) (Ga (VD aa (pv 3) (pv 2) (λ_ _=>rfl)) Gc))))) Gc)))))))),?_⟩
  refine ⟨_,rfl,_,rfl,l,root,xs,ks,rfl,el,tr,T,ay,ar,λfl fs H1 s1 ab rch fin nd O=>?_⟩;have az:fs.length<=ks.length:=by
   have:=Yct (l₂:=(List.range ks.length).map λ(i:Nat)=>(i:Int)+2) nd λx hx=>by
    obtain ⟨r,n⟩:=O x hx;have h1:=n.lt;have h2:=n.1;exact Yam.mpr ⟨(x-2).toNat,Ydn.mpr (by lia),by lia⟩
   rwa [Yab,List.length_range] at this
  dsimp only [GY];intro d hd;refine ⟨Gb,[(.inl 0,.int 0),(.inl 1,.int 1)],rfl,by decide,?_⟩;have s2:Same H1 (upd (upd H1 d (.dK [])) d (.dK (Jw [] [(.inl 0,.int 0),(.inl 1,.int 1)]))):=(Same.new hd).put hd;have ed:upd (upd H1 d (.dK [])) d (.dK (Jw [] [(.inl 0,.int 0),(.inl 1,.int 1)])) d=some (.dK (Jw [] [(.inl 0,.int 0),(.inl 1,.int 1)])):=Gb;dsimp only [GY];generalize upd (upd H1 d (.dK [])) d (.dK (Jw [] [(.inl 0,.int 0),(.inl 1,.int 1)]))=H2 at s2 ed ⊢;have ak:=s1.trans s2;have am:=s2 _ _ ab;have aC:=ak _ _ el;have aD:=tr.same ak;have aE:H d=none:=s1.free hd;refine GD (λZ H'=>∃(kvs:List (Key×V))(v4 v5:Option V),Z=[some (.int root),some (.ref l),some (.ref fl),some (.ref d),v4,v5,none]/\Same H1 H'/\H' d=some (.dK kvs)/\∀n:Int,J8 kvs (.inl n)=(JE fs n).map V.int) ?s1 ?f1
  case f1=>
   intro hk;refine ⟨_,rfl,fl,_,rfl,SqL.of am,?_⟩;refine ZbC (K:=K) (a:=fl) (xs:=fs.map V.int) (λi Z H'=>∃(kvs:List (Key×V))(v4 v5:Option V),Z=[some (.int root),some (.ref l),some (.ref fl),some (.ref d),v4,v5,none]/\Same H1 H'/\H' d=some (.dK kvs)/\(∀n:Int,J8 kvs (.inl n)=(JE (fs.take i) n).map V.int)/\kvs.length<=i+2)
    ⟨_,none,none,rfl,s2,ed,λn=>by rw [List.take_zero];exact Zij n,by decide⟩ (by rintro i Z H' _ ⟨_,_,_,_,B,_⟩;exact SqL.of (B _ _ ab)) ?_ ?_
   ·rintro i x Z H3 T3 ai ⟨kvs,v4,v5,rfl,B,e3,val,len⟩ hT;obtain ⟨c,rfl,L⟩:=JA ai;have hi:i<fs.length:=(Yaj.mp L).1;obtain ⟨r,n⟩:=O c (Yau L);have hn:JE (fs.take i) c=none:=New.num.mp ⟨by have:=n.1;lia,by have:=n.1;lia,λz=>by
     have hz:=nd;rw [<-Ycw (i+1) fs,Ybs,L,Option.toList_some] at hz;exact (Yca.mp (Yca.mp hz).1).2.2 c z c (by simp) rfl⟩
    have a3:d≠T3:=Gf e3 hT;refine ⟨T3,_,rfl,SqT.of Gb,rfl,_,_,rfl,_,_,rfl,rfl,?_⟩;have a4:=Jp kvs (Sum.inl c:Key) (.int ((i:Int)+2));refine ⟨_,rfl,_,_,rfl,rfl,_,rfl,_,rfl,d,_,rfl,DPut.k (k:=Sum.inl c) (Gj e3 a3) (by lia),?_⟩;refine ⟨_,_,_,rfl,(B.put (B.free hT)).put hd,Gb,λm=>?_,Ycb a4 (by lia)⟩;rw [Ybs,L,Option.toList_some,ZbQ _ m c hn,Jy,val m,Ybj,Ydr (Ycs hi)];by_cases e:m=c
    ·rw [if_pos e,if_pos (by rw [e])]
     rfl
    ·rw [if_neg e,if_neg (λz=>e (Sum.inl.inj z))]
   ·rintro Z H3 ⟨kvs,v4,v5,rfl,B,e3,val,len⟩;rw [Yab,Ybk] at val;exact hk _ _ ⟨kvs,v4,v5,rfl,B,e3,val⟩
  rintro Z H3 ⟨kvs,v4,v5,rfl,B,e3,val⟩;have a5:=tr.same (s1.trans B);refine GD (λZ H'=>∃(tl:Addr)(ys:List V),Z=[some (.int root),some (.ref l),some (.ref fl),some (.ref d),v4,v5,some (.ref tl)]/\Same H3 H'/\H' tl=some (.lst ys)/\Trs H' ys (fs.map (ZgH ks))) ?s2 ?f2
  case f2=>
   intro hk;refine ⟨_,rfl,fl,rfl,⟨_,SqL.of (B _ _ ab)⟩,λD hD=>?_⟩;refine GE (K:=K) (a:=fl) (xs:=fs.map V.int) (λi ys H'=>Same H3 H'/\H' D=some (.lst ys)/\Trs H3 ys ((fs.take i).map (ZgH ks))) ⟨Same.new hD,Gb,by rw [List.take_zero];exact .nil⟩ (by rintro i ys H' _ ⟨U,_⟩;exact SqL.of (U _ _ (B _ _ ab))) ?_ ?_
   ·rintro i x ys H4 ai ⟨U,aj,ty⟩;obtain ⟨c,rfl,L⟩:=JA ai;have hi:i<fs.length:=(Yaj.mp L).1;obtain ⟨r,n⟩:=O c (Yau L);obtain ⟨t,a6,a7⟩:=ZaK a5 n;have ac:=ty.len;rw [Yab,Ybj] at ac;refine ⟨⟨rfl,trivial⟩,?_⟩;unfold Zbr;refine Ox ?_;refine ⟨_,rfl,_,rfl,_,_,rfl,rfl,l,_,_,_,rfl,rfl,SqL.of (U _ _ ((s1.trans B) _ _ el)),a6,?_⟩;refine ⟨aj,by lia,U.put hD,Gb,?_⟩;rw [Ybs,L,Option.toList_some,Yak,List.map_singleton,ZaN n];exact ty.snoc a7
   ·rintro ys H4 ⟨U,aj,ty⟩;rw [Yab,Ybk] at ty;exact hk _ _ ⟨D,ys,rfl,U,aj,ty.same U⟩
  rintro Z H4 ⟨tl,ys,rfl,U,an,ty⟩;obtain ⟨a0,ao⟩:=numI_of (fin root (by unfold JP;exact Yaw));have g0:J8 kvs (.inl root)=some (.int a0):=by rw [val,ao];rfl
  have ap:=U _ _ e3;refine ⟨_,rfl,_,rfl,d,_,rfl,g0▸DGet.k (k:=.inl root) ap,?_⟩;refine ⟨_,rfl,tl,rfl,⟨_,SqL.of an⟩,λD hD=>?_⟩;refine GE (K:=K) (a:=tl) (xs:=ys) (λi zs H'=>Same H4 H'/\H' D=some (.lst zs)/\∃us,Trs H' zs us/\us.length=i/\Said ks fs us i) ⟨Same.new hD,Gb,[],.nil,rfl,λj x hj=>absurd hj (Nat.not_lt_zero _)⟩ (by rintro i zs H' _ ⟨s5,_⟩;exact SqL.of (s5 _ _ an)) ?_ ?_
  ·rintro i y zs H5 a8 ⟨s5,ad,us,ae,Y,S⟩;obtain ⟨t,r,rfl,et,er⟩:=ty.get a8;rw [Yba] at er;obtain ⟨c,L,aq⟩:=Ybn.mp er;obtain ⟨r',n⟩:=O c (Yau L);rw [ZaN n] at aq;subst aq;have hi:i<fs.length:=(Yaj.mp L).1;have as:∀z,z∈[r'.2.1,r'.2.2]->z∈JP ks root fs:=λz hz=>by
    unfold JP;exact Ybc _ (List.mem_flatMap.mpr ⟨c,Yau L,by rw [Ym n];exact hz⟩)
   obtain ⟨a1,au⟩:=numI_of (fin _ (as r'.2.1 (by simp)));obtain ⟨a2,av⟩:=numI_of (fin _ (as r'.2.2 (by simp)));have g1:J8 kvs (.inl r'.2.1)=some (.int a1):=by rw [val,au];rfl
   have g2:J8 kvs (.inl r'.2.2)=some (.int a2):=by rw [val,av];rfl
   have aw:=s5 _ _ ap;have aF:=ae.len;refine ⟨t,_,rfl,SqT.of (s5 _ _ et),rfl,_,_,rfl,_,_,rfl,_,_,rfl,rfl,⟨rfl,trivial⟩,?_⟩;unfold Zbr;refine Ox ?_;refine ⟨_,rfl,_,rfl,_,rfl,d,_,rfl,g1▸DGet.k (k:=.inl r'.2.1) aw,_,rfl,_,rfl,d,_,rfl,g2▸DGet.k (k:=.inl r'.2.2) aw,(by show 3<=sizeLine;decide),λt5 a9=>?_⟩;obtain ⟨H6,q_,s6,aA⟩:=nwU (o:=.tup [.int r'.1,.int a1,.int a2]) a9;rw [q_];have k5:=Jx (o:=.lst (zs++[.ref t5])) (s6 _ _ ad);exact ⟨s6 _ _ ad,by lia,(s5.trans s6).put hD,Gb,us++[(r'.1,a1,a2)],((ae.same s6).keep k5).snoc (k5 _ _ aA),by rw [Yag,Yat,Y],S.snoc Y L n au av⟩
  ·rintro zs H5 ⟨s5,ad,us,ae,Y,S⟩;have ac:=ty.len;rw [Yab] at ac;rw [ac] at Y S;refine ⟨JS,λp hp=>?_⟩;have s6:Same H5 (upd H5 p (.tup [.int a0,.ref D])):=Same.new hp;have sa:=((s1.trans B).trans U).trans s5;exact q p D a0 zs us fs _ (sa.trans s6) (sa.free hp) (((s1.trans B).trans U).free hD) ⟨Gb,s6 _ _ ad,ae.same s6⟩ rch fin nd O S Y az ao
end
structure LeT {κ:Type}(pf:κ->Pt κ)(s:κ)(a0:Int)(us:List Tri)(ts:List Tri)(root:Int)(fs:List Int):Prop where
 grw:Grw pf s [] ts
 num:NumOk pf ts s root
 rch:Rch ts root fs
 fin:Fin ts root fs
 nd:fs.Nodup
 nod:∀x∈fs,∃r,Nd ts x r
 said:Said ts fs us fs.length
 len:us.length=fs.length
 le:fs.length<=ts.length
 a0:JE fs root=some a0
 all:∀k,Rc pf s k->∃c,NumOk pf ts k c
section
variable {P:Program}{w:World}{K:W.Frag}{mg:Str->Option Value}{base:Heap}{κ:Type}[DecidableEq κ]{G:GK P w κ}{pf:κ->Pt κ}{Dom:κ->Prop}
noncomputable def ZdO (G:GK P w κ)(pf:κ->Pt κ)(Dom:κ->Prop)(HF:Hp->Prop)(j B tb:Addr):Sp:=λvs H Q E=>∃(b:Addr)(s:κ)(U Un:List κ)(M:Int),vs=[.ref b,.ref j,.int M]/\HF H/\G.At H b s/\Dom s/\(∀k,Rc pf s k->k∈U)/\(∀k,Rc pf s k->Uw (pf k)=true->k∈Un)/\U.length<=10000/\(0<=M/\Un.length<=900)/\Zhp pf s/\Abv pf s (-1)/\LD tb H /\
 (∀(p l:Addr)(a0 root:Int)(xs:List V)(us ts:List Tri)(fs:List Int)(H':Hp),SameL tb H H'->LD tb H'->H p=none->H l=none->TabAt H' p l a0 xs us->LeT pf s a0 us ts root fs->ts.length<=Un.length->(ts.length:Int)<=M->Q (.ref p) H') /\
 (∀(ts:List Tri)(H':Hp),SameL tb H H'->LD tb H'->Grw pf s [] ts->M<ts.length->ts.length<=Un.length->E (.ref B) none H')
theorem scLeT:Gu ["start", "parts", "most", "shelf"] ["start", "parts", "most"] (Gg Ze5):=⟨rfl,rfl,rfl,by decide +kernel,rfl,by decide +kernel,by decide +kernel⟩
theorem Zfo {HF:Hp->Prop}{f fI O Y fP C TM tb:Addr}{fd Z j B:FuncData}{kp:Nat}(F:Fun K "least_table" "least_table" Ze5 f fd)(ak:∀{H H':Hp},HF H->Same H H'->HF H')(TS:Zfa K mg C TM)(am:Mk K C fI)(aa:Binds K Z ["self", "most"] [])(ac:FnOk P w K mg base CX0 1 fI Z ["self", "most"] (Zfb C))(an:Fun K "laid_down" "laid_down" Zd9 O j)(ao:Binds K j ["start", "parts", "shelf"] [])(ap:mg "laid_down" = some (.ref O))(aq:FnOk P w K mg base (CXr P w) (kp+2) O j ["start", "parts", "shelf"] (Zfi G pf Dom HF fP C TM tb))(ar:Fun K "numbered" "numbered" Ze4 Y B)(as:Binds K B ["root", "nodes"] [])(au:mg "numbered" = some (.ref Y))(av:FnOk P w K mg base CX0 2 Y B ["root", "nodes"] Zfm) :
  FnOk P w K mg base (CXr P w) (kp+3) f fd ["start", "parts", "most"] (ZdO G pf Dom HF fP TM tb):=by
 refine F.okR scLeT (λvs H Q E h=>?_) (λaw A outer s H vs Q E hr h=>?_)
 ·obtain ⟨_,_,_,_,_,rfl,_⟩:=h
  rfl
 ·obtain ⟨b,st,U,Un,M,rfl,ax,hb,ay,hU,az,a1,ad,PO,ab,ld,qq,qe⟩:=h;have a2:Room 2 (A.deeper (PyProof.Rows.envOfC "least_table" (Gg Ze5) s.heap.objs.size f aw)):=hr.mono (by lia);refine ⟨_,Ge (Gp (i:=3) scLeT.nd rfl (Or.inl rfl) (Zc6 am ac a2 rfl TS.mgC aa .nil Gz (Ga (pv 2) Gc)))
    (Gi (Gv (Gk av (hr.mono (by lia)) rfl au ar.kp as .nil Gz (Ga (Gk aq hr rfl ap an.kp ao .nil ZeK (Ga (pv 0) (Ga (pv 1) (Ga (pv 3) Gc)))) (Ga (OK (pv 3) rfl) Gc))))),?_⟩
  refine ⟨_,rfl,λp dx hp a3 aE=>?_⟩;refine ⟨p,dx,.int M,rfl,Gb,λnl pd H2 ae ag aF S2 k2=>⟨rfl,?_⟩⟩;have k1:∀a u,H a=some u->upd (upd H dx (.own p)) p (.ins C dx []) a=some u:=λa u e=>Gj (Gj e (Gf e a3)) (Gf e hp);have s2:Same H H2:=λa u e=>k2 a u (k1 a u e) (Gf e hp);have ah:H nl=none:=by
   cases e:H nl with
   | none=>rfl
   | some u=>rw [k1 _ _ e] at ae;cases ae
  have ai:H pd=none:=by
   cases e:H pd with
   | none=>rfl
   | some u=>rw [k1 _ _ e] at ag;cases ag
  have a4:LD tb H2:=ld.same s2;obtain ⟨aG,eT⟩:=ld.tbl;have up:∀{H':Hp},FrD nl pd tb H2 H'->SameL tb H H':=λfr a u n e=>fr a u (λz=>by rw [z,ah] at e;cases e) (λz=>by rw [z,ai] at e;cases e) n (s2 _ _ e);dsimp only [GY];refine ⟨_,rfl,_,rfl,_,rfl,b,p,nl,pd,st,U,Un,M,[],[],[],rfl,ak ax s2,G.keep hb (λa ys e=>s2 _ _ e),ay,hU,az,by simpa using a1,PO,a4,S2,ShOk.nil,λroot xs ts kvs H3 fr L S3 D hl a5 all nk=>?_,λts H3 fr L D hM hl=>qe ts H3 (up fr) L D hM (by simpa using hl)⟩;obtain ⟨a6,ob⟩:=S3.ob;have a7:ts.length<=Un.length:=by simpa using hl
  have a8:(ts.length:Int)<=M:=by
   rcases a5 with h | h
   ·exact h
   ·rw [h];exact ad.1
  refine ⟨_,rfl,p,C,a6,_,_,rfl,ob,TS.cl,TS.nN,Os _ _ _,?_⟩;refine ⟨nl,root,xs,ts,rfl,S3.nd,S3.tr,D.sh.ok,by lia,nk.at_ (-1) ab,λq l a0 ys us fs H4 s4 hq a9 W rch fin nd aA sd aB aC h0=>?_⟩;obtain ⟨aD,aj⟩:=L.tbl;exact qq q l a0 root ys us ts fs H4 ((up fr).trans (SameL.of s4)) (L.same s4) ((up fr).free eT ⟨_,aj⟩ hq) ((up fr).free eT ⟨_,aj⟩ a9) W ⟨D,nk,rch,fin,nd,aA,sd,aB,aC,h0,all⟩ a7 a8
end
noncomputable def Sim (ts ts':List Tri)(c c':Int):Prop:=∀s,Has ts c s↔Has ts' c' s
section
variable {ts ts':List Tri}{c c' lo lo':Int}{r r':Tri}
theorem Sim.symm (h:Sim ts ts' c c'):Sim ts' ts c' c:=λs=>(h s).symm
theorem ZaO (n:Nd ts c r):r∈ts:=Yau n.2
theorem OZ (S:ShOk ts):∀(n:Nat)(c lo:Int),At ts c lo->(30-lo).toNat<=n->c≠0->∃s,Has ts c s
 | n,c,lo,h,hn,h0=>by
  rcases h with h | rfl | ⟨r,m,g⟩
  ·exact absurd h h0
  ·exact ⟨[],.one⟩
  ·obtain ⟨⟨a1,a2⟩,a3,a4⟩:=S.ok.nd m
   match n with
   | 0=>lia
   | n+1=>
    obtain ⟨s,j⟩:=OZ S n r.2.2 r.1 a4 (by lia) (S.hi r (ZaO m));exact ⟨_,.high m j⟩
theorem Sim.zero (S:ShOk ts)(h:Sim ts ts' c c')(a:At ts c lo)(e:c'=0):c=0:=by
 subst e;by_cases z:c=0
 ·exact z
 ·obtain ⟨s,j⟩:=OZ S _ c lo a (Yad _) z;exact absurd ((h s).mp j) Has.zero
theorem Sim.one (S:ShOk ts)(h:Sim ts ts' c c')(a:At ts c lo)(e:c'=1):c=1:=by
 subst e;rcases a with rfl | z | ⟨r,m,_⟩
 ·exact absurd ((h []).mpr .one) Has.zero
 ·exact z
 ·obtain ⟨s,j⟩:=OZ S _ r.2.2 r.1 (S.ok.nd m).2.2 (Yad _) (S.hi r (ZaO m));have:=Has.at1.mp ((h _).mp (.high m j));cases this
theorem Sim.le (S:ShOk ts)(j:ShOk ts')(h:Sim ts ts' c c')(n:Nd ts c r)(B:Nd ts' c' r'):r'.1<=r.1:=by
 obtain ⟨s,D⟩:=OZ S _ r.2.2 r.1 (S.ok.nd n).2.2 (Yad _) (S.hi r (ZaO n));by_cases z:r.1<r'.1
 ·exact absurd ((h _).mp (.high n D)) (Has.none j.ok B z)
 ·lia
theorem Sim.node (S:ShOk ts)(j:ShOk ts')(h:Sim ts ts' c c')(n:Nd ts c r)(B:Nd ts' c' r'):r.1=r'.1/\Sim ts ts' r.2.1 r'.2.1/\Sim ts ts' r.2.2 r'.2.2:=by
 have e:r.1=r'.1:=by
  have h1:=h.le S j n B;have h2:=h.symm.le j S B n
  lia
 refine ⟨e,λs=>?_,λs=>?_⟩
 ·cases s with
  | nil=>rw [<-Has.nil n,<-Has.nil B];exact h []
  | cons x xs=>
   by_cases z:r.1=x
   ·constructor
    ·intro k;have:=k.gt S.ok (S.ok.nd n).2.1 rfl
     lia
    ·intro k;have:=k.gt j.ok (j.ok.nd B).2.1 rfl
     lia
   ·rw [<-Has.skip S.ok n z,<-Has.skip j.ok B (by lia)];exact h _
 ·rw [<-Has.take S.ok n rfl,<-Has.take j.ok B e.symm];exact h _
theorem Xd (S:ShOk ts):∀(n:Nat)(c c' lo lo':Int),At ts c lo->At ts c' lo'->(30-lo).toNat<=n->Sim ts ts c c'->c=c'
 | n,c,c',lo,lo',a,a',hn,h=>by
  by_cases z0:c=0
  ·rw [z0,h.symm.zero S a' z0]
  by_cases z1:c=1
  ·rw [z1,h.symm.one S a' z1]
  have y0:c'≠0:=λz=>z0 (h.zero S a z);have L:c'≠1:=λz=>z1 (h.one S a z);rcases a with z | z | ⟨r,m,g⟩
  ·exact absurd z z0
  ·exact absurd z z1
  rcases a' with z | z | ⟨r',j,g'⟩
  ·exact absurd z y0
  ·exact absurd z L
  obtain ⟨O,U,Y⟩:=h.node S S m j;obtain ⟨⟨a1,a2⟩,Z,a4⟩:=S.ok.nd m;obtain ⟨_,b3,b4⟩:=S.ok.nd j
  match n with
  | 0=>lia
  | n+1=>
   have f2:=Xd S n _ _ _ _ Z b3 (by lia) U;have f3:=Xd S n _ _ _ _ a4 b4 (by lia) Y;have er:r=r':=Prod.ext O (Prod.ext f2 f3);subst er;obtain ⟨h1,h2⟩:=Yaj.mp m.2;obtain ⟨B,D⟩:=Yaj.mp j.2;have:(c-2).toNat=(c' - 2).toNat:=by
    rcases Nat.lt_trichotomy (c-2).toNat (c' - 2).toNat with z | z | z
    ·exact absurd (h2.trans D.symm) (Ydf.mp S.nd _ _ h1 B z)
    ·exact z
    ·exact absurd (D.trans h2.symm) (Ydf.mp S.nd _ _ B h1 z)
   have g1:=m.1;have g2:=j.1
   lia
end
inductive All2 {α β:Type}(R:α->β->Prop):List α->List β->Prop
 | nil:All2 R [] []
 | cons {x:α} {y:β} {xs:List α} {ys:List β}:R x y->All2 R xs ys->All2 R (x::xs) (y::ys)
section
variable {α β:Type}{R R':α->β->Prop}{xs xs':List α}{ys ys':List β}
theorem All2.len (h:All2 R xs ys):xs.length=ys.length:=by
 induction h with
 | nil=>rfl
 | cons _ _ ih=>simp [ih]
theorem All2.app (h:All2 R xs ys)(h':All2 R xs' ys'):All2 R (xs++xs') (ys++ys'):=by
 induction h with
 | nil=>exact h'
 | cons a _ ih=>exact .cons a ih
theorem All2.get (h:All2 R xs ys):∀{i:Nat}{x:α}{y:β},xs[i]?=some x->ys[i]?=some y->R x y:=by
 induction h with
 | nil=>intro i x y e;simp at e
 | cons a _ ih=>
  intro i x y e j;cases i with
  | zero=>simp at e j;subst e j;exact a
  | succ i=>exact ih (by simpa using e) (by simpa using j)
theorem All2.memR (h:All2 R xs ys){y:β}(j:y∈ys):∃x∈xs,R x y:=by
 induction h with
 | nil=>cases j
 | cons a _ ih=>
  rcases Yaz.mp j with rfl | j
  ·exact ⟨_,Yaw,a⟩
  ·obtain ⟨x,B,r⟩:=ih j;exact ⟨x,Ybc _ B,r⟩
end
section
variable {ts ts':List Tri}{root root':Int}
structure SimA (ts ts':List Tri)(c c':Int):Prop where
 s:Sim ts ts' c c'
 a:At ts c (-1)
 b:At ts' c' (-1)
theorem SimA.symm {c c':Int}(h:SimA ts ts' c c'):SimA ts' ts c' c:=⟨h.s.symm,h.b,h.a⟩
theorem SimA.new {f g:List Int}{y j:Int}(S:ShOk ts)(D:ShOk ts')(A:All2 (SimA ts ts') f g)(h:SimA ts ts' y j)(n:New f y):New g j:=by
 refine ⟨λz=>n.1 (h.s.zero S h.a z),λz=>n.2.1 (h.s.one S h.a z),λz=>?_⟩;obtain ⟨x,B,k⟩:=A.memR z;have:y=x:=Xd S _ _ _ _ _ h.a k.a (Yad _) λs=>(h.s s).trans (k.s s).symm;exact n.2.2 (this▸B)
theorem All2.symm {α β:Type}{R:α->β->Prop}{xs:List α}{ys:List β}(h:All2 R xs ys):All2 (λy x=>R x y) ys xs:=by
 induction h with
 | nil=>exact .nil
 | cons a _ ih=>exact .cons a ih
theorem All2.imp {α β:Type}{R R':α->β->Prop}{xs:List α}{ys:List β}(h:All2 R xs ys)(k:∀x y,R x y->R' x y):All2 R' xs ys:=by
 induction h with
 | nil=>exact .nil
 | cons a _ ih=>exact .cons (k _ _ a) ih
theorem Yy (S:ShOk ts)(B:ShOk ts')(L:SimA ts ts' root root'){f g:List Int}(A:All2 (SimA ts ts') f g)(D:∀x∈f,2<=x):All2 (SimA ts ts') (JP ts root f) (JP ts' root' g):=by
 unfold JP;refine .cons L ?_
 induction A with
 | nil=>exact .nil
 | @cons x y xs ys a A ih=>
  rw [List.flatMap_cons,List.flatMap_cons];refine All2.app ?_ (ih λz O=>D z (Ybc _ O));have h2:=D x Yaw;obtain ⟨r,n,_⟩:=a.a.nd (by lia);have y0:y≠0:=λz=>by have:=a.s.zero S a.a z;lia
  have y1:y≠1:=λz=>by have:=a.s.one S a.a z;lia
  obtain ⟨r',j,_⟩:=a.b.nd (by have:=a.b.lt;lia);obtain ⟨e1,U,Y⟩:=a.s.node S B n j;obtain ⟨p1,p2,Z⟩:=S.ok.nd n;obtain ⟨q1,q2,q3⟩:=B.ok.nd j;rw [Ym n,Ym j];exact .cons ⟨U,p2.mono (by lia),q2.mono (by lia)⟩ (.cons ⟨Y,Z.mono (by lia),q3.mono (by lia)⟩ .nil)
theorem ZdP (S:ShOk ts)(D:ShOk ts')(Y:SimA ts ts' root root'){f g:List Int}(A:All2 (SimA ts ts') f g)(Z:∀x∈f,2<=x){x:Int}(h:Ext ts root f x):∃y,Ext ts' root' g y/\SimA ts ts' x y:=by
 obtain ⟨p,q,e,n,old⟩:=h;have B:=Yy S D Y A Z;have hl:=B.len;rw [e,Yag,Ybm] at hl;have L:p.length<(JP ts' root' g).length:=by lia
 have gx:(JP ts root f)[p.length]?=some x:=by rw [e,Ybw (Yad _),Ycg];rfl
 have gy:(JP ts' root' g)[p.length]?=some (JP ts' root' g)[p.length]:=Yap L;have k:=B.get gx gy;refine ⟨_,⟨(JP ts' root' g).take p.length,(JP ts' root' g).drop (p.length+1),?_,k.new S D A n,λy hy hn=>?_⟩,k⟩
 ·rw [<-Yde L,Ycw]
 ·obtain ⟨j,hj,O⟩:=Yel hy;rw [Ybj] at hj;rw [List.getElem_take] at O;have gj:(JP ts root f)[j]?=some p[j]:=by rw [e,Ybp (by lia)];exact Yap (by lia)
  have U:=B.get gj (Yap (by lia));rw [O] at U;exact old _ (Yea (by lia)) (U.symm.new D S (A.symm.imp λ_ _ z=>z.symm) hn)
theorem ZaP {f:List Int}(S:ShOk ts)(a:At ts root (-1))(h:Rch ts root f):∀x∈f,2<=x:=by
 intro x D;obtain ⟨i,hi,e⟩:=Yel D;obtain ⟨p,q,es,n,_⟩:=h.at i x (by rw [Yap hi,e]);have B:x∈JP ts root (f.take i):=by rw [es];simp
 have h0:0<=x:=by
  unfold JP at B;rcases Yaz.mp B with rfl | B
  ·exact a.lt.1
  ·obtain ⟨y,_,j⟩:=List.mem_flatMap.mp B;unfold chT at j;cases e2:ts[(y-2).toNat]? with
   | none=>rw [e2] at j;cases j
   | some r=>
    rw [e2] at j;obtain ⟨_,L,O⟩:=S.ok _ r e2;simp at j;rcases j with rfl | rfl
    ·exact L.lt.1
    ·exact O.lt.1
 have:=n.1;have:=n.2.1
 lia
theorem ZdQ (S:ShOk ts)(B:ShOk ts')(j:SimA ts ts' root root'){f:List Int}(h:Rch ts root f):∃g,Rch ts' root' g/\All2 (SimA ts ts') f g:=by
 induction h with
 | nil=>exact ⟨[],.nil,.nil⟩
 | @snoc f x h e ih=>
  obtain ⟨g,D,A⟩:=ih;obtain ⟨y,L,k⟩:=ZdP S B j A (ZaP S j.a h) e;exact ⟨g++[y],.snoc D L,A.app (.cons k .nil)⟩
theorem ZdR (S:ShOk ts)(j:ShOk ts')(B:SimA ts ts' root root'){f g:List Int}(h:Rch ts root f)(A:All2 (SimA ts ts') f g)(D:Fin ts root f):Fin ts' root' g:=by
 intro y L O;obtain ⟨x,U,k⟩:=(Yy S j B A (ZaP S B.a h)).memR L;exact D x U (k.symm.new j S (A.symm.imp λ_ _ z=>z.symm) O)
end
section
variable {ts ts':List Tri}
theorem Zce (S:ShOk ts)(D:ShOk ts'){x y j B:Int}(h:SimA ts ts' x j)(k:SimA ts ts' y B):x=y↔j=B:=
 ⟨λe=>Xd D _ _ _ _ _ h.b k.b (Yad _) λs=>(h.s s).symm.trans (by rw [e];exact k.s s),
  λe=>Xd S _ _ _ _ _ h.a k.a (Yad _) λs=>(h.s s).trans (by rw [e];exact (k.s s).symm)⟩
theorem ZdS (S:ShOk ts)(B:ShOk ts'){f g:List Int}{y j:Int}(A:All2 (SimA ts ts') f g)(k:SimA ts ts' y j):f.idxOf? y=g.idxOf? j:=by
 induction A with
 | nil=>rfl
 | @cons a b f g h A ih=>
  have e:=Zce S B h k;unfold List.idxOf? at ih ⊢;rw [List.findIdx?_cons,List.findIdx?_cons,ih];by_cases z:a=y
  ·simp [z,e.mp z]
  ·have D:¬ b=j:=λq=>z (e.mpr q);simp [z,D]
theorem XJ (S:ShOk ts)(j:ShOk ts'){f g:List Int}{y B:Int}(A:All2 (SimA ts ts') f g)(k:SimA ts ts' y B):JE f y=JE g B:=by
 unfold JE;by_cases h0:y=0
 ·rw [if_pos h0,if_pos (k.symm.s.zero j k.b h0)]
 rw [if_neg h0,if_neg (λz=>h0 (k.s.zero S k.a z))];by_cases h1:y=1
 ·rw [if_pos h1,if_pos (k.symm.s.one j k.b h1)]
 rw [if_neg h1,if_neg (λz=>h1 (k.s.one S k.a z)),ZdS S j A k]
theorem Zcf (S:ShOk ts)(B:ShOk ts'){root root' a0 L:Int}{fs fs':List Int}{us D:List Tri}(O:SimA ts ts' root root')(R:Rch ts root fs)(Fi:Fin ts root fs)(Sd:Said ts fs us fs.length)(hl:us.length=fs.length)(h0:JE fs root=some a0)(R':Rch ts' root' fs')(U:Fin ts' root' fs')(Y:Said ts' fs' D fs'.length)(ad:D.length=fs'.length)(Z:JE fs' root'=some L):us=D/\a0=L:=by
 obtain ⟨g,Rg,A⟩:=ZdQ S B O R;obtain rfl:=Rg.eq (ZdR S B O R A Fi) R' U;have qV:=A.len;refine ⟨List.ext_getElem? λj=>?_,?_⟩
 ·by_cases hj:j<fs.length
  ·obtain ⟨r,a,b,n,ha,hb,eu⟩:=Sd j _ hj (Yap hj);obtain ⟨r',a',b',n',aa,ab,ac⟩:=Y j _ (by lia) (Yap (show j<g.length by lia));have k:=A.get (Yap hj) (Yap (show j<g.length by lia));obtain ⟨e1,e2,e3⟩:=k.s.node S B n n';obtain ⟨p1,p2,p3⟩:=S.ok.nd n;obtain ⟨q1,q2,q3⟩:=B.ok.nd n';rw [XJ S B A ⟨e2,p2.mono (by lia),q2.mono (by lia)⟩,aa] at ha;rw [XJ S B A ⟨e3,p3.mono (by lia),q3.mono (by lia)⟩,ab] at hb;cases ha;cases hb;rw [eu,ac,e1]
  ·rw [List.getElem?_eq_none (by lia),List.getElem?_eq_none (by lia)]
 ·rw [XJ S B A O,Z] at h0;exact (Ybo h0).symm
end
section
variable {ts us:List Tri}{fs:List Int}
theorem Ux (B:Said ts fs us fs.length){c a:Int}(D:1<c)(e:JE fs c=some a):∃(r:Tri)(a1 b1:Int),Nd ts c r/\JE fs r.2.1=some a1/\JE fs r.2.2=some b1/\Nd us a (r.1,a1,b1):=by
 obtain ⟨h2,j⟩:=OU e D;obtain ⟨r,a1,b1,n,L,O,U⟩:=B _ c (Yaj.mp j).1 j;exact ⟨r,a1,b1,n,L,O,h2,U⟩
theorem ZaQ (B:Said ts fs us fs.length){c:Int}{s:List Int}(h:Has ts c s):∀{a:Int},JE fs c=some a->Has us a s:=by
 induction h with
 | one=>
  intro a e;rw [OV] at e;cases e;exact .one
 | low n _ ih=>
  intro a e;obtain ⟨r,D,L,j,h1,h2,m⟩:=Ux B (by have:=n.1;lia) e;rw [n.one j] at ih;exact .low m (ih h1)
 | high n _ ih=>
  intro a e;obtain ⟨r,D,L,j,h1,h2,m⟩:=Ux B (by have:=n.1;lia) e;rw [n.one j] at ih ⊢;have z:=Has.high m (ih h2);exact z
theorem Jq {c a:Int}(e:JE fs c=some a)(h0:0<=c)(j:¬ 1<c):c=a:=by
 have:c=0\/c=1:=by lia
 rcases this with rfl | rfl
 ·rw [Oe] at e;exact Ybo e
 ·rw [OV] at e;exact Ybo e
theorem V3 {c a:Int}(e:JE fs c=some a)(j:1<c):2<=a:=(OU e j).1
theorem Xe (T:TabOk ts)(D:Said ts fs us fs.length){a:Int}{s:List Int}(h:Has us a s):∀{c lo:Int},At ts c lo->JE fs c=some a->Has ts c s:=by
 induction h with
 | one=>
  intro c lo at_ e;by_cases j:1<c
  ·have:=V3 e j
   lia
  ·rw [Jq e at_.lt.1 j];exact .one
 | low n _ ih=>
  intro c lo at_ e;have j:1<c:=by
   by_cases j:1<c
   ·exact j
   ·have:=Jq e at_.lt.1 j;have:=n.1
    lia
  obtain ⟨r,L,O,B,h1,h2,m⟩:=Ux D j e;rw [n.one m] at ih;exact .low B (ih (T.nd B).2.1 h1)
 | high n _ ih=>
  intro c lo at_ e;have j:1<c:=by
   by_cases j:1<c
   ·exact j
   ·have:=Jq e at_.lt.1 j;have:=n.1
    lia
  obtain ⟨r,L,O,B,h1,h2,m⟩:=Ux D j e;rw [n.one m] at ih ⊢;have z:=Has.high B (ih (T.nd B).2.2 h2);exact z
end
section
variable {κ:Type}{pf:κ->Pt κ}{s:κ}{a0 root:Int}{us ts:List Tri}{fs:List Int}
theorem LeT.has (L:LeT pf s a0 us ts root fs)(ab:Abv pf s (-1))(x:List Int):Has us a0 x↔Zba pf s x:=
 (show Has us a0 x↔Has ts root x from ⟨λh=>Xe L.grw.sh.ok L.said h (L.num.at_ _ ab) L.a0,λh=>ZaQ L.said h L.a0⟩).trans (L.num.has x)
end
theorem Og (m:Nat):JM (m+1)=JM m++[(m:Int)+2]:=by
 unfold JM;rw [List.range_succ,Yak]
 rfl
theorem Yz {m:Nat}{y:Int}:y∈JM m↔2<=y/\y<(m:Int)+2:=by
 unfold JM;rw [Yam];constructor
 ·rintro ⟨i,hi,rfl⟩;have:=Ydn.mp hi
  lia
 ·rintro ⟨h1,h2⟩;exact ⟨(y-2).toNat,Ydn.mpr (by lia),by lia⟩
theorem UQ {m:Nat}{y:Int}:¬ New (JM m) y↔y=0\/y=1\/(2<=y/\y<(m:Int)+2):=by
 unfold New;rw [Yz];constructor
 ·intro h;by_cases h0:y=0
  ·exact .inl h0
  ·by_cases h1:y=1
   ·exact .inr (.inl h1)
   ·refine .inr (.inr ?_);by_cases h2:2<=y/\y<(m:Int)+2
    ·exact h2
    ·exact absurd ⟨h0,h1,h2⟩ h
 ·rintro h ⟨h0,h1,h2⟩;rcases h with h | h | h
  ·exact h0 h
  ·exact h1 h
  ·exact h2 h
theorem Zfp {ts us:List Tri}{i:Nat}(h:i<ts.length):chT (ts++us) ((i:Int)+2)=chT ts ((i:Int)+2):=by
 unfold chT;rw [show ((i:Int)+2-2).toNat=i by lia,Ybp h]
theorem Zfq {ts:List Tri}{i:Nat}(h:ts.length<=i):chT ts ((i:Int)+2)=[]:=by
 unfold chT;rw [show ((i:Int)+2-2).toNat=i by lia,List.getElem?_eq_none h]
theorem V4 {ts us:List Tri}{root:Int}:∀{m:Nat},m<=ts.length->JP (ts++us) root (JM m)=JP ts root (JM m)
 | 0,_=>rfl
 | m+1,h=>by rw [Og,JR,JR,V4 (by lia),Zfp (by lia)]
theorem Zcg {ts:List Tri}{root:Int}:∀{m:Nat},ts.length<=m->JP ts root (JM m)=JP ts root (JM ts.length)
 | m,h=>by
  induction m with
  | zero=>
   have:ts.length=0:=by lia
   rw [this]
  | succ m ih=>
   by_cases z:ts.length=m+1
   ·rw [z]
   ·rw [Og,JR,ih (by lia),Zfq (by lia),Ybt]
theorem Xf {ts:List Tri}{root:Int}(m k:Nat):∃q,JP ts root (JM (m+k))=JP ts root (JM m)++q:=by
 induction k with
 | zero=>exact ⟨[],by rw [Ybt];rfl⟩
 | succ k ih=>
  obtain ⟨q,e⟩:=ih;exact ⟨q++chT ts (((m+k:Nat):Int)+2),by rw [<-Nat.add_assoc,Og,JR,e,Ybg]⟩
theorem Zch {ts us:List Tri}{root:Int}(m:Nat):∃q,JP (ts++us) root (JM m)=JP ts root (JM m)++q:=by
 by_cases h:m<=ts.length
 ·exact ⟨[],by rw [V4 h,Ybt]⟩
 ·obtain ⟨q,e⟩:=Xf (ts:=ts++us) (root:=root) ts.length (m-ts.length);rw [show ts.length+(m-ts.length)=m by lia] at e;exact ⟨q,by rw [e,V4 (Yad _),Zcg (ts:=ts) (m:=m) (by lia)]⟩
theorem ZdT {ts us:List Tri}{root:Int}{m:Nat}{x:Int}(h:Ext ts root (JM m) x):Ext (ts++us) root (JM m) x:=by
 obtain ⟨p,q,e,n,a⟩:=h;obtain ⟨j,B⟩:=Zch (ts:=ts) (us:=us) (root:=root) m;exact ⟨p,q++j,by rw [B,e,Ybg];rfl,n,a⟩
structure BF (ts:List Tri)(m:Nat):Prop where
 ex:∀i,i<m->Ext ts 2 (JM i) ((i:Int)+2)
 old:∀y∈JP ts 2 (JM ts.length),¬ New (JM m) y
theorem BF.start:BF [] 1:=by
 refine ⟨λi hi=>?_,λy j=>?_⟩
 ·have:i=0:=by lia
  subst this;exact ⟨[],[],rfl,⟨by decide,by decide,by simp [JM]⟩,λy j=>by cases j⟩
 ·have:y=2:=by simpa [JP,JM] using j
  rw [this,UQ]
  lia
noncomputable def Nxt (m j:Nat)(a:Int):Prop:=(¬ New (JM m) a/\j=m)\/(a=(m:Int)+2/\j=m+1)
theorem ZaR {m j:Nat}{y:Int}(h:¬ New (JM m) y)(B:m<=j):¬ New (JM j) y:=by
 rw [UQ] at h ⊢
 lia
theorem Nxt.le {m j:Nat}{a:Int}(h:Nxt m j a):m<=j:=by rcases h with ⟨_,h⟩ | ⟨_,h⟩ <;> lia
theorem Nxt.old {m j:Nat}{a:Int}(h:Nxt m j a):¬ New (JM j) a:=by
 rcases h with ⟨h,rfl⟩ | ⟨rfl,rfl⟩
 ·exact h
 ·rw [UQ]
  lia
theorem BF.step {ts:List Tri}{m B O:Nat}{r a b:Int}(h:BF ts m)(hl:ts.length<m)(ha:Nxt m B a)(D:Nxt B O b):BF (ts++[(r,a,b)]) O:=by
 have Z:=ha.le;have l2:=D.le;have U:JP (ts++[(r,a,b)]) 2 (JM (ts.length+1))=JP ts 2 (JM ts.length)++[a,b]:=by
  rw [Og,JR,V4 (Yad _)]
  congr 1
  unfold chT;rw [show ((ts.length:Int)+2-2).toNat=ts.length by lia,Ybw (Yad _),Ycg]
  rfl
 have L:∀i,ts.length+1<=i->∃q,JP (ts++[(r,a,b)]) 2 (JM i)=JP ts 2 (JM ts.length)++[a,b]++q:=λi hi=>by
  obtain ⟨q,e⟩:=Xf (ts:=ts++[(r,a,b)]) (root:=2) (ts.length+1) (i-(ts.length+1));rw [show ts.length+1+(i-(ts.length+1))=i by lia,U] at e;exact ⟨q,e⟩
 have Y:∀i:Nat,New (JM i) ((i:Int)+2):=λi=>⟨by lia,by lia,by rw [Yz];lia⟩;refine ⟨λi hi=>?_,λy j=>?_⟩
 ·by_cases h1:i<m
  ·exact ZdT (h.ex i h1)
  ·obtain ⟨q,e⟩:=L i (by lia);by_cases h2:i<B
   ·rcases ha with ⟨_,z⟩ | ⟨za,z⟩
    ·lia
    ·have hi':i=m:=by lia
     subst hi';refine ⟨JP ts 2 (JM ts.length),b::q,by rw [e,za,Ybg];rfl,Y i,λy j=>h.old y j⟩
   ·rcases D with ⟨_,z⟩ | ⟨zb,z⟩
    ·lia
    ·have hi':i=B:=by lia
     subst hi';refine ⟨JP ts 2 (JM ts.length)++[a],q,by rw [e,zb,Ybg,Ybg];rfl,Y i,λy j=>?_⟩;rcases Yah.mp j with j | j
     ·exact ZaR (h.old y j) Z
     ·rw [Yai.mp j];exact ha.old
 ·rw [Yag,Yat,U] at j;rcases Yah.mp j with j | j
  ·exact ZaR (h.old y j) (by lia)
  ·rcases Yaz.mp j with rfl | j
   ·exact ZaR ha.old l2
   ·rw [Yai.mp j];exact D.old
theorem BF.rch {ts:List Tri}{m:Nat}(h:BF ts m):∀i,i<=m->Rch ts 2 (JM i)
 | 0,_=>.nil
 | i+1,hi=>by
  rw [Og];exact .snoc (h.rch i (by lia)) (h.ex i (by lia))
theorem BF.fin {ts:List Tri}(h:BF ts ts.length):Rch ts 2 (JM ts.length)/\Fin ts 2 (JM ts.length):=⟨h.rch _ (Yad _),h.old⟩
theorem ZaS {ts:List Tri}(T:TabOk ts):Said ts (JM ts.length) ts (JM ts.length).length:=by
 intro j x B ex;rw [Yn] at B;rw [VP B] at ex;cases ex;have num:∀{c lo:Int},At ts c lo->JE (JM ts.length) c=some c:=λ{c lo} h=>by
  rcases h with rfl | rfl | ⟨r,n,_⟩
  ·exact Oe _
  ·exact OV _
  ·have O:=n.1;have D:=(Yaj.mp n.2).1;have e:=L2.numI_of (Vi ts.length) (show 1<c by lia) (i:=(c-2).toNat) (by rw [VP D];congr 1;lia);rw [e]
   congr 1
   lia
 have L:ts[j]?=some ts[j]:=Yap B;obtain ⟨_,h1,h2⟩:=T j _ L;exact ⟨ts[j],_,_,⟨by lia,by rw [show ((j:Int)+2-2).toNat=j by lia];exact L⟩,num h1,num h2,L⟩
noncomputable abbrev Zbb:Stmt:=(Gx Zea).getD 0 (.Pass ⟨0,0,0,0⟩)
noncomputable abbrev Kp:=Int×Option Int
noncomputable def pfS (ks:List Tri)(af:Int->Int->Option Int)(gd':Int->Bool)(k:Kp):Pt Kp:=match k.2 with
 | none=>.leaf 0
 | some m=>if k.1=0 then .leaf 0 else if k.1=1 then .leaf (if gd' m=true then 1 else 0) else match ks[(k.1-2).toNat]? with
  | some r=>.node r.1 (r.2.1,some m) (r.2.2,af m r.1)
  | none=>.leaf 0
noncomputable def Zj (ks:List Tri)(k:Kp):Prop:=k.1=0\/k.1=1\/∃r,Nd ks k.1 r
section
variable {P:Program}{w:World}{K:W.Frag}{mg:Str->Option Value}{base:Heap}
noncomputable def ZgI (B:Hp->Prop)(kd:V->Prop)(af:Int->Int->Option Int):Sp:=λvs H Q _=>∃v m r,vs=[v,.int r]/\KpR (some m) v/\kd v/\B H/\∀(j:V)(H':Hp),Same H H'->KpR (af m r) j->kd j->Q j H'
noncomputable def ZgJ (j:Hp->Prop)(kd:V->Prop)(gd':Int->Bool):Sp:=λvs H Q _=>∃v m,vs=[v]/\KpR (some m) v/\kd v/\j H/\∀H':Hp,Same H H'->Q (.bl (gd' m)) H'
theorem scPrt:JN ["pair", "table", "good", "after", "number", "kept", "road", "low", "high"] ["pair"] ["table", "good", "after"] (Gg Zbb):=⟨rfl,rfl,rfl,by decide +kernel,rfl,by decide +kernel,by decide +kernel,by decide +kernel,by decide +kernel⟩
noncomputable abbrev ZdU:Str:=Str.ofString "sifted.<locals>.parts"
noncomputable abbrev ZdV (clos:OC)(pm:Value)(c':Addr)(j B:Value):Obj:=W.fnMade "parts" ZdU (GX Zbb) (Gx Zbb) (Gg Zbb) clos B pm c' j
structure HFp (H0:Hp)(f c':Addr)(clos:OC)(o:Obj)(fA fG tb:Addr)(H:Hp):Prop where
 s:Same H0 H
 fn:CloFn H f c' ZdU o
 cs:CellsAt H clos [.ref tb,.ref fG,.ref fA]
theorem HFp.same {H0 H H':Hp}{f c':Addr}{clos:OC}{o:Obj}{j B tb:Addr}(h:HFp H0 f c' clos o j B tb H)(q:Same H H'):HFp H0 f c' clos o j B tb H':=⟨h.s.trans q,h.fn.same q,h.cs.same q⟩
theorem ZaT {H0 H:Hp}{clos:OC}(s:Same H0 H)(j:∀c∈clos.map (·.2),H0 c=none):Same H0 (hideC clos H):=λa u e=>by
 rw [Gy (λz=>by rw [j a z] at e;cases e)];exact s a u e
theorem Oh {H H':Hp}{clos:OC}(s:Same (hideC clos H) H'):Same H (Uo clos H H'):=λa u e=>by
 by_cases z:a∈clos.map (·.2)
 ·rw [XH z];exact e
 ·rw [Jz z];exact s a u (by rw [Gy z];exact e)
theorem V5 {H H':Hp}{clos:OC}{a:Addr}{u:HO}(j:∀c∈clos.map (·.2),H' c=none)(e:H' a=some u):Uo clos H H' a=some u:=by
 rw [Jz (λz=>by rw [j a z] at e;cases e)];exact e
theorem Zfr {f c' fA fG tb l ca cg ct:Addr}{O U:FuncData}{Y Z:List Str}{kc:Nat}{pm aa ab:Value}{H0:Hp}{HA HG:Hp->Prop}{kd:V->Prop}{af:Int->Int->Option Int}{gd':Int->Bool}{a0:Int}{xs:List V}{ks:List Tri}(ae:ct≠cg/\ct≠ca/\cg≠ca)(h0:∀c∈[ct,cg,ca],H0 c=none)(tab:TabAt H0 tb l a0 xs ks)(ag:∀H,Same H0 H->HA H/\FnIn H fA)(ah:∀H,Same H0 H->HG H/\FnIn H fG)(bA:Binds K O Y [])(GA:FnOk P w K mg base CX0 kc fA O Y (ZgI HA kd af))(bG:Binds K U Z [])(GG:FnOk P w K mg base CX0 kc fG U Z (ZgJ HG kd gd')) :
  FnOk P w K mg base CX0 (kc+1) f (W.fnX "parts" ZdU (GX Zbb) (Gx Zbb) (Gg Zbb) [(Str.ofString "table", ct),(Str.ofString "good", cg),(Str.ofString "after", ca)] .none .none ab pm none (.ref c') aa) ["pair"]
   (λvs H Q E=>HFp H0 f c' [(Str.ofString "table", ct),(Str.ofString "good", cg),(Str.ofString "after", ca)] (ZdV [(Str.ofString "table", ct),(Str.ofString "good", cg),(Str.ofString "after", ca)] pm c' aa ab) fA fG tb H/\Zho (gkP P w kd) (pfS ks af gd') (Zj ks) vs H Q E):=by
 generalize hcl:[(Str.ofString "table", ct),(Str.ofString "good", cg),(Str.ofString "after", ca)]=clos;have ai:∀c∈clos.map (·.2),H0 c=none:=by rw [<-hcl];exact h0
 refine ZaF (N:=["pair", "table", "good", "after", "number", "kept", "road", "low", "high"]) scPrt (by rw [<-hcl];rfl) (by rw [<-hcl];simp [ae]) (λvs H Q E h=>?_) (λA outer s H vs Q E hr h=>?_)
 ·obtain ⟨_,_,_,rfl,_⟩:=h
  rfl
 ·obtain ⟨hf,b,⟨n,mo⟩,rfl,⟨v,hb,hv,L⟩,hn,q⟩:=h;refine ⟨hf.fn,_,hf.cs,_,(@Ge _ _ _ _ _ (@Ws _ _ _ _ _ _ (pv 0) (ZeI K (n:=2) rfl (Jb (Gn (i:=4) scPrt.nd rfl (Or.inl rfl)) (Jb (Gn (i:=5) scPrt.nd rfl (Or.inl rfl)) UA))) rfl rfl rfl)
 (@Ge _ _ _ _ _ (@Jl _ _ _ _ _ _ _ _ (PW.pt (U1 (Gs U2 (pv 4) Gh (GH _)) (OJ (Gs Zet (pv 5) Zo (GH _))))) (@Gi _ _ _ (@Gv _ _ _ _ Gh)) GC)
 (@Ge _ _ _ _ _ (@Jl _ _ _ _ _ _ _ _ (Gs U2 (pv 4) Gh (GH _)) (@Gi _ _ _ (@Gv _ _ _ _ (X0 (Jh (V1 GG (hr.mono (by lia)) (pv 2) bG .nil Gz (@Ga _ _ _ _ _ (pv 5) Gc rfl))) Gh Gh))) GC)
 (@Ge _ _ _ _ _ (@Ws _ _ _ _ _ _ (@GN _ _ _ _ _ _ _ (Oz K) (@GN _ _ _ _ _ _ _ (Xr K) (pv 1) Gh (λ_ _=>rfl)) (@GW _ _ _ _ _ _ _ _ WA (pv 4) Gh) (λ_ _=>rfl)) (ZeI K (n:=3) rfl (Jb (Gn (i:=6) scPrt.nd rfl (Or.inl rfl)) (Jb (Gn (i:=7) scPrt.nd rfl (Or.inl rfl)) (Jb (Gn (i:=8) scPrt.nd rfl (Or.inl rfl)) UA)))) rfl rfl rfl)
 (@Gi _ _ _ (@Gv _ _ _ _ (@Jf _ _ _ _ _ (@Ga _ _ _ _ _ (pv 6) (@Ga _ _ _ _ _ (@Jf _ _ _ _ _ (@Ga _ _ _ _ _ (pv 7) (@Ga _ _ _ _ _ (pv 5) Gc rfl) rfl)) (@Ga _ _ _ _ _ (@Jf _ _ _ _ _ (@Ga _ _ _ _ _ (pv 8) (@Ga _ _ _ _ _ (V1 GA (hr.mono (by lia)) (pv 3) bA .nil Gz (@Ga _ _ _ _ _ (pv 5) (@Ga _ _ _ _ _ (pv 6) Gc rfl) rfl)) Gc rfl) rfl)) Gc rfl) rfl) rfl)))))))),?_⟩
  have ap:=Ybe.symm;have s0:Same H0 (hideC clos H):=ZaT hf.s ai;have hb:H b=some (.tup [.int n,v]):=hb;have hn:n=0\/n=1\/∃r,Nd ks n r:=hn;have aj:b ∉ clos.map (·.2):=λz=>by
   obtain ⟨o,e⟩:=hf.cs.frz b z;rw [hb] at e;cases e
  have eb:hideC clos H b=some (.tup [.int n,v]):=by rw [Gy aj];exact hb
  have T0:=tab.same s0;have sb:∀{H':Hp},Same (hideC clos H) H'->Same H (Uo clos H H'):=λs'=>Oh s';generalize hideC clos H=Hh at s0 eb T0 sb ⊢;refine ⟨_,rfl,b,_,rfl,SqT.of eb,rfl,_,_,rfl,_,_,rfl,rfl,?_⟩
  try dsimp only [GY]
  have B:∀{v:V}{H':Hp},Same Hh H'->(∀c∈clos.map (·.2),H' c=none)->PV (gkP P w kd) (Uo clos H H') v (pfS ks af gd' (n,mo))->Q v (Uo clos H H'):=λs' _ pv=>q _ _ (sb s') pv;refine ⟨_,rfl,rfl,_,rfl,?_⟩;by_cases z0:n=0
  ·subst z0;refine Ox (Ox λD=>B (Same.refl _) D ?_);cases mo <;> (show _=_) <;> rfl
  rw [Ybv (λz=>z0 (V.int.inj z))];refine J7 ?_;refine ⟨_,rfl,rfl,_,rfl,?_⟩;cases mo with
  | none=>
   have ev:v=.non:=by
    rcases hv with ⟨_,e⟩ | ⟨_,e,_⟩ | ⟨_,e,_⟩
    ·exact e
    ·cases e
    ·cases e
   rw [Ybh ev];refine Ox λD=>B (Same.refl _) D ?_;show _=_
   rfl
  | some m=>
  have ev:v≠.non:=by
   rcases hv with ⟨e,_⟩ | ⟨_,_,e⟩ | ⟨_,_,e⟩
   ·cases e
   ·rw [e];simp
   ·rw [e];simp
  rw [Ybv ev];refine J7 ?_;dsimp only [JV];refine ⟨_,rfl,rfl,_,rfl,?_⟩;by_cases z1:n=1
  ·subst z1;refine Ox ?_;have g1:=ah Hh s0;refine ⟨rfl,g1.2,_,rfl,g1.2,v,m,rfl,hv,L,g1.1,λH' s'=>⟨_,rfl,?_⟩⟩;have ep:pfS ks af gd' (1,some m)=.leaf (if gd' m=true then 1 else 0):=rfl;cases hg:gd' m with
   | true=>
    rw [ep,hg] at B;exact Ox λD=>B s' D rfl
   | false=>
    rw [ep,hg] at B;exact J7 λD=>B s' D rfl
  rw [Ybv (λz=>z1 (V.int.inj z))];refine J7 ?_;dsimp only [JV];obtain ⟨r,n2,ac⟩:=(hn.resolve_left z0).resolve_left z1;obtain ⟨t,et,er⟩:=T0.t.at ac;have ep:pfS ks af gd' (n,some m)=.node r.1 (r.2.1,some m) (r.2.2,af m r.1):=by
   unfold pfS;simp only [if_neg z0,if_neg z1,ac]
  rw [ep] at B;have ex:atI xs (n-2)=some (.ref t):=by
   have:n-2=(((n-2).toNat:Nat):Int):=by lia
   rw [this];exact Gq et
  refine ⟨_,rfl,tb,_,_,_,rfl,rfl,SqT.of T0.w,Gq (j:=1) rfl,_,rfl,_,_,rfl,rfl,l,_,_,_,rfl,rfl,SqL.of T0.l,ex,?_⟩;refine ⟨t,_,rfl,SqT.of er,rfl,_,_,rfl,_,_,rfl,_,_,rfl,rfl,?_⟩
  try dsimp only [GY]
  refine ⟨_,rfl,_,rfl,_,rfl,JS,λt1 ak=>?_⟩;obtain ⟨H1,q_,s1,e1⟩:=nwU (o:=.tup [.int r.2.1,v]) ak;rw [q_];have a1:=ag H1 (s0.trans s1);refine ⟨_,rfl,rfl,a1.2,_,rfl,_,rfl,a1.2,v,m,r.1,rfl,hv,L,a1.1,λv' H2 s2 am ad=>⟨JS,λt2 an=>?_⟩⟩;obtain ⟨H3,q_,s3,e2⟩:=nwU (o:=.tup [.int r.2.2,v']) an;rw [q_];refine ⟨by show 3<=sizeLine;lia,λt3 ao=>λD=>?_⟩;have s4:Same H3 (upd H3 t3 (.tup [.int r.1,.ref t1,.ref t2])):=Same.new ao;exact B (((s1.trans s2).trans s3).trans s4) D ⟨t3,t1,t2,rfl,V5 D Gb,⟨v,V5 D (s4 _ _ ((s2.trans s3) _ _ e1)),hv,L⟩,⟨v',V5 D (s4 _ _ e2),am,ad⟩⟩
end
noncomputable def JB (af:Int->Int->Option Int)(s:List Int)(m:Option Int):Option Int:=s.foldl (λm r=>m.bind λx=>af x r) m
noncomputable def okO (gd':Int->Bool):Option Int->Bool
 | none=>false
 | some x=>gd' x
theorem UR (af:Int->Int->Option Int):∀s,JB af s none=none
 | []=>rfl
 | _::s=>UR af s
section
variable {ks:List Tri}{af:Int->Int->Option Int}{gd':Int->Bool}
theorem XM (n:Int):pfS ks af gd' (n,none)=.leaf 0:=rfl
theorem V6 (m:Option Int):pfS ks af gd' (0,m)=.leaf 0:=by cases m <;> rfl
theorem V7 (m:Int):pfS ks af gd' (1,some m)=.leaf (if gd' m=true then 1 else 0):=rfl
theorem Xg {n m:Int}{r:Tri}(h:Nd ks n r):pfS ks af gd' (n,some m)=.node r.1 (r.2.1,some m) (r.2.2,af m r.1):=by
 have h2:=h.1;unfold pfS;simp only [if_neg (show ¬ n=0 by lia),if_neg (show ¬ n=1 by lia),h.2]
theorem JC {k a b:Kp}{r:Int}(j:Zj ks k)(e:pfS ks af gd' k=.node r a b):∃n m q,k=(n,some m)/\Nd ks n q/\r=q.1/\a=(q.2.1,some m)/\b=(q.2.2,af m q.1):=by
 obtain ⟨n,D⟩:=k;cases D with
 | none=>rw [XM] at e;cases e
 | some m=>
  have j:n=0\/n=1\/∃r,Nd ks n r:=j;rcases j with rfl | rfl | ⟨q,B⟩
  ·rw [V6] at e;cases e
  ·rw [V7] at e;cases e
  ·rw [Xg B] at e;cases e;exact ⟨n,m,q,rfl,B,rfl,rfl,rfl⟩
theorem OH {c lo:Int}{m:Option Int}(h:At ks c lo):Zj ks (c,m):=h.imp id (Or.imp id λ⟨r,e,_⟩=>⟨r,e⟩)
theorem Uc (T:TabOk ks):∀s k,Rc (pfS ks af gd') s k->Zj ks s->Zj ks k:=by
 intro s k h B
 induction h with
 | start=>exact B
 | lo _ e ih=>
  obtain ⟨n,m,q,_,j,_,rfl,_⟩:=JC ih e;exact OH (T.nd j).2.1
 | hi _ e ih=>
  obtain ⟨n,m,q,_,j,_,_,rfl⟩:=JC ih e;exact OH (T.nd j).2.2
theorem Zci (T:TabOk ks){k:Kp}{s:List Int}(h:Zba (pfS ks af gd') k s):Zj ks k->Has ks k.1 s/\okO gd' (JB af s k.2)=true:=by
 induction h with
 | @one k e=>
  intro j;obtain ⟨n,D⟩:=k;cases D with
  | none=>rw [XM] at e;cases e
  | some m=>
   have j:n=0\/n=1\/∃r,Nd ks n r:=j;rcases j with rfl | rfl | ⟨q,B⟩
   ·rw [V6] at e;cases e
   ·rw [V7] at e;injection e with e
    by_cases z:gd' m=true
    ·exact ⟨.one,z⟩
    ·rw [if_neg z] at e;cases e
   ·rw [Xg B] at e;cases e
 | lo e _ ih=>
  intro j;obtain ⟨n,m,q,rfl,B,rfl,rfl,rfl⟩:=JC j e;have:=ih (OH (T.nd B).2.1);exact ⟨.low B this.1,this.2⟩
 | hi e _ ih=>
  intro j;obtain ⟨n,m,q,rfl,B,rfl,rfl,rfl⟩:=JC j e;have:=ih (OH (T.nd B).2.2);exact ⟨.high B this.1,this.2⟩
theorem Zcj {n:Int}{s:List Int}(h:Has ks n s):∀{m:Option Int},okO gd' (JB af s m)=true->Zba (pfS ks af gd') (n,m) s:=by
 have j:∀{s:List Int}{m:Option Int},okO gd' (JB af s m)=true->∃x,m=some x:=λ{s m} e=>by
  cases m with
  | none=>rw [UR] at e;cases e
  | some x=>exact ⟨x,rfl⟩
 induction h with
 | one=>
  intro m e;obtain ⟨x,rfl⟩:=j e;have e:gd' x=true:=e;exact .one (by rw [V7,if_pos e])
 | low n _ ih=>
  intro m e;obtain ⟨x,rfl⟩:=j e;exact .lo (Xg n) (ih e)
 | high n _ ih=>
  intro m e;obtain ⟨x,rfl⟩:=j e;exact .hi (Xg n) (ih e)
theorem ZdW (T:TabOk ks){n:Int}{m:Option Int}{s:List Int}(j:Zj ks (n,m)):Zba (pfS ks af gd') (n,m) s↔(Has ks n s/\okO gd' (JB af s m)=true):=⟨λh=>Zci T h j,λh=>Zcj h.1 h.2⟩
theorem V8 {n lo:Int}{m:Option Int}(a:At ks n lo):Abv (pfS ks af gd') (n,m) lo:=λr x y e=>by
 obtain ⟨j,L,q,D,B,rfl,_⟩:=JC (OH a) e;cases D;obtain ⟨r',j,g⟩:=a.nd (by have:=B.1;lia);rw [j.one B] at g;exact g
theorem ZaU (T:TabOk ks){s:Kp}(L:Zj ks s):Zhp (pfS ks af gd') s:=by
 refine ⟨λk n j e=>?_,λk r a b j e=>?_⟩
 ·obtain ⟨B,O⟩:=k;cases O with
  | none=>rw [XM] at e;cases e;exact .inl rfl
  | some m=>
   have U:B=0\/B=1\/∃r,Nd ks B r:=Uc T _ _ j L;rcases U with rfl | rfl | ⟨q,D⟩
   ·rw [V6] at e;cases e;exact .inl rfl
   ·rw [V7] at e;by_cases z:gd' m=true
    ·rw [if_pos z] at e;cases e;exact .inr rfl
    ·rw [if_neg z] at e;cases e;exact .inl rfl
   ·rw [Xg D] at e;cases e
 ·obtain ⟨n,m,q,rfl,D,rfl,rfl,rfl⟩:=JC (Uc T _ _ j L) e;have:=T.nd D;exact ⟨this.1,V8 this.2.1,V8 this.2.2⟩
inductive Thr (ks:List Tri)(root:Int):Int->List Int->Prop
 | start:Thr ks root root []
 | lo {n:Int} {p:List Int} {r:Tri}:Thr ks root n p->Nd ks n r->Thr ks root r.2.1 p
 | hi {n:Int} {p:List Int} {r:Tri}:Thr ks root n p->Nd ks n r->Thr ks root r.2.2 (p++[r.1])
theorem Zfs (T:TabOk ks){root:Int}{st:Option Int}(D:Zj ks (root,st)){k:Kp}(h:Rc (pfS ks af gd') (root,st) k):∃n p,k=(n,JB af p st)/\Thr ks root n p:=by
 induction h with
 | start=>exact ⟨root,[],rfl,.start⟩
 | lo h e ih=>
  obtain ⟨n,p,rfl,t⟩:=ih;obtain ⟨L,m,q,j,B,rfl,rfl,rfl⟩:=JC (Uc T _ _ h D) e;injection j with e1 e2
  subst e1;exact ⟨_,p,by rw [e2],.lo t B⟩
 | hi h e ih=>
  obtain ⟨n,p,rfl,t⟩:=ih;obtain ⟨L,m,q,j,B,rfl,rfl,rfl⟩:=JC (Uc T _ _ h D) e;injection j with e1 e2
  subst e1;refine ⟨_,p++[q.1],?_,.hi t B⟩;unfold JB at e2 ⊢;rw [List.foldl_append,e2]
  rfl
theorem Thr.has {root n:Int}{p:List Int}(h:Thr ks root n p):∀{s:List Int},Has ks n s->Has ks root (p++s):=by
 induction h with
 | start=>intro s j;exact j
 | lo _ n ih=>intro s j;exact ih (.low n j)
 | hi _ n ih=>intro s j;rw [Ybg];exact ih (.high n j)
end
section
variable {ks:List Tri}
inductive Pth (ks:List Tri):Int->List Int->Int->Prop
 | nil {c:Int}:Pth ks c [] c
 | lo {c n:Int} {r:Tri} {l:List Int}:Nd ks c r->Pth ks r.2.1 l n->Pth ks c l n
 | hi {c n:Int} {r:Tri} {l:List Int}:Nd ks c r->Pth ks r.2.2 l n->Pth ks c (r.1::l) n
theorem Pth.lo' {c n:Int}{p:List Int}(h:Pth ks c p n):∀{r:Tri},Nd ks n r->Pth ks c p r.2.1:=by
 induction h with
 | nil=>intro r n;exact .lo n .nil
 | lo n _ ih=>intro r j;exact .lo n (ih j)
 | hi n _ ih=>intro r j;exact .hi n (ih j)
theorem Pth.hi' {c n:Int}{p:List Int}(h:Pth ks c p n):∀{r:Tri},Nd ks n r->Pth ks c (p++[r.1]) r.2.2:=by
 induction h with
 | nil=>intro r n;exact .hi n .nil
 | lo n _ ih=>intro r j;exact .lo n (ih j)
 | hi n _ ih=>intro r j;exact .hi n (ih j)
theorem Thr.pth {root n:Int}{p:List Int}(h:Thr ks root n p):Pth ks root p n:=by
 induction h with
 | start=>exact .nil
 | lo _ n ih=>exact ih.lo' n
 | hi _ n ih=>exact ih.hi' n
theorem Pth.gt (T:TabOk ks){c n:Int}{p:List Int}(h:Pth ks c p n):∀{lo:Int},At ks c lo->(∀r,p=[]->Nd ks n r->lo<r.1)/\∀y l,p=y::l->lo<y:=by
 induction h with
 | nil=>
  intro lo a;refine ⟨λr _ n=>?_,λy l e=>by cases e⟩;obtain ⟨r',j,g⟩:=a.nd (by have:=n.1;lia);rw [j.one n] at g;exact g
 | @lo c n r l nd _ ih=>
  intro lo a;obtain ⟨r',j,g⟩:=a.nd (by have:=nd.1;lia);rw [j.one nd] at g;have:=ih (T.nd nd).2.1;exact ⟨λq e m=>Int.lt_trans g (this.1 q e m),λy l e=>Int.lt_trans g (this.2 y l e)⟩
 | @hi c n r l nd _ ih=>
  intro lo a;obtain ⟨r',j,g⟩:=a.nd (by have:=nd.1;lia);rw [j.one nd] at g;refine ⟨λq e _=>(by cases e),λy l e=>?_⟩;cases e;exact g
theorem Pth.one (T:TabOk ks){c n:Int}{p:List Int}(h:Pth ks c p n):∀{j:Int}{r r':Tri},Pth ks c p j->Nd ks n r->Nd ks j r'->r.1=r'.1->n=j:=by
 induction h with
 | nil=>
  intro j r r' h' m B e;cases h' with
  | nil=>rfl
  | lo nd h2=>
   have g:=(h2.gt T (T.nd nd).2.1).1 r' rfl B;rw [nd.one m] at g
   lia
 | @lo c n q l nd h1 ih=>
  intro j r r' h' m B e;cases h' with
  | nil=>
   have g:=(h1.gt T (T.nd nd).2.1).1 r rfl m;rw [nd.one B] at g
   lia
  | lo nd2 h2=>
   rw [nd2.one nd] at h2;exact ih h2 m B e
  | hi nd2 h2=>
   have g:=(h1.gt T (T.nd nd).2.1).2 _ _ rfl;rw [nd2.one nd] at g
   lia
 | @hi c n q l nd h1 ih=>
  intro j r r' h' m B e;generalize hp:q.1::l=D at h';cases h' with
  | nil=>cases hp
  | lo nd2 h2=>
   have g:=(h2.gt T (T.nd nd2).2.1).2 _ _ hp.symm;rw [nd2.one nd] at g
   lia
  | hi nd2 h2=>
   injection hp with _ hp
   subst hp;rw [nd2.one nd] at h2;exact ih h2 m B e
noncomputable def AtI (ks:List Tri)(root:Int)(q:List Int×Nat)(n:Int):Prop:=∃(r:Tri)(p s:List Int),Nd ks n r/\Pth ks root p n/\q.1=p++r.1::s/\p.length=q.2
open Classical in
noncomputable def Vm (ks:List Tri)(root:Int)(af:Int->Int->Option Int)(st:Option Int)(q:List Int×Nat):Kp:=if h:∃n,AtI ks root q n then (Classical.choose h,JB af (q.1.take q.2) st) else (0,none)
theorem ZaV (T:TabOk ks){root n:Int}{af:Int->Int->Option Int}{st:Option Int}{q:List Int×Nat}(h:AtI ks root q n):Vm ks root af st q=(n,JB af (q.1.take q.2) st):=by
 have D:∃n,AtI ks root q n:=⟨n,h⟩;unfold Vm;rw [dif_pos D];obtain ⟨r,p,s,L,O,U,l1⟩:=Classical.choose_spec D;obtain ⟨r',Y,s',Z,t2,j,l2⟩:=h;rw [U] at j;have hp:p=Y:=List.append_inj_left j (by lia);have B:=List.append_inj_right j (by lia);injection B with B _
 subst hp;rw [O.one T t2 L Z B]
noncomputable def US (F:List (List Int)):List (List Int×Nat):=F.flatMap λs=>(List.range s.length).map λi=>(s,i)
theorem Vn {L:Nat}:∀(F:List (List Int)),(∀s∈F,s.length<=L)->(US F).length<=F.length * L
 | [],_=>by simp [US]
 | s::F,h=>by
  have ih:=Vn F λt j=>h t (Ybc _ j);have B:=h s (Yaw ..);unfold US at ih ⊢;rw [List.flatMap_cons,Yag,Yab,List.length_range,Ybm,Nat.succ_mul]
  lia
structure SiftOk (ks:List Tri)(root:Int):Prop where
 sh:ShOk ks
 at_:At ks root (-1)
 f:∃F:List (List Int),(∀s,Has ks root s->s∈F)/\(∀s∈F,s.length<=12)/\F.length<=60
theorem SiftOk.keys (O:SiftOk ks root)(af:Int->Int->Option Int)(gd':Int->Bool)(st:Option Int):∃U Un:List Kp,(∀k,Rc (pfS ks af gd') (root,st) k->k∈U)/\(∀k,Rc (pfS ks af gd') (root,st) k->Uw (pfS ks af gd' k)=true->k∈Un)/\U.length<=10000/\Un.length<=720:=by
 obtain ⟨S,ar,F,hF,hL,hl⟩:=O;have D:Zj ks (root,st):=OH ar;have ul:((US F).map (Vm ks root af st)).length<=720:=by
  rw [Yab];have:=Vn F hL
  lia
 have un:∀k,Rc (pfS ks af gd') (root,st) k->Uw (pfS ks af gd' k)=true->k∈(US F).map (Vm ks root af st):=λk B Y=>by
  obtain ⟨n,p,e,t⟩:=Zfs S.ok D B;cases e':pfS ks af gd' k with
  | leaf x=>rw [e'] at Y;cases Y
  | node r a b=>
   obtain ⟨n',m,q,Z,nd,_⟩:=JC (Uc S.ok _ _ B D) e';have e3:n=n':=by rw [e] at Z;injection Z
   subst e3;have hz:=S.hi _ (Yau nd.2);obtain ⟨s,hs⟩:=OZ S _ q.2.2 q.1 (S.ok.nd nd).2.2 (Yad _) hz;have hm:=hF _ (t.has (.high nd hs));refine Yam.mpr ⟨(p++q.1::s,p.length),List.mem_flatMap.mpr ⟨_,hm,Yam.mpr ⟨p.length,Ydn.mpr (by rw [Yag,Ybm];lia),rfl⟩⟩,?_⟩;rw [ZaV S.ok ⟨q,p,s,nd,t.pth,rfl,rfl⟩,e];show (n,JB af (List.take p.length (p++q.1::s)) st)=_;rw [List.take_left']
   rfl
 have j:∀(L:List Kp),(L.flatMap λk=>match pfS ks af gd' k with | .node _ a b=>[a,b] | .leaf _=>[]).length<=2 * L.length:=λL=>by
  induction L with
  | nil=>simp
  | cons k L ih=>
   rw [List.flatMap_cons,Yag,Ybm];have:(match pfS ks af gd' k with | .node _ a b=>[a,b] | .leaf _=>[]:List Kp).length<=2:=by split <;> simp
   lia
 refine ⟨(root,st)::((US F).map (Vm ks root af st)).flatMap λk=>match pfS ks af gd' k with | .node _ a b=>[a,b] | .leaf _=>[],_,λk B=>?_,un,?_,ul⟩
 ·cases B with
  | start=>exact Yaw ..
  | lo h e=>exact Ybc _ (List.mem_flatMap.mpr ⟨_,un _ h (by rw [e];rfl),by rw [e];simp⟩)
  | hi h e=>exact Ybc _ (List.mem_flatMap.mpr ⟨_,un _ h (by rw [e];rfl),by rw [e];simp⟩)
 ·rw [Ybm];have:=j ((US F).map (Vm ks root af st))
  lia
end
noncomputable def Cn (us:List Tri)(j:Int):Prop:=∃(ks:List Tri)(rt:Int)(gs:List Int),ShOk ks/\At ks rt (-1)/\Rch ks rt gs/\Fin ks rt gs/\gs.Nodup/\Said ks gs us gs.length/\us.length=gs.length/\JE gs rt=some j
theorem Cn.has {us ks:List Tri}{B rt:Int}{j:List Int}(S:ShOk ks)(a:At ks rt (-1))(D:Said ks j us j.length)(h0:JE j rt=some B)(x:List Int):Has us B x↔Has ks rt x:=⟨λh=>Xe S.ok D h a h0,λh=>ZaQ D h h0⟩
theorem Cn.eq {us vs:List Tri}{D L:Int}(h:Cn us D)(h':Cn vs L)(e:∀x,Has us D x↔Has vs L x):us=vs/\D=L:=by
 obtain ⟨ks,rt,gs,S,a,R,Fi,_,Y,hl,h0⟩:=h;obtain ⟨aa,ab,ac,Z,a',R',O,_,j,U,B⟩:=h';exact Zcf S Z ⟨λx=>(Cn.has S a Y h0 x).symm.trans ((e x).trans (Cn.has Z a' j B x)),a,a'⟩ R Fi Y hl h0 R' O j U B
theorem XN {B:List Int}{c d a:Int}(D:0<=c)(L:0<=d)(e:JE B c=some a)(j:JE B d=some a):c=d:=by
 by_cases h1:1<c
 ·by_cases h2:1<d
  ·obtain ⟨_,U⟩:=OU e h1;obtain ⟨_,O⟩:=OU j h2;rw [U] at O;exact Ybo O
  ·have:=Jq j L h2;have:=V3 e h1
   lia
 ·by_cases h2:1<d
  ·have:=Jq e D h1;have:=V3 j h2
   lia
  ·rw [Jq e D h1,Jq j L h2]
theorem Cn.sh {us:List Tri}{b0:Int}(h:Cn us b0):ShOk us/\At us b0 (-1):=by
 obtain ⟨ks,rt,B,S,a,R,Fi,nd,L,hl,h0⟩:=h;refine ⟨⟨L.tab S.ok hl,?_,λr hr Z=>?_⟩,L.at a h0⟩
 ·rw [List.nodup_iff_pairwise_ne,Ydf];intro i j hi hj aa e;have hi':i<B.length:=by lia
  have O:j<B.length:=by lia
  obtain ⟨r1,a1,b1,D,x1,y1,U⟩:=L i B[i] hi' (Yap hi');obtain ⟨r2,a2,b2,Y,x2,y2,z2⟩:=L j B[j] O (Yap O);rw [Yap hi] at U;rw [Yap hj,<-e] at z2;have e3:=Ybo (U.symm.trans z2);injection e3 with e4 e5
  injection e5 with e5 e6
  subst e5;subst e6;have l1:=XN (S.ok.nd D).2.1.lt.1 (S.ok.nd Y).2.1.lt.1 x1 x2;have l2:=XN (S.ok.nd D).2.2.lt.1 (S.ok.nd Y).2.2.lt.1 y1 y2;have er:r1=r2:=Prod.ext e4 (Prod.ext l1 l2);subst er;have g1:=D.2;have g2:=Y.2;obtain ⟨q1,q2⟩:=Yaj.mp g1;obtain ⟨q3,q4⟩:=Yaj.mp g2;have:=(List.getElem_inj S.nd).mp (q2.trans q4.symm);have e7:B[i]=B[j]:=by have:=D.1;have:=Y.1;lia
  have:=(List.getElem_inj nd).mp e7
  lia
 ·obtain ⟨i,hi⟩:=List.getElem?_of_mem hr;have hi':i<B.length:=by have:=(Yaj.mp hi).1;lia
  obtain ⟨r1,a1,b1,D,x1,y1,U⟩:=L i B[i] hi' (Yap hi');rw [hi] at U;cases U;have Z:b1=0:=Z;subst Z;have:=XN (S.ok.nd D).2.2.lt.1 (Int.le_refl 0) y1 (Oe _);exact S.hi _ (Yau D.2) this
theorem LeT.told {κ:Type}{pf:κ->Pt κ}{s:κ}{a0 root:Int}{us ts:List Tri}{fs:List Int}(L:LeT pf s a0 us ts root fs)(ab:Abv pf s (-1)):Cn us a0:=⟨ts,root,fs,L.grw.sh,L.num.at_ _ ab,L.rch,L.fin,L.nd,L.said,L.len,L.a0⟩
section
variable {P:Program}{w:World}{K:W.Frag}{mg:Str->Option Value}{base:Heap}
structure LtI where
 f:Addr
 fd:FuncData
 kd:V->Prop
 pf:Kp->Pt Kp
 Dom:Kp->Prop
 HF:Hp->Prop
structure CLt (P:Program)(w:World)(K:W.Frag)(mg:Str->Option Value)(base:Heap)(kp:Nat)(i:LtI):Prop where
 st:∀{H H':Hp},i.HF H->Same H H'->i.HF H'
 fin:∀{H:Hp},i.HF H->FnIn H i.f
 bi:Binds K i.fd ["pair"] []
 ok:FnOk P w K mg base CX0 kp i.f i.fd ["pair"] (λvs H Q E=>i.HF H/\Zho (gkP P w i.kd) i.pf i.Dom vs H Q E)
 dom:∀s k,Rc i.pf s k->i.Dom s->i.Dom k
noncomputable def Zft (P:Program)(w:World)(K:W.Frag)(mg:Str->Option Value)(base:Heap)(j:Nat)(B tb:Addr):Sp:=λvs H Q E=>∃i,CLt P w K mg base j i/\ZdO (gkP P w i.kd) i.pf i.Dom i.HF i.f B tb vs H Q E
noncomputable def Zfu (a b:Addr)(H H':Hp):Prop:=∀c o,c≠a->c≠b->H c=some o->H' c=some o
noncomputable def Zck (tbS:Addr)(H:Hp):Prop:=∃es,TabOn tbS es H/\(es=[]\/∃c,es=[⟨73,4,ZdU,c⟩])
noncomputable def ZaW (P:Program)(w:World)(K:W.Frag)(mg:Str->Option Value)(base:Heap)(tbL tbS:Addr):Sp:=λvs H Q _=>∃(tb l j B:Addr)(fdA fdG:FuncData)(psA psG:List Str)(HA HG:Hp->Prop)(kd:V->Prop)(af:Int->Int->Option Int)(gd':Int->Bool)(a0 st M:Int)(sv:V)(xs:List V)(ks:List Tri),
 vs=[.ref tb,sv,.ref j,.ref B,.int M]/\KpR (some st) sv/\kd sv/\TabAt H tb l a0 xs ks/\SiftOk ks a0/\720<=M/\(∀H':Hp,SameL tbS H H'->HA H'/\FnIn H' j)/\(∀H':Hp,SameL tbS H H'->HG H'/\FnIn H' B) /\
 Binds K fdA psA []/\FnOk P w K mg base CX0 1 j fdA psA (ZgI HA kd af)/\Binds K fdG psG []/\FnOk P w K mg base CX0 1 B fdG psG (ZgJ HG kd gd') /\
 LD tbL H/\tbL≠tbS/\Zck tbS H /\
 ∀(p D:Addr)(b0:Int)(ys:List V)(us:List Tri)(H':Hp),Zfu tbL tbS H H'->LD tbL H'->Zck tbS H'->H p=none->H D=none->TabAt H' p D b0 ys us->Cn us b0->(∀s,Has us b0 s↔(Has ks a0 s/\okO gd' (JB af s (some st))=true))->us.length<=720->Q (.ref p) H'
theorem scSif:Gu ["table", "start", "after", "good", "most", "parts"] ["table", "start", "after", "good", "most"] (Gg Zea):=⟨rfl,rfl,rfl,by decide +kernel,rfl,by decide +kernel,by decide +kernel⟩
theorem Zfv {outer:List Env}{H:Hp}{s:Shared}{j:Value}{s':Shared}(h:CXr P w outer H s E0 j s'):False:=by
 obtain ⟨_,_,_,_,_,z⟩:=h;exact z
noncomputable abbrev clS (L:Addr):OC:=[(Str.ofString "table", L+1),(Str.ofString "good", L+3),(Str.ofString "after", L+2)]
theorem Zfw {f cS ac TM tbL tbS:Addr}{fd L:FuncData}(F:Fun K "sifted" "sifted" Zea f fd)(hc:fd.code=.ref cS)(hC:PySem.W.CodeHd base cS tbS)(am:base.BuiltinsAt mg tbS)(an:Fun K "least_table" "least_table" Ze5 ac L)(ao:Binds K L ["start", "parts", "most"] [])(ap:mg "least_table" = some (.ref ac))(aq:FnOk P w K mg base (CXr P w) 5 ac L ["start", "parts", "most"] (Zft P w K mg base 2 TM tbL)) :
  FnOk P w K mg base CX0 6 f fd ["table", "start", "after", "good", "most"] (ZaW P w K mg base tbL tbS):=by
 refine Fun.okC F hc scSif (λvs H Q E h=>?_) (λA outer s H vs Q E hr h=>?_)
 ·obtain ⟨_,_,_,_,_,_,_,_,_,_,_,_,_,_,_,_,_,_,_,rfl,_⟩:=h
  rfl
 ·obtain ⟨tb,l,fA,fG,a8,a9,aA,aB,HA,HG,kd,af,gd',a0,st,M,sv,xs,ks,rfl,ar,as,T,SO,hM,hA,hG,bA,GA,bG,GG,ld,ad,⟨es,on,au⟩,q⟩:=h;have aC:=Ybe.symm;refine ⟨_,Ge (ZaI (i:=5) (qual:=ZdU) (params:=GX Zbb) (body:=Gx Zbb) (scope:=Gg Zbb) (clos:=clS s.heap.objs.size) scSif.nd rfl (Or.inl rfl) rfl rfl hC am rfl)
   (Gi (Gv (V2 (cl:=clS s.heap.objs.size) (is:=[0,3,2]) (.cons ⟨rfl,rfl,rfl,rfl⟩ (.cons ⟨rfl,rfl,rfl,rfl⟩ (.cons ⟨rfl,rfl,rfl,rfl⟩ .nil))) aq hr rfl ap an.kp ao .nil Zfv (Ga (Jf (Ga (GN (Xr K) (pv 0) Gh (λ_ _=>rfl)) (Ga (pv 1) Gc))) (Ga (pv 5) (Ga (pv 4) Gc)))))),?_⟩
  have ah:=on.1;have nT:∀{a:Addr}{o:HO},H a=some o->(∀ps,o≠.tbl ps)->a≠tbS:=λ{a o} e n z=>by rw [z,ah] at e;cases e;exact n _ rfl
  have stay:∀{H1:Hp},SameL tbS H H1->TabAt H1 tb l a0 xs ks/\LD tbL H1:=λ{H1} O=>by
   refine ⟨⟨O _ _ (nT T.w λ_ z=>by cases z) T.w,O _ _ (nT T.l λ_ z=>by cases z) T.l,T.t.keep λp ys e=>O _ _ (nT e λ_ z=>by cases z) e⟩,?_⟩;rcases ld with e | ⟨c,e,oc,e2,co⟩
   ·exact .inl (O _ _ ad e)
   ·exact .inr ⟨c,O _ _ ad e,oc,O _ _ (nT e2 λ_ z=>by cases z) e2,co⟩
  refine GD (λσ' H'=>∃(Z c':Addr)(B D:Value),σ'=[some (.ref tb),some sv,some (.ref fA),some (.ref fG),some (.int M),some (.ref Z)]/\SameL tbS H H'/\TabOn tbS [⟨73,4,ZdU,c'⟩] H'/\H Z=none/\CloFn H' Z c' ZdU (ZdV (clS s.heap.objs.size) ((mg "__name__").getD .none) c' B D)) ?aft ?dfn
  case dfn=>
   intro hk;rcases au with rfl | ⟨c,rfl⟩
   ·exact ⟨[],on,.inl ⟨rfl,λZ c' B D H' sl av nf cf=>hk _ _ ⟨Z,c',B,D,rfl,sl,av,nf,cf⟩⟩⟩
   ·exact ⟨_,on,.inr ⟨_,Yai.mpr rfl,by simp [W3,codeAmong,rawInt],rfl,λZ B D H' sm nf cf=>hk _ _ ⟨Z,c,B,D,rfl,SameL.of sm,on.same sm,nf,cf⟩⟩⟩
  rintro σ' H1 ⟨Z,c',B,D,rfl,O,ae,nf,cf⟩;obtain ⟨T1,aw⟩:=stay O;refine ⟨_,rfl,tb,_,_,_,rfl,rfl,SqT.of T1.w,Gq (j:=0) rfl,_,rfl,JS,λb hb=>?_⟩;obtain ⟨H2,q_,s2,e2⟩:=nwU (o:=.tup [.int a0,sv]) hb;rw [q_];refine ⟨_,rfl,_,rfl,[.ref tb,.ref fG,.ref fA],.cons rfl (.cons rfl (.cons rfl .nil)),λH3 ai hN aj=>?_⟩;have s3:Same H2 H3:=λa u e=>by rw [ai a (λz=>by rw [hN a z] at e;cases e)];exact e
  have S2:=O.trans (SameL.of s2);have hd:Zj ks (a0,some st):=OH SO.at_;have ab:Abv (pfS ks af gd') (a0,some st) (-1):=V8 SO.at_;obtain ⟨U,Un,hU,ax,ay,aD⟩:=SO.keys af gd' (some st);refine ⟨⟨Z,_,kd,pfS ks af gd',Zj ks,HFp H2 Z c' (clS s.heap.objs.size) (ZdV (clS s.heap.objs.size) ((mg "__name__").getD .none) c' B D) fA fG tb⟩,
   ⟨λh q=>h.same q,λh=>h.fn.fin rfl,Binds.all (λus hl=>by obtain ⟨_,rfl⟩:=Zbp hl;rfl),Zfr (ct:=s.heap.objs.size+1) (cg:=s.heap.objs.size+3) (ca:=s.heap.objs.size+2) (H0:=H2) ⟨λz=>by have z:(s.heap.objs.size+1:Nat)=s.heap.objs.size+3:=z;lia,λz=>by have z:(s.heap.objs.size+1:Nat)=s.heap.objs.size+2:=z;lia,λz=>by have z:(s.heap.objs.size+3:Nat)=s.heap.objs.size+2:=z;lia⟩ hN (T1.same s2) (λH' s'=>hA H' (S2.trans (SameL.of s'))) (λH' s'=>hG H' (S2.trans (SameL.of s'))) bA GA bG GG,Uc SO.sh.ok⟩,?_⟩
  have ak:LD tbL H3:=aw.same (s2.trans s3);refine ⟨b,(a0,some st),U,Un,M,rfl,⟨s3,cf.same (s2.trans s3),aj⟩,⟨sv,s3 _ _ e2,ar,as⟩,hd,hU,ax,ay,⟨by lia,by lia⟩,ZaU SO.sh.ok hd,ab,ak,λp l' b0 root ys us ts fs H4 sl az hp a1 W LT a2 _=>?_,λts H4 _ _ _ a3 a2=>absurd a3 (by lia)⟩;obtain ⟨a7,a4⟩:=ak.tbl;have nL:∀{a:Addr}{o:HO},H3 a=some o->(∀ps,o≠.tbl ps)->a≠tbL:=λ{a o} e n z=>by rw [z,a4] at e;cases e;exact n _ rfl
  have ag:∀a∈(clS s.heap.objs.size).map (·.2),∃o u,H4 a=some (.frz o (.own a))/\o.data=.cell (some u):=λa ha=>by
   obtain ⟨qq,hq,rfl⟩:=Yam.mp ha;obtain ⟨i,hi⟩:=List.getElem?_of_mem hq;obtain ⟨v,_,o,u,e,Y,_⟩:=J1 aj hi;exact ⟨o,u,sl _ _ (nL e λ_ z=>by cases z) e,Y⟩
  have keep:∀{a:Addr}{o:HO},H4 a=some o->(∀ob,o=.frz ob (.own a)->∀u,ob.data≠.cell u)->hideC (clS s.heap.objs.size) H4 a=some o:=λ{a o} e n=>by
   rw [Gy (λz=>?_)]
   ·exact e
   ·obtain ⟨o',u,e',Y⟩:=ag a z;rw [e] at e';cases e';exact n _ rfl _ Y
  have old:∀{a:Addr}{o:HO},a≠tbL->H2 a=some o->hideC (clS s.heap.objs.size) H4 a=some o:=λ{a o} n e=>by
   rw [Gy (λz=>by rw [hN a z] at e;cases e)];exact sl a o n (s3 _ _ e)
  have aa:∀p ys,H4 p=some (.tup ys)->hideC (clS s.heap.objs.size) H4 p=some (.tup ys):=λp ys e=>keep e λob z=>by cases z
  have free:∀{a:Addr},H3 a=none->H a=none:=λ{a} e=>by
   cases y:H a with
   | none=>rfl
   | some u=>
    by_cases z:a=tbS
    ·have:=s3 _ _ (s2 _ _ ae.1);rw [z,this] at e;cases e
    ·rw [s3 _ _ (s2 _ _ (O a u z y))] at e;cases e
  obtain ⟨a5,eP,a6⟩:=ae.2 _ (Yai.mpr rfl);have l1:=LT.len;have l2:=LT.le;refine q p l' b0 ys us _ (λa o n1 n2 e=>old n1 (s2 _ _ (O a o n2 e))) ?_ ⟨_,⟨old (Ne.symm ad) (s2 _ _ ae.1),λy hy=>?_⟩,.inr ⟨c',rfl⟩⟩ (free hp) (free a1) ⟨aa _ _ W.w,keep W.l (λob z=>by cases z),W.t.keep aa⟩ (LT.told ab) (λx=>(LT.has ab x).trans (ZdW SO.sh.ok hd)) (by lia)
  ·rcases az with e | ⟨c,e,oc,e2,co⟩
   ·exact .inl (keep e λob z=>by cases z)
   ·refine .inr ⟨c,keep e (λob z=>by cases z),oc,keep e2 (λob z u hu=>?_),co⟩;cases z;obtain ⟨vs,tq,Y,_⟩:=co;rw [Y] at hu;cases hu
  ·rw [Yai.mp hy];exact ⟨a5,old (nL (s3 _ _ (s2 _ _ eP)) λ_ z=>by cases z) (s2 _ _ eP),a6⟩
end
noncomputable abbrev Fml:=List (List Int)
noncomputable def JU (r:Int)(F:Fml):Fml:=F.filter λs=>decide (s.head?≠some r)
noncomputable def GJ (r:Int)(F:Fml):Fml:=(F.filter λs=>decide (s.head?=some r)).map List.tail
noncomputable def wt (F:Fml):Nat:=(F.map List.length).sum
theorem J3 (r:Int):∀F:Fml,wt (JU r F)+wt (GJ r F)+(GJ r F).length=wt F
 | []=>rfl
 | s::F=>by
  have ih:=J3 r F;unfold wt JU GJ at ih ⊢;cases s with
  | nil=>simpa using ih
  | cons x s=>
   by_cases h:x=r
   ·subst h;simp at ih ⊢
    lia
   ·simp [h] at ih ⊢
    lia
structure FamOk (F:Fml):Prop where
 nd:F.Nodup
 up:∀s∈F,s.Pairwise (· < ·)
 rg:∀s∈F,∀x∈s,0<=x/\x<30
theorem mem_high {r:Int}{F:Fml}{s:List Int}:s∈GJ r F↔(r::s)∈F:=by
 unfold GJ;rw [Yam];constructor
 ·rintro ⟨u,j,rfl⟩;obtain ⟨h1,h2⟩:=Ybq.mp j;cases u with
  | nil=>simp at h2
  | cons x u=>simp at h2;subst h2;exact h1
 ·intro h;exact ⟨r::s,Ybq.mpr ⟨h,by simp⟩,rfl⟩
theorem mem_low {r:Int}{F:Fml}{s:List Int}:s∈JU r F↔(s∈F/\s.head?≠some r):=by
 unfold JU;rw [Ybq];simp
theorem FamOk.low {F:Fml}(h:FamOk F)(r:Int):FamOk (JU r F):=⟨h.nd.filter _,λs j=>h.up s (mem_low.mp j).1,λs j=>h.rg s (mem_low.mp j).1⟩
theorem Vo (r:Int):∀F:Fml,F.Nodup->(GJ r F).Nodup
 | [],_=>Ycv
 | s::F,h=>by
  obtain ⟨h1,h2⟩:=List.nodup_cons.mp h;have j:=Vo r F h2;cases s with
  | nil=>simpa [GJ] using j
  | cons x s=>
   by_cases e:x=r
   ·subst e;have:GJ x ((x::s)::F)=s::GJ x F:=by simp [GJ]
    rw [this];exact List.nodup_cons.mpr ⟨λz=>h1 (mem_high.mp z),j⟩
   ·have:GJ r ((x::s)::F)=GJ r F:=by simp [GJ,e]
    rw [this];exact j
theorem FamOk.high {F:Fml}(h:FamOk F)(r:Int):FamOk (GJ r F):=⟨Vo r F h.nd,λs j=>(Yds.mp (h.up _ (mem_high.mp j))).2,λs j x B=>h.rg _ (mem_high.mp j) x (Ybc _ B)⟩
noncomputable def Inner (F:Fml):Prop:=F≠[]/\F≠[[]]
theorem Inner.ex {F:Fml}(h:Inner F)(nd:F.Nodup):∃x s,(x::s)∈F:=by
 cases F with
 | nil=>exact absurd rfl h.1
 | cons s F=>
  cases s with
  | cons x s=>exact ⟨x,s,Yaw ..⟩
  | nil=>
   cases F with
   | nil=>exact absurd rfl h.2
   | cons u F=>
    cases u with
    | nil=>simp at nd
    | cons x u=>exact ⟨x,u,by simp⟩
theorem Zfx {F:Fml}(h:Inner F)(nd:F.Nodup):1<=wt F:=by
 obtain ⟨x,s,j⟩:=h.ex nd;have:=J3 x F;have h1:0<(GJ x F).length:=List.length_pos_iff.mpr (List.ne_nil_of_mem (mem_high.mpr j))
 lia
noncomputable def Zcl (r:Int)(F:Fml):Prop:=(∃s,(r::s)∈F)/\∀x s,(x::s)∈F->r<=x
noncomputable def Num (R:List Fml)(G:Fml)(c:Int):Prop:=(G=[]/\c=0)\/(G=[[]]/\c=1)\/∃i:Nat,R[i]?=some G/\c=(i:Int)+2
theorem Num.app {R:List Fml}{G:Fml}{c:Int}(h:Num R G c)(S:List Fml):Num (R++S) G c:=by
 rcases h with h | h | ⟨i,h,e⟩
 ·exact .inl h
 ·exact .inr (.inl h)
 ·exact .inr (.inr ⟨i,by rw [Ybp (Yaj.mp h).1];exact h,e⟩)
noncomputable def Xh (R:List Fml)(F:Fml)(r:Tri):Prop:=Zcl r.1 F/\Num R (JU r.1 F) r.2.1/\Num R (GJ r.1 F) r.2.2
structure Rw (F0:Fml)(R:List Fml)(ts:List Tri)(W:Nat):Prop where
 ok:∀F∈R,FamOk F/\Inner F
 nd:∀(i:Nat)(r:Tri),ts[i]?=some r->∃F,R[i]?=some F/\Xh R F r
 ln:ts.length<=R.length
 z:R[0]?=some F0
 we:ts.length+((R.drop ts.length).map wt).sum<=W
theorem ZcR {R:List Fml}(h:∀F∈R,FamOk F/\Inner F):R.length<=(R.map wt).sum:=by
 induction R with
 | nil=>exact Yad _
 | cons F R ih=>
  have h1:=ih λG j=>h G (Ybc _ j);have h2:=Zfx (h F (Yaw ..)).2 (h F (Yaw ..)).1.nd;simp
  lia
theorem Rw.start {F:Fml}(h:FamOk F)(i:Inner F):Rw F [F] [] (wt F):=⟨λG j=>by rw [Yai.mp j];exact ⟨h,i⟩,λi r e=>(by simp at e),Yan _,rfl,by simp⟩
theorem Rw.len {j:Fml}{R:List Fml}{ts:List Tri}{W:Nat}(h:Rw j R ts W):R.length<=W:=by
 have h1:=ZcR (R:=R.drop ts.length) λF B=>h.ok F (List.mem_of_mem_drop B);rw [Ydw] at h1;have:=h.ln;have:=h.we
 lia
theorem Rw.step {L F:Fml}{R S:List Fml}{ts:List Tri}{W:Nat}{r:Tri}(h:Rw L R ts W)(O:R[ts.length]?=some F)(Z:∀G∈S,FamOk G/\Inner G)(hw:(S.map wt).sum<=wt (JU r.1 F)+wt (GJ r.1 F))(n:Xh (R++S) F r):Rw L (R++S) (ts++[r]) W:=by
 obtain ⟨U,eF⟩:=Yaj.mp O;have Y:=J3 r.1 F;have h1:0<(GJ r.1 F).length:=by
  obtain ⟨s,Y⟩:=n.1.1;exact List.length_pos_iff.mpr (List.ne_nil_of_mem (mem_high.mpr Y))
 refine ⟨λG j=>?_,λi q e=>?_,?_,?_,?_⟩
 ·rcases Yah.mp j with j | j
  ·exact h.ok G j
  ·exact Z G j
 ·by_cases hi:i<ts.length
  ·rw [Ybp hi] at e;obtain ⟨G,g1,g2,g3,g4⟩:=h.nd i q e;exact ⟨G,by rw [Ybp (by lia)];exact g1,g2,g3.app S,g4.app S⟩
  ·have B:=(Yaj.mp e).1;rw [Yag,Yat] at B;have:i=ts.length:=by lia
   subst this;rw [Ybw (Yad _),Ycg] at e;cases e;exact ⟨F,by rw [Ybp U];exact O,n⟩
 ·rw [Yag,Yag,Yat]
  lia
 ·rw [Ybp (by lia)];exact h.z
 ·have D:=h.we;rw [Yde U,eF,Yaq,List.sum_cons] at D;rw [Yag,Yat,List.drop_append_of_le_length (by lia),Yak,List.sum_append]
  lia
theorem Rw.meas {B F:Fml}{R S:List Fml}{ts:List Tri}{W:Nat}{r:Tri}(h:Rw B R ts W)(D:R[ts.length]?=some F)(U:(S.map wt).sum<=wt (JU r.1 F)+wt (GJ r.1 F))(n:Zcl r.1 F):(((R++S).drop (ts++[r]).length).map wt).sum<((R.drop ts.length).map wt).sum:=by
 obtain ⟨L,O⟩:=Yaj.mp D;have j:=J3 r.1 F;have h1:0<(GJ r.1 F).length:=by
  obtain ⟨s,j⟩:=n.1;exact List.length_pos_iff.mpr (List.ne_nil_of_mem (mem_high.mpr j))
 rw [Yde L,O,Yaq,List.sum_cons,Yag,Yat,List.drop_append_of_le_length (by lia),Yak,List.sum_append]
 lia
theorem ZaX {R:List Fml}{ts:List Tri}(D:ts.length=R.length)(nd:∀(i:Nat)(r:Tri),ts[i]?=some r->∃F,R[i]?=some F/\Xh R F r){G:Fml}{c lo:Int}(h:Num R G c)(j:∀x s,(x::s)∈G->lo<x):At ts c lo:=by
 rcases h with h | h | ⟨i,h,rfl⟩
 ·exact .inl h.2
 ·exact .inr (.inl h.2)
 ·have hi:i<ts.length:=by rw [D];exact (Yaj.mp h).1
  obtain ⟨F,B,L,_⟩:=nd i ts[i] (Yap hi);rw [h] at B;cases B;obtain ⟨s,O⟩:=L.1;exact .inr (.inr ⟨ts[i],⟨by lia,by rw [show ((i:Int)+2-2).toNat=i by lia];exact Yap hi⟩,j _ s O⟩)
theorem ZdX {R:List Fml}{ts:List Tri}(O:ts.length=R.length)(nd:∀(i:Nat)(r:Tri),ts[i]?=some r->∃F,R[i]?=some F/\Xh R F r):∀(n:Nat){G:Fml}{c:Int},wt G<=n->Num R G c->∀s,Has ts c s↔s∈G:=by
 intro n
 induction n with
 | zero=>
  intro G c Z h s;rcases h with ⟨rfl,rfl⟩ | ⟨rfl,rfl⟩ | ⟨i,h,rfl⟩
  ·exact ⟨λz=>absurd z Has.zero,λz=>by cases z⟩
  ·rw [Has.at1];simp
  ·have hi:i<ts.length:=by rw [O];exact (Yaj.mp h).1
   obtain ⟨F,j,B,_⟩:=nd i ts[i] (Yap hi);rw [h] at j;cases j;obtain ⟨s,hs⟩:=B.1;have h0:=J3 ts[i].1 G;have h1:0<(GJ ts[i].1 G).length:=List.length_pos_iff.mpr (List.ne_nil_of_mem (mem_high.mpr hs))
   lia
 | succ n ih=>
  intro G c Z h s;rcases h with ⟨rfl,rfl⟩ | ⟨rfl,rfl⟩ | ⟨i,h,rfl⟩
  ·exact ⟨λz=>absurd z Has.zero,λz=>by cases z⟩
  ·rw [Has.at1];simp
  ·have hi:i<ts.length:=by rw [O];exact (Yaj.mp h).1
   obtain ⟨F,j,B,U,Y⟩:=nd i ts[i] (Yap hi);rw [h] at j;cases j;have D:Nd ts ((i:Int)+2) ts[i]:=⟨by lia,by rw [show ((i:Int)+2-2).toNat=i by lia];exact Yap hi⟩;generalize ts[i]=r at B U Y D;obtain ⟨s0,L⟩:=B.1;have h0:=J3 r.1 G;have h1:0<(GJ r.1 G).length:=List.length_pos_iff.mpr (List.ne_nil_of_mem (mem_high.mpr L));have i1:=ih (by lia) U;have i2:=ih (by lia) Y;cases s with
   | nil=>
    rw [Has.nil D,i1,mem_low];exact ⟨λz=>z.1,λz=>⟨z,by simp⟩⟩
   | cons x xs=>
    rw [Has.cons D,i1,i2,mem_low,mem_high];constructor
    ·rintro (z | ⟨rfl,z⟩)
     ·exact z.1
     ·exact z
    ·intro z;by_cases e:x=r.1
     ·subst e;exact .inr ⟨rfl,z⟩
     ·exact .inl ⟨z,by simp [e]⟩
theorem Zfy {F:Fml}{r:Int}(h:Zcl r F):∀x s,(x::s)∈JU r F->r<x:=λx s j=>by
 obtain ⟨h1,h2⟩:=mem_low.mp j;have:=h.2 x s h1;have:x≠r:=λe=>h2 (by rw [e];rfl)
 lia
theorem ZdY {F:Fml}{r:Int}(ok:FamOk F):∀x s,(x::s)∈GJ r F->r<x:=λx s j=>(Yds.mp (ok.up _ (mem_high.mp j))).1 x (Yaw ..)
theorem Rw.fin {B:Fml}{R:List Fml}{ts:List Tri}{W:Nat}(h:Rw B R ts W)(D:ts.length=R.length):TabOk ts/\At ts 2 (-1)/\∀s,Has ts 2 s↔s∈B:=by
 have U:Num R B 2:=.inr (.inr ⟨0,h.z,by lia⟩);have L:=h.ok B (Yau h.z);refine ⟨λi r e=>?_,ZaX D h.nd U (λx s O=>by have:=L.1.rg _ O x (Yaw ..);lia),ZdX D h.nd _ (Yad _) U⟩;obtain ⟨F,Z,Y,g3,g4⟩:=h.nd i r e;have j:=(h.ok F (Yau Z)).1;refine ⟨?_,ZaX D h.nd g3 (Zfy Y),ZaX D h.nd g4 (ZdY j)⟩;obtain ⟨s,O⟩:=Y.1;exact j.rg _ O r.1 (Yaw ..)
section
variable {H0 H H1 H':Hp}{d p:Addr}{o:HO}{c c':Nat}
noncomputable def Pool (H:Hp)(d:Addr)(c:Nat):Prop:=∃n b k:Int,H d=some (.lst [.int n,.int b,.int k])/\0<=k/\k<=(c:Int)
theorem Pool.mono (h:Pool H d c)(j:c<=c'):Pool H d c':=let ⟨n,b,k,e,h0,h1⟩:=h;⟨n,b,k,e,h0,by lia⟩
theorem Pool.same (h:Pool H d c)(s:Same H H'):Pool H' d c:=let ⟨n,b,k,e,h0,h1⟩:=h;⟨n,b,k,s _ _ e,h0,h1⟩
structure Pk (H0 H:Hp)(d:Addr)(c:Nat):Prop where
 keep:∀b o,b≠d->H0 b=some o->H b=some o
 at_:Pool H d c
theorem Pk.start (h:Pool H d c):Pk H H d c:=⟨λ_ _ _ e=>e,h⟩
theorem Pk.grow (h:Pk H0 H d c)(s:Same H H'):Pk H0 H' d c:=⟨λb o n e=>s b o (h.keep b o n e),h.at_.same s⟩
theorem Pk.new (h:Pk H0 H d c)(j:H p=none):Pk H0 (upd H p o) d c:=h.grow (Same.new j)
theorem Pool.ne (h:Pool H d c)(j:H p=none):d≠p:=by
 obtain ⟨_,_,_,e,_⟩:=h;exact Gf e j
theorem Pk.free (h:Pk H0 H d c)(j:H p=none):H0 p=none:=by
 cases e:H0 p with
 | none=>rfl
 | some o=>rw [h.keep p o (Ne.symm (h.at_.ne j)) e] at j;cases j
theorem Pk.put (h:Pk H0 H d c)(j:H0 p=none)(B:d≠p):Pk H0 (upd H p o) d c:=⟨λb u n e=>Gj (h.keep b u n e) (Gf e j),let ⟨n,b,k,e,r⟩:=h.at_;⟨n,b,k,Gj e B,r⟩⟩
theorem Pk.trans (a:Pk H0 H d c)(b:Pk H H1 d c'):Pk H0 H1 d c':=⟨λx o n e=>b.keep x o n (a.keep x o n e),b.at_⟩
theorem Pk.mono (a:Pk H0 H d c)(j:c<=c'):Pk H0 H d c':=⟨a.keep,a.at_.mono j⟩
end
theorem ZdZ {a b s:Int}(ha:0<=a)(j:a<=10000000600)(D:0<=s)(B:s<=1000001)(L:b=13 * s+41):0<=a * b+3307 * s * s/\a * b+3307 * s * s<2 ^ 63:=by
 have h1:0<=a * b:=Int.mul_nonneg ha (by lia);have h2:a * b<=10000000600 * 13000100:=Int.mul_le_mul j (by lia) (by lia) (by decide);have O:0<=3307 * s * s:=Int.mul_nonneg (by lia) D;have U:3307 * s * s<=(3307 * 1000001) * 1000001:=Int.mul_le_mul (by lia) B D (by decide)
 lia
section
variable {P:Program}{w:World}{K:W.Frag}{mg:Str->Option Value}{base:Heap}
noncomputable def XO:Sp:=λvs H Q _=>∃(d:Addr)(c:Nat)(m:Int),vs=[.ref d,.int m]/\Pool H d c/\c<1000000/\0<m/\Lt2 9000 m/\∀(r:Int)(H':Hp),0<=r->r<m->Pk H H' d (c+1)->Q (.int r) H'
theorem scTak:Gu ["pool", "many", "found", "step", "mark"] ["pool", "many"] (Gg Zb6):=⟨rfl,rfl,rfl,by decide +kernel,rfl,by decide +kernel,by decide +kernel⟩
theorem Vp {f:Addr}{fd:FuncData}(F:Fun K "_law_take" "_law_take" Zb6 f fd):FnOk P w K mg base CX0 1 f fd ["pool", "many"] XO:=by
 refine F.ok scTak (λvs H Q E h=>?_) (λZ A outer s H vs Q E hr h=>?_)
 ·obtain ⟨d,c,m,rfl,_⟩:=h
  rfl
 ·obtain ⟨d,c,m,rfl,⟨n,b,k,D,O,aa⟩,hc,B,L,q⟩:=h;refine ⟨_,Ge (Jl (Gs U2 (GN (Oz K) (pv 0) Gh (λ_ _=>rfl)) Gh (GH _)) (Ge (Gp (i:=2) scTak.nd rfl (Or.inl rfl) (GW WB (GN (Oz K) (pv 0) Gh (λ_ _=>rfl)) (pv 1)))
    (Ge (Ws (GW Yc (GN (Oz K) (pv 0) Gh (λ_ _=>rfl)) (pv 1)) (Zcz (pv 0) Gh X4))
    (Gi (Gv (pv 2))))) GC)
    (Ge (Ws (GW JF (GN (Oz K) (pv 0) Gh (λ_ _=>rfl)) Gh) (Zcz (pv 0) Gh X4))
    (Ge (Gp (i:=3) scTak.nd rfl (Or.inl rfl) (GN (Oz K) (pv 0) Gh (λ_ _=>rfl)))
    (Ge (Gp (i:=4) scTak.nd rfl (Or.inl rfl) (GW Ud (GW JF (GW WB (GN (Oz K) (pv 0) Gh (λ_ _=>rfl)) Gh) Gh) (GW JF (GW Ud Gh (pv 3)) Gh)))
    (Ge (Gp (i:=4) scTak.nd rfl (Or.inl rfl) (GW JF (pv 4) (GW Ud (GW Ud Gh (pv 3)) (pv 3))))
    (Ge (Gp (i:=4) scTak.nd rfl (Or.inl rfl) (GW WB (GW Ud (pv 4) (pv 4)) Gh))
    (Gi (Gv (GW WB (GW Yc (GW WB (GW Ud (pv 4) (GW JF (pv 4) Gh)) Gh) Gh) (pv 1))))))))),?_⟩
  refine ⟨_,rfl,d,_,_,_,rfl,rfl,SqL.of D,Gq (j:=1) rfl,rfl,_,rfl,Ug (λc1=>?_) (λc1=>?_)⟩
  ·refine ⟨_,rfl,d,_,_,_,rfl,rfl,SqL.of D,Gq (j:=0) rfl,_,rfl,_,_,rfl,rfl,B,?_⟩;refine ⟨_,rfl,d,_,_,_,rfl,rfl,SqL.of D,Gq (j:=0) rfl,_,rfl,_,_,rfl,rfl,⟨B,L⟩,?_⟩;refine ⟨_,rfl,d,_,0,0,rfl,rfl,D,rfl,_,rfl,?_⟩;exact q (n % m) _ (Int.emod_nonneg n (Int.ne_of_gt B)) (Int.emod_lt_of_pos n B) ⟨λb o L e=>Gj e L,n / m,b,k,Gb,O,by lia⟩
  ·dsimp only [JV];refine ⟨_,rfl,d,_,_,_,rfl,rfl,SqL.of D,Gq (j:=2) rfl,_,_,rfl,rfl,?_⟩;refine ⟨_,rfl,d,_,2,2,rfl,rfl,D,rfl,?_⟩;have U:upd H d (.lst [.int n,.int b,.int (k+1)]) d=some (.lst [.int n,.int b,.int (k+1)]):=Gb;have Y:Pk H (upd H d (.lst [.int n,.int b,.int (k+1)])) d (c+1):=⟨λb o L e=>Gj e L,n,b,k+1,Gb,by lia,by lia⟩;show Zgm _ _ _ _ (upd H d (.lst [.int n,.int b,.int (k+1)]));generalize upd H d (.lst [.int n,.int b,.int (k+1)])=H2 at U Y ⊢;have m0:=Int.emod_nonneg n (show (9999999673:Int)≠0 by decide);have m1:=Int.emod_lt_of_pos n (show (0:Int)<9999999673 by decide);obtain ⟨l0,l1⟩:=ZdZ (a:=n % 9999999673+887) (s:=k+1) (by lia) (by lia) (by lia) (by lia) rfl;refine ⟨_,rfl,d,_,_,_,rfl,rfl,SqL.of U,Gq (j:=2) rfl,?_⟩;refine ⟨_,rfl,d,_,_,_,rfl,rfl,SqL.of U,Gq (j:=0) rfl,_,_,rfl,rfl,(show (0:Int)<9999999673 by decide),_,_,rfl,rfl,_,rfl,_,_,rfl,rfl,.inl ⟨by decide,by decide⟩,_,_,rfl,rfl,_,_,rfl,rfl,.inr ⟨by lia,by lia⟩,?_⟩;refine ⟨_,rfl,_,rfl,_,_,rfl,rfl,.inl ⟨by decide,by decide⟩,_,rfl,_,_,rfl,rfl,.inr ⟨by lia,by lia⟩,_,_,rfl,rfl,?_⟩;refine ⟨_,rfl,_,rfl,_,_,rfl,rfl,.inl ⟨by lia,by lia⟩,_,_,rfl,rfl,(show (0:Int)<99999999701 by decide),?_⟩;have n0:=Int.emod_nonneg (((n % 9999999673+887) * (13 * (k+1)+41)+3307 * (k+1) * (k+1)) * ((n % 9999999673+887) * (13 * (k+1)+41)+3307 * (k+1) * (k+1))) (show (99999999701:Int)≠0 by decide);have n1:=Int.emod_lt_of_pos (((n % 9999999673+887) * (13 * (k+1)+41)+3307 * (k+1) * (k+1)) * ((n % 9999999673+887) * (13 * (k+1)+41)+3307 * (k+1) * (k+1))) (show (0:Int)<99999999701 by decide);refine ⟨_,rfl,_,rfl,_,_,rfl,rfl,_,_,rfl,rfl,.inl ⟨by lia,by lia⟩,_,_,rfl,rfl,(show (0:Int)<99999999943 by decide),_,_,rfl,rfl,⟨by decide,Je⟩,_,rfl,_,_,rfl,rfl,B,?_⟩;exact q _ _ (Int.emod_nonneg _ (Int.ne_of_gt B)) (Int.emod_lt_of_pos _ B) Y
noncomputable def Zfz:Sp:=λvs H Q _=>∃(a:Addr)(ns:List Int)(k:Nat),vs=[.ref a,.int (k:Int)]/\SqL K H a (ns.map V.int)/\k<=100/\∀(d:Addr)(H':Hp),Same H H'->H d=none->Pool H' d 2000->Q (.ref d) H'
theorem scPoo:Gu ["script", "k", "cell"] ["script", "k"] (Gg Zgx):=⟨rfl,rfl,rfl,by decide +kernel,rfl,by decide +kernel,by decide +kernel⟩
theorem ZfA {f:Addr}{fd:FuncData}(F:Fun K "_law_pool" "_law_pool" Zgx f fd)(B:mg "len" = none):FnOk P w K mg base CX0 1 f fd ["script", "k"] (Zfz (K:=K)):=by
 refine F.ok scPoo (λvs H Q E h=>?_) (λaa A outer s H vs Q E hr h=>?_)
 ·obtain ⟨_,_,_,rfl,_⟩:=h
  rfl
 ·obtain ⟨a,ns,k,rfl,ha,hk,q⟩:=h;refine ⟨_,Ge (Gp (i:=2) scPoo.nd rfl (Or.inl rfl) Gh)
    (Ge (Jl (Gs Zer (pv 1) (Gw (YU K) rfl B Yck (Ga (pv 0) Gc)) (GH _)) (Gi (Gp (i:=2) scPoo.nd rfl (Or.inl rfl) (GN (Oz K) (pv 0) (pv 1) (λ_ _=>rfl)))) GC)
    (Ge (Jl (Gs Zes (pv 2) (GW ZcA Gh Gh) (GH _)) (Gi (Gv (Gr (Ga (GW WA (pv 2) (GW ZcA Gh Gh)) (Ga Gh (Ga Gh Gc)))))) GC)
    (Gi (Gv (Gr (Ga (pv 2) (Ga Gh (Ga (GW Ud Gh (pv 1)) Gc)))))))),?_⟩
  refine GD (λD H'=>∃cl:Int,D=[some (.ref a),some (.int (k:Int)),some (.int cl)]/\H'=H) ?s0 ?f0
  case f0=>exact λhk=>hk _ _ ⟨0,rfl,rfl⟩
  rintro D H' ⟨cl,rfl,rfl⟩;refine GD (λD L=>∃cl:Int,D=[some (.ref a),some (.int (k:Int)),some (.int cl)]/\L=H') ?s1 ?f1
  case f1=>
   intro O;refine ⟨_,rfl,_,rfl,a,_,rfl,.inl ha,_,_,rfl,rfl,_,rfl,Ug (λY=>?_) (λY=>?_)⟩
   ·have Z:=Ych Y;rw [Yab] at Z;refine ⟨_,rfl,_,rfl,a,_,_,.int (ns.getD k 0),rfl,rfl,ha,Gq (j:=k) ?_,?_⟩
    ·rw [Yba,Yap (by lia),Ydz,Yap (by lia)]
     rfl
    ·exact O _ _ ⟨_,rfl,rfl⟩
   ·exact O _ _ ⟨cl,rfl,rfl⟩
  clear cl;rintro D L ⟨cl,rfl,rfl⟩;refine ⟨_,rfl,_,_,rfl,rfl,⟨by decide,by decide,by decide⟩,_,_,rfl,rfl,_,rfl,Ug (λY=>?_) (λY=>?_)⟩
  ·refine ⟨_,rfl,_,_,rfl,rfl,⟨by decide,by decide,by decide⟩,_,_,rfl,rfl,(by show 3<=sizeLine;decide),λp U=>?_⟩;exact q p _ (Same.new U) U ⟨_,_,_,Gb,by lia,by lia⟩
  ·dsimp only [JV];refine ⟨_,rfl,_,rfl,_,_,rfl,rfl,.inl ⟨by decide,by decide⟩,(by show 3<=sizeLine;decide),λp U=>?_⟩;exact q p _ (Same.new U) U ⟨_,_,_,Gb,by lia,by lia⟩
noncomputable def Rds (rs:List Int):Prop:=rs.Pairwise (· < ·)/\(∀r∈rs,0<=r/\r<28)/\rs≠[]/\rs.length<=12
noncomputable def Sok (rs s:List Int):Prop:=s.Pairwise (· < ·)/\∀x∈s,x∈rs
theorem Sok.sub {rs s:List Int}(h:Rds rs)(j:s.Sublist rs):Sok rs s:=⟨h.1.sublist j,λx B=>j.subset B⟩
theorem Sok.len {rs s:List Int}(h:Sok rs s):s.length<=rs.length:=Yct (h.1.imp λz e=>by lia) λx j=>h.2 x j
theorem ZfB {a b:Int}{n:Nat}(ha:0<=a)(D:a<4)(Y:1<=b)(L:b<3)(Z:1<=n)(O:n<=12):Rds ((List.range n).map λi:Nat=>a+b * (i:Int)):=by
 have B:b=1\/b=2:=by lia
 refine ⟨?_,λr U=>?_,λz=>?_,?_⟩
 ·rw [Ycq];refine List.pairwise_lt_range.imp λ{i j} h=>?_;rcases B with rfl | rfl <;> lia
 ·obtain ⟨i,hi,rfl⟩:=Yam.mp U;have:=Ydn.mp hi;rcases B with rfl | rfl <;> lia
 ·have:=Ybi List.length z;simp at this
  lia
 ·simp
  lia
theorem Xi {xs:List Int}{r:Int}(h0:0<=r)(h1:r<xs.length):∃x,x∈xs/\atI (xs.map V.int) r=some (.int x):=by
 obtain ⟨k,rfl⟩:=Int.eq_ofNat_of_zero_le h0;have j:k<xs.length:=by lia
 exact ⟨xs[k],Yea j,Gq (by rw [Yba,Yap j];rfl)⟩
noncomputable def ZfC:Sp:=λvs H Q _=>∃(d:Addr)(c:Nat),vs=[.ref d]/\Pool H d c/\c<900000/\∀(l:Addr)(rs:List Int)(H':Hp),Pk H H' d (c+6)->H l=none->H' l=some (.lst (rs.map V.int))->Rds rs->Q (.ref l) H'
theorem scRoa:Gu ["pool", "many", "first", "step"] ["pool"] (Gg Zgy):=⟨rfl,rfl,rfl,by decide +kernel,rfl,by decide +kernel,by decide +kernel⟩
theorem ZfD {f fT:Addr}{fd L:FuncData}(F:Fun K "_law_roads" "_law_roads" Zgy f fd)(O:Fun K "_law_take" "_law_take" Zb6 fT L)(U:Binds K L ["pool", "many"] [])(Y:mg "_law_take" = some (.ref fT))(B:mg "range" = none):FnOk P w K mg base CX0 2 f fd ["pool"] ZfC:=by
 have Z:FnOk P w K mg base CX0 1 fT L ["pool", "many"] XO:=Vp O;refine F.ok scRoa (λvs H Q E h=>?_) (λaa A outer s H vs Q E hr h=>?_)
 ·obtain ⟨_,_,rfl,_⟩:=h
  rfl
 ·obtain ⟨d,c,rfl,hP,hc,q⟩:=h;refine ⟨_,Ge (Gp (i:=1) scRoa.nd rfl (Or.inl rfl) (GW JF Gh (GN (Oz K) (Gr (Ga (Gk Z (hr.mono (by decide)) rfl Y O.kp U .nil Gz (Ga (pv 0) (Ga Gh Gc))) (Ga (Gk Z (hr.mono (by decide)) rfl Y O.kp U .nil Gz (Ga (pv 0) (Ga Gh Gc))) (Ga (Gk Z (hr.mono (by decide)) rfl Y O.kp U .nil Gz (Ga (pv 0) (Ga Gh Gc))) Gc)))) (Gk Z (hr.mono (by decide)) rfl Y O.kp U .nil Gz (Ga (pv 0) (Ga Gh Gc))) (λ_ _=>rfl))))
    (Ge (Gp (i:=2) scRoa.nd rfl (Or.inr rfl) (Gk Z (hr.mono (by decide)) rfl Y O.kp U .nil Gz (Ga (pv 0) (Ga Gh Gc))))
    (Ge (Gp (i:=3) scRoa.nd rfl (Or.inr rfl) (GW JF Gh (Gk Z (hr.mono (by decide)) rfl Y O.kp U .nil Gz (Ga (pv 0) (Ga Gh Gc)))))
    (Gi (Gv (G7 (own:=["k"]) rfl (Gm (fr:=[("first", 2),("step", 3)]) [(".0", .local),("k", .local),("first", .cell),("step", .cell)] rfl rfl (by decide +kernel) rfl (by decide +kernel) ⟨rfl,rfl,trivial⟩ ⟨λh=>GQ h,λh=>GQ h,λ_=>⟨_,rfl⟩,λ_=>⟨_,rfl⟩,trivial⟩ ⟨⟨rfl,.inl rfl,.inl rfl⟩,⟨rfl,.inl rfl,.inl rfl⟩,trivial⟩) (Jt rfl B (Ga (pv 1) Gc)) (λ_ _ _ _=>Gn (i:=0) (show List.Nodup (["k", "first", "step"]:List Str) by decide +kernel) rfl (Or.inl rfl)) (λ_ _ _ _=>JL) (λ_ _ _ _=>GW JF (pv 1) (GW Ud (pv 2) (pv 0)))))))),?_⟩
  refine ⟨_,rfl,d,c,4,rfl,hP,by lia,by decide,Je,λr1 H1 a1 b1 k1=>?_⟩;refine ⟨_,rfl,d,c+1,9,rfl,k1.at_,by lia,by decide,Je,λr2 H2 a2 b2 k2=>?_⟩;refine ⟨_,rfl,d,c+2,12,rfl,k2.at_,by lia,by decide,Je,λr3 H3 a3 b3 k3=>?_⟩;refine ⟨(by show 3<=sizeLine;decide),λp hp=>?_⟩;refine ⟨_,rfl,d,c+3,3,rfl,k3.at_.same (Same.new hp),by lia,by decide,Je,λr4 H4 a4 b4 k4=>?_⟩;obtain ⟨x,hx,ex⟩:=Xi (xs:=[r1,r2,r3]) a4 b4;have x0:0<=x/\x<12:=by
   simp at hx
   lia
  have np:=Ne.symm (k3.at_.ne hp);refine ⟨p,_,_,_,rfl,rfl,SqL.of (k4.keep _ _ np Gb),ex,_,_,rfl,rfl,?_⟩;refine ⟨_,rfl,d,c+4,4,rfl,k4.at_,by lia,by decide,Je,λr5 H5 a5 b5 k5=>?_⟩;refine ⟨_,rfl,d,c+5,2,rfl,k5.at_,by lia,by decide,Je,λr6 H6 a6 b6 k6=>?_⟩;refine ⟨_,_,rfl,rfl,?_⟩;have K6:Pk H H6 d (c+6):=(((((k1.trans k2).trans k3).new hp).trans k4).trans k5).trans k6;have ab:=Ybe.symm;refine ⟨_,rfl,_,rfl,by lia,by lia,λD hD=>?_⟩;refine O3 (lo:=0) (n:=(1+x).toNat) (λi ys H7=>Same H6 H7/\H7 D=some (.lst ys)/\ys=((List.range i).map λj:Nat=>r5+(1+r6) * (j:Int)).map V.int) ⟨Same.new hD,Gb,rfl⟩ ?_ ?_
  ·rintro i ys H7 hi ⟨s7,e7,rfl⟩;rw [Int.zero_add];refine ⟨⟨rfl,rfl,trivial⟩,?_⟩;unfold Zbr;refine Ox ?_;refine ⟨_,rfl,_,rfl,_,rfl,_,_,rfl,rfl,.inl ⟨by lia,by lia⟩,_,_,rfl,rfl,e7,(by simp;lia),s7.put hD,Gb,by rw [List.range_succ,Yak,Yak];rfl⟩
  ·rintro ys H7 ⟨s7,e7,rfl⟩;exact q D _ _ (K6.grow s7) (K6.free hD) e7 (ZfB a5 b5 (by lia) (by lia) (by lia) (by lia))
noncomputable def ZfE:Sp:=λvs H Q _=>∃(d rl:Addr)(c:Nat)(rs:List Int),vs=[.ref d,.ref rl]/\Pool H d c/\c<900000/\rl≠d/\H rl=some (.lst (rs.map V.int))/\rs.length<=12 /\
 ∀(l:Addr)(ss:List Int)(H':Hp),Pk H H' d (c+13)->H l=none->H' l=some (.lst (ss.map V.int))->ss.Sublist rs->Q (.ref l) H'
theorem scSet:Gu ["pool", "roads", "few"] ["pool", "roads"] (Gg Zgz):=⟨rfl,rfl,rfl,by decide +kernel,rfl,by decide +kernel,by decide +kernel⟩
theorem ZfF {f fT:Addr}{fd j:FuncData}(F:Fun K "_law_set" "_law_set" Zgz f fd)(FT:Fun K "_law_take" "_law_take" Zb6 fT j)(bT:Binds K j ["pool", "many"] [])(mT:mg "_law_take" = some (.ref fT)):FnOk P w K mg base CX0 2 f fd ["pool", "roads"] ZfE:=by
 have GT:FnOk P w K mg base CX0 1 fT j ["pool", "many"] XO:=Vp FT;refine F.ok scSet (λvs H Q E h=>?_) (λaa A outer s H vs Q E hr h=>?_)
 ·obtain ⟨_,_,_,_,rfl,_⟩:=h
  rfl
 ·obtain ⟨d,rl,c,rs,rfl,hP,hc,O,er,ab,q⟩:=h;refine ⟨_,Ge (Gp (i:=2) scSet.nd rfl (Or.inr rfl) (GN (Oz K) (Gr (Ga Gh (Ga Gh (Ga Gh Gc)))) (Gk GT (hr.mono (by decide)) rfl mT FT.kp bT .nil Gz (Ga (pv 0) (Ga Gh Gc))) (λ_ _=>rfl)))
    (Gi (Gv (G7 (own:=["road"]) rfl (Gm (fr:=[("pool", 0),("few", 2)]) [(".0", .local),("road", .local),("_law_take", .globalImplicit),("few", .cell),("pool", .cell)] rfl rfl (by decide +kernel) rfl (by decide +kernel) ⟨rfl,rfl,trivial⟩ ⟨λh=>GQ h,λh=>GQ h,λh=>GQ h,λ_=>⟨_,rfl⟩,λ_=>⟨_,rfl⟩,trivial⟩ ⟨⟨rfl,.inl rfl,.inl rfl⟩,⟨rfl,.inl rfl,.inl rfl⟩,trivial⟩) (Jv K (pv 1)) (λ_ _ _ _=>Gn (i:=0) (show List.Nodup (["road", "pool", "few"]:List Str) by decide +kernel) rfl (Or.inl rfl)) (λ_ _ _ _=>G8 (Gs U2 (Gk GT (hr.mono (by decide)) rfl mT FT.kp bT .nil Gz (Ga (pv 1) (Ga (pv 2) Gc))) Gh (GH _))) (λ_ _ _ _=>pv 0)))),?_⟩
  refine ⟨(by show 3<=sizeLine;decide),λp hp=>?_⟩;have np:=Ne.symm (hP.ne hp);refine ⟨_,rfl,d,c,3,rfl,hP.same (Same.new hp),by lia,by decide,Je,λr1 H1 a1 b1 k1=>?_⟩;obtain ⟨x,hx,ex⟩:=Xi (xs:=[2,3,6]) a1 b1;have x0:0<x/\x<7:=by
   simp at hx
   lia
  have xl:Lt2 9000 x:=Lt2.mono (p:=3) (show x.natAbs<2 ^ 3 by lia) (by decide);refine ⟨p,_,_,_,rfl,rfl,SqL.of (k1.keep _ _ np Gb),ex,?_⟩;have U:Pk H H1 d (c+1):=((Pk.start hP).new hp).trans k1;have ac:=Ybe.symm;have Y:=U.keep _ _ O er;refine ⟨_,rfl,rl,rfl,⟨_,SqL.of Y⟩,λD Z=>?_⟩;have nD:=U.at_.ne Z;refine GE (K:=K) (a:=rl) (xs:=rs.map V.int) (λi ys H2=>∃ss:List Int,ys=ss.map V.int/\ss.Sublist (rs.take i)/\Pk H1 H2 d (c+1+i)/\H2 D=some (.lst ys))
   ⟨[],rfl,List.nil_sublist _,(Pk.start U.at_).new Z,Gb⟩ (by rintro i ys H2 _ ⟨_,_,_,B,_⟩;exact SqL.of (B.keep _ _ O Y)) ?_ ?_
  ·rintro i y ys H2 hi ⟨ss,rfl,L,B,e2⟩;obtain ⟨z,rfl,hz⟩:=JA hi;have hi':i<rs.length:=(Yaj.mp hz).1;have tk:rs.take (i+1)=rs.take i++[z]:=by rw [Ybs,hz];rfl
   have sl:=L.length_le;rw [Ybj] at sl;refine ⟨⟨rfl,rfl,trivial⟩,?_⟩;refine ⟨_,rfl,_,rfl,d,c+1+i,x,rfl,B.at_,by lia,x0.1,xl,λr H3 a b k3=>⟨rfl,_,rfl,Ug (λc1=>?_) (λc1=>?_)⟩⟩
   ·refine ⟨_,rfl,k3.keep _ _ (Ne.symm nD) e2,(by rw [Yab];lia),ss++[z],by rw [Yak];rfl,?_,((B.trans k3).put Z nD),Gb⟩;rw [tk];exact L.append (List.Sublist.refl _)
   ·exact ⟨ss,rfl,by rw [tk];exact L.trans (List.sublist_append_left _ _),B.trans k3,k3.keep _ _ (Ne.symm nD) e2⟩
  ·rintro ys H2 ⟨ss,rfl,L,B,e2⟩;refine q D ss _ ((U.trans B).mono (by rw [Yab];lia)) (U.free Z) e2 ?_;rw [Yab,Ybk] at L;exact L
noncomputable def ZfG:Sp:=λvs H Q _=>∃(d j rl:Addr)(c:Nat)(os rs:List Int),vs=[.ref d,.ref j,.ref rl]/\Pool H d c/\c<900000/\j≠d/\rl≠d/\H j=some (.lst (os.map V.int))/\H rl=some (.lst (rs.map V.int))/\Rds rs/\Sok rs os /\
 ∀(l:Addr)(ss:List Int)(H':Hp),Pk H H' d (c+1)->H l=none->H' l=some (.lst (ss.map V.int))->Sok rs ss->Q (.ref l) H'
theorem scTur:Gu ["pool", "one", "roads", "road"] ["pool", "one", "roads"] (Gg ZgA):=⟨rfl,rfl,rfl,by decide +kernel,rfl,by decide +kernel,by decide +kernel⟩
theorem J4 (p:Int):∀ms:List Int,inV (.int p) (ms.map V.int)=decide (p∈ms):=by
 intro ms;unfold inV
 induction ms with
 | nil=>rfl
 | cons m ms ih=>
  rw [Yaq,List.any_cons,ih];by_cases h1:p=m <;> by_cases h2:p∈ms <;> simp [eqV,h1,h2] <;> (try lia) <;> (try (intro z;exact h1 z.symm))
theorem JJ (ms:List Int):(ms.map V.int).all Vy=true:=by
 rw [List.all_map];exact List.all_eq_true.mpr λ_ _=>rfl
theorem Zcm {l:List Int}(h:l.Pairwise (· <= ·))(n:l.Nodup):l.Pairwise (· < ·):=(h.and n).imp λ⟨a,b⟩=>by lia
theorem ZfH {f fT:Addr}{fd B:FuncData}(F:Fun K "_law_turned" "_law_turned" ZgA f fd)(FT:Fun K "_law_take" "_law_take" Zb6 fT B)(bT:Binds K B ["pool", "many"] [])(mT:mg "_law_take" = some (.ref fT))(Z:mg "len" = none)(aa:mg "int" = none)(ab:mg "sorted" = none):FnOk P w K mg base CX0 2 f fd ["pool", "one", "roads"] ZfG:=by
 have GT:FnOk P w K mg base CX0 1 fT B ["pool", "many"] XO:=Vp FT;refine F.ok scTur (λvs H Q E h=>?_) (λao A outer s H vs Q E hr h=>?_)
 ·obtain ⟨_,_,_,_,_,_,rfl,_⟩:=h
  rfl
 ·obtain ⟨d,ol,rl,c,j,rs,rfl,hP,hc,ag,ah,eo,er,ac,L,q⟩:=h;refine ⟨_,Ge (Gp (i:=3) scTur.nd rfl (Or.inr rfl) (GN (Oz K) (pv 2) (Gk GT (hr.mono (by decide)) rfl mT FT.kp bT .nil Gz (Ga (pv 0) (Ga (Gw (YU K) rfl Z Yck (Ga (pv 2) Gc)) Gc))) (λ_ _=>rfl)))
    (Gi (Gv (Gw (ZeR K) rfl ab PyProof.Rows.boot_sorted (Ga (GW U9 (G7 (own:=["other"]) rfl (Gm (fr:=[("road", 3)]) [(".0", .local),("other", .local),("road", .cell)] rfl rfl (by decide +kernel) rfl (by decide +kernel) ⟨rfl,trivial⟩ ⟨λh=>GQ h,λh=>GQ h,λ_=>⟨_,rfl⟩,trivial⟩ ⟨⟨rfl,.inl rfl,.inl rfl⟩,trivial⟩) (Jv K (pv 1)) (λ_ _ _ _=>Gn (i:=0) (show List.Nodup (["other", "road"]:List Str) by decide +kernel) rfl (Or.inl rfl)) (λ_ _ _ _=>G8 (Gs Zeq (pv 0) (pv 1) (GH _))) (λ_ _ _ _=>pv 0)) (GW ZcE (Gr (Ga (pv 3) Gc)) (G0 Zz rfl aa VC (Ga (OD (ZcF K) (pv 3) (pv 1) (by with_unfolding_all rfl)) Gc)))) Gc)))),?_⟩
  have ap:=Ybe.symm;have am:=ac.2.2.2;have an:=L.len;have aq:0<rs.length:=List.length_pos_iff.mpr ac.2.2.1;refine ⟨_,rfl,_,rfl,_,rfl,rl,_,rfl,.inl (SqL.of er),d,c,_,rfl,hP,by lia,by rw [Yab];lia,Lt2.mono (p:=4) (by rw [Yab];show (rs.length:Int).natAbs<2 ^ 4;lia) (by decide),λr1 H1 a1 b1 k1=>?_⟩;rw [Yab] at b1;obtain ⟨x,hx,ex⟩:=Xi (xs:=rs) a1 b1;have ai:=k1.keep _ _ ah er;have O:=k1.keep _ _ ag eo;refine ⟨rl,_,_,_,rfl,rfl,SqL.of ai,ex,?_⟩;refine ⟨_,rfl,ol,rfl,⟨_,SqL.of O⟩,λD hD=>?_⟩;refine GE (K:=K) (a:=ol) (xs:=j.map V.int) (λi ys H2=>Same H1 H2/\H2 D=some (.lst ys)/\ys=((j.take i).filter λz=>decide (z≠x)).map V.int) ⟨Same.new hD,Gb,rfl⟩ (by rintro i ys H2 _ ⟨U,_⟩;exact SqL.of (U _ _ O)) ?_ ?_
  ·rintro i y ys H2 hi ⟨U,Y,rfl⟩;obtain ⟨z,rfl,hz⟩:=JA hi;have tk:j.take (i+1)=j.take i++[z]:=by rw [Ybs,hz];rfl
   have lf:=Ycr (λz=>decide (z≠x)) (j.take i);rw [Ybj] at lf;refine ⟨⟨rfl,trivial⟩,?_⟩;refine ⟨_,rfl,_,rfl,rfl,_,rfl,Ug (λc1=>?_) (λc1=>?_)⟩
   ·have c2:z≠x:=λe=>by rw [e] at c1;simp at c1
    refine ⟨_,rfl,Y,(by rw [Yab];lia),U.put hD,Gb,?_⟩;rw [tk,Ydm,Yak];simp [c2]
   ·have c2:z=x:=Decidable.byContradiction λe=>c1 (by simp [e]);refine ⟨U,Y,?_⟩;rw [tk,Ydm];simp [c2]
  ·rintro ys H2 ⟨U,Y,rfl⟩;rw [Yab,Ybk] at Y;refine ⟨_,rfl,(by show 1<=sizeLine;decide),λp hp=>?_⟩;have s3:Same H1 (upd H2 p (.lst [.int x])):=U.put (U.free hp);have ad:D≠p:=Gf Y hp;refine ⟨_,rfl,_,rfl,ol,_,rfl,.inl (SqL.of (s3 _ _ O)),rfl,JJ _,.inr ⟨_,rfl,?_⟩⟩;rw [J4];refine ⟨p,_,_,rfl,rfl,Gb,(by by_cases h:x∈j <;> simp [h]),(by by_cases h:x∈j <;> simp [h]),(by by_cases h:x∈j <;> simp [h] <;> lia),λp2 ae=>?_⟩;have h2:upd (upd H2 p (.lst [.int x])) p2 (.lst (List.replicate (if (if true=true then !decide (x∈j) else decide (x∈j))=true then (1:Int) else 0).toNat [V.int x]).flatten) D=some (.lst ((j.filter λz=>decide (z≠x)).map V.int)):=Gj (Gj Y ad) (Gf (Gj Y ad) ae);have e3:(List.replicate (if (if true=true then !decide (x∈j) else decide (x∈j))=true then (1:Int) else 0).toNat [V.int x]).flatten=(if x∈j then [] else [x]).map V.int:=by
    by_cases aj:x∈j <;> simp [aj]
   rw [e3] at h2 ⊢;have lf:=Ycr (λz=>decide (z≠x)) j;have l1:(if x∈j then [] else [x]).length<=1:=by split <;> simp
   refine ⟨D,p2,_,_,rfl,rfl,h2,Gb,(by rw [Yab,Yab];lia),λp3 ak=>?_⟩;rw [<-Yak];have s4:=(s3.put (o:=.lst ((if x∈j then [] else [x]).map V.int)) (s3.free ae));refine ⟨p3,_,rfl,SqL.of Gb,λl ns hl pm so=>?_⟩;have s5:=s4.put (o:=.lst ((j.filter (λz=>decide (z≠x))++if x∈j then [] else [x]).map V.int)) (s4.free ak);have s6:=s5.put (o:=.lst (ns.map V.int)) (s5.free hl);have K6:=k1.grow s6;refine q l ns _ K6 (k1.free (s5.free hl)) Gb ⟨Zcm so ?_,λy hy=>?_⟩
   ·rw [pm.nodup_iff];refine Yca.mpr ⟨(L.1.imp λz e=>by lia:j.Nodup).filter _,by split <;> simp,?_⟩;rintro a ha b hb rfl;split at hb
    ·simp at hb
    ·simp at hb ha;exact ha.2 hb
   ·have:=pm.mem_iff.mp hy;rcases Yah.mp this with h | h
    ·exact L.2 y (Ybq.mp h).1
    ·split at h
     ·simp at h
     ·rw [Yai.mp h];exact hx
noncomputable def Lz (H:Hp)(zs:List (Addr×List Int)):Prop:=∀z∈zs,H z.1=some (.lst (z.2.map V.int))
theorem Lz.same {H H':Hp}{zs:List (Addr×List Int)}(h:Lz H zs)(s:Same H H'):Lz H' zs:=λz j=>s _ _ (h z j)
noncomputable def OI (j:List (List Int)):List PyData:=j.map λl=>PyData.list (l.map PyData.int)
theorem ZaY:∀j:List (List Int),PyData.canLayAll0 (OI j)=true
 | []=>by simp [OI,PyData.canLayAll0]
 | l::j=>by
  have ih:=ZaY j;unfold OI at ih ⊢;rw [Yaq];simp [PyData.canLayAll0,PyData.canLay0,Om l,ih]
theorem V9:∀j:List (List Int),PyData.depthAll (OI j)<=2
 | []=>by simp [OI,PyData.depthAll]
 | l::j=>by
  have ih:=V9 j;have:=Jo l;unfold OI at ih ⊢;rw [Yaq];simp only [PyData.depthAll,PyData.depth]
  lia
theorem UT (j:List (List Int)):SeqAt.shaped (.list (OI j))=true:=by
 unfold SeqAt.shaped;rw [Yby];refine ⟨by simp only [PyData.canLay0];exact ZaY j,Ybh ?_⟩;have:=V9 j;simp only [PyData.depth]
 lia
theorem ZcS:∀j:List (List Int),PyData.eqvAll (OI j) (OI j)=true
 | []=>by simp [OI,PyData.eqvAll]
 | l::j=>by
  have ih:=ZcS j;have h:=JY l l;rw [Ybh rfl] at h;unfold OI at ih ⊢;rw [Yaq];simp only [PyData.eqvAll,h,ih,Bool.and_self]
theorem UU {K:W.Frag}{H:Hp}:∀{zs:List (Addr×List Int)},Lz H zs->DatVs K H (zs.map λz=>V.ref z.1) (OI (zs.map (·.2)))
 | [],_=>.nil
 | z::zs,h=>.cons (.lst (SqL.of (h z (by simp))) (GV z.2)) (UU (zs:=zs) λy hy=>h y (by simp [hy]))
noncomputable abbrev noE:Expr:=.Name "" ⟨0,0,0,0⟩
noncomputable abbrev noA:Arguments:={ posonlyargs:=[],args:=[],vararg:=none,kwonlyargs:=[],kw_defaults:=[],kwarg:=none,defaults:=[] }
noncomputable abbrev ZfI (st:Stmt):Expr:=match st with
 | .Return (some (.Call _ as _ _)) _=>as.getD 3 noE
 | _=>noE
noncomputable abbrev Zbc:Expr:=ZfI ((Gx Zeb).getD 2 (.Pass ⟨0,0,0,0⟩))
noncomputable abbrev Zbd:Expr:=ZfI ((Gx Zec).getD 1 (.Pass ⟨0,0,0,0⟩))
noncomputable abbrev Zf (e:Expr):Arguments:=match e with
 | .Lambda a _ _ _=>a
 | _=>noA
noncomputable abbrev Zg (e:Expr):Expr:=match e with
 | .Lambda _ b _ _=>b
 | _=>noE
noncomputable abbrev Uk (e:Expr):Scope:=match e with
 | .Lambda _ _ c _=>c
 | _=>{ kind:=.function,names:=[],isGenerator:=false,isCoroutine:=false }
noncomputable abbrev Zbe:Stmt:=(Gx Zeb).getD 0 (.Pass ⟨0,0,0,0⟩)
noncomputable abbrev Zbf:Stmt:=(Gx Zec).getD 0 (.Pass ⟨0,0,0,0⟩)
noncomputable def kdH (v:V):Prop:=v=.non\/∃n,v=.int n
noncomputable def kdT (v:V):Prop:=∃b,v=.bl b
noncomputable def afH (j rs:List Int)(m r:Int):Option Int:=if r∈j then none else if r∈rs then some (m+1) else some m
noncomputable def afT (rs:List Int)(m r:Int):Option Int:=if m=0 then some (bI (decide (r∈rs))) else some m
noncomputable def gdH (wi m:Int):Bool:=decide (m=wi)
noncomputable def gdT (m:Int):Bool:=decide (m≠0)
noncomputable abbrev Zed (rs:List Int):List Int:=PyProof.Rows.firstMet (λi=>rs.getD i 0) rs.length
theorem ZfJ (rs:List Int):(Zed rs).length<=rs.length:=PyProof.Rows.firstMet_length_le _ _
noncomputable def manyOf (rs:List Int):Nat:=(Zed rs).length
theorem ZcT {m:Int}{v:V}(h:KpR (some m) v)(k:kdH v):v=.int m:=by
 rcases h with ⟨e,_⟩ | ⟨n,e,rfl⟩ | ⟨b,_,rfl⟩
 ·cases e
 ·cases e;rfl
 ·rcases k with k | ⟨_,k⟩ <;> cases k
theorem ZfK {m:Int}{v:V}(h:KpR (some m) v)(k:kdT v):∃b,v=.bl b/\m=bI b:=by
 obtain ⟨b,rfl⟩:=k;rcases h with ⟨e,_⟩ | ⟨n,_,e⟩ | ⟨B,e,j⟩
 ·cases e
 ·cases e
 ·cases j;cases e;exact ⟨b,rfl,rfl⟩
noncomputable abbrev Zcn:Str:=Str.ofString "having.<locals>.after"
noncomputable abbrev Zco:Str:=Str.ofString "having.<locals>.<lambda>"
noncomputable abbrev Zcp:Str:=Str.ofString "touching.<locals>.after"
noncomputable abbrev Zcq:Str:=Str.ofString "touching.<locals>.<lambda>"
noncomputable abbrev ZfL (clos:OC)(pm:Value)(c':Addr)(j B:Value):Obj:=W.fnMade "after" Zcn (GX Zbe) (Gx Zbe) (Gg Zbe) clos B pm c' j
noncomputable abbrev ZfM (clos:OC)(pm:Value)(c':Addr)(j:Value):Obj:=W.kla_obj "<lambda>" Zco (Zf Zbc) (Zg Zbc) (Uk Zbc) clos pm c' j
noncomputable abbrev ZfN (clos:OC)(pm:Value)(c':Addr)(j B:Value):Obj:=W.fnMade "after" Zcp (GX Zbf) (Gx Zbf) (Gg Zbf) clos B pm c' j
noncomputable abbrev ZfO (clos:OC)(pm:Value)(c':Addr)(j:Value):Obj:=W.kla_obj "<lambda>" Zcq (Zf Zbd) (Zg Zbd) (Uk Zbd) clos pm c' j
theorem Zhs:JN ["many", "road", "roads", "off"] ["many", "road"] ["roads", "off"] (Gg Zbe):=⟨rfl,rfl,rfl,by decide +kernel,rfl,by decide +kernel,by decide +kernel,by decide +kernel,by decide +kernel⟩
theorem Zht:JN ["many", "wished"] ["many"] ["wished"] (Uk Zbc):=⟨rfl,rfl,rfl,by decide +kernel,rfl,by decide +kernel,by decide +kernel,by decide +kernel,by decide +kernel⟩
theorem Zhu:JN ["met", "road", "roads"] ["met", "road"] ["roads"] (Gg Zbf):=⟨rfl,rfl,rfl,by decide +kernel,rfl,by decide +kernel,by decide +kernel,by decide +kernel,by decide +kernel⟩
theorem Zhv:JN ["met"] ["met"] [] (Uk Zbd):=⟨rfl,rfl,rfl,by decide +kernel,rfl,by decide +kernel,by decide +kernel,by decide +kernel,by decide +kernel⟩
theorem XQ {H:Hp}{clos:OC}{vs:List V}{l:Addr}{xs:List V}(B:CellsAt H clos vs)(e:H l=some (.lst xs)):hideC clos H l=some (.lst xs):=by
 rw [Gy (λz=>by
  obtain ⟨o,j⟩:=B.frz l z;rw [e] at j;cases j)]
 exact e
theorem ZfP {f c' j B rl O:Addr}{pm D L:Value}{rs U:List Int}(Y:j≠B):FnOk P w K mg base CX0 1 f (W.fnX "after" Zcn (GX Zbe) (Gx Zbe) (Gg Zbe) [(Str.ofString "roads", j),(Str.ofString "off", B)] .none .none L pm none (.ref c') D) ["many", "road"]
  (ZgI (λH=>CloFn H f c' Zcn (ZfL [(Str.ofString "roads", j),(Str.ofString "off", B)] pm c' D L)/\CellsAt H [(Str.ofString "roads", j),(Str.ofString "off", B)] [.ref rl,.ref O]/\H rl=some (.lst (rs.map V.int))/\H O=some (.lst (U.map V.int))) kdH (afH U rs)):=by
 refine ZaF (N:=["many", "road", "roads", "off"]) Zhs rfl (by simp [Y]) (λvs H Q E h=>?_) (λA outer s H vs Q E hr h=>?_)
 ·obtain ⟨_,_,_,rfl,_⟩:=h
  rfl
 ·obtain ⟨v,m,r,rfl,hv,Z,⟨hf,hc,er,eo⟩,q⟩:=h;obtain rfl:=ZcT hv Z;refine ⟨hf,_,hc,_,(@Ge _ _ _ _ _ (@Jl _ _ _ _ _ _ _ _ (Gs (kIn K) (pv 1) (pv 3) (by with_unfolding_all rfl)) (@Gi _ _ _ (@Gv _ _ _ _ Zo)) GC)
 (@Gi _ _ _ (@Gv _ _ _ _ (X0 (Gs (kIn K) (pv 1) (pv 2) (by with_unfolding_all rfl)) (@GW _ _ _ _ _ _ _ _ JF (pv 0) Gh) (pv 0))))),?_⟩
  have sb:=λ{H':Hp} (s':Same (hideC [(Str.ofString "roads", j),(Str.ofString "off", B)] H) H')=>Oh s';have aa:=XQ hc er;have ab:=XQ hc eo;refine ⟨_,rfl,_,rfl,O,_,rfl,.inl (SqL.of ab),rfl,JJ _,_,rfl,?_⟩;rw [J4];by_cases z:r∈U
  ·rw [Ybh z];refine Ox λhN=>q _ _ (sb (Same.refl _)) (.inl ⟨if_pos z,rfl⟩) (.inl rfl)
  ·rw [Ybv z];refine J7 ?_;dsimp only [JV];refine ⟨_,rfl,_,rfl,rl,_,rfl,.inl (SqL.of aa),rfl,JJ _,_,rfl,?_⟩;rw [J4];by_cases y:r∈rs
   ·rw [Ybh y];exact Ox ⟨_,rfl,_,_,rfl,rfl,λhN=>q _ _ (sb (Same.refl _)) (.inr (.inl ⟨_,by unfold afH;rw [if_neg z,if_pos y],rfl⟩)) (.inr ⟨_,rfl⟩)⟩
   ·rw [Ybv y];exact J7 ⟨_,rfl,λhN=>q _ _ (sb (Same.refl _)) (.inr (.inl ⟨_,by unfold afH;rw [if_neg z,if_neg y],rfl⟩)) (.inr ⟨_,rfl⟩)⟩
theorem ZfQ {f c' B:Addr}{pm j:Value}{wi:Int}:FnOk P w K mg base CX0 1 f (W.kla_fn "<lambda>" Zco (Zf Zbc) (Zg Zbc) (Uk Zbc) [(Str.ofString "wished", B)] pm (.ref c') j) ["many"]
  (ZgJ (λH=>CloFn H f c' Zco (ZfM [(Str.ofString "wished", B)] pm c' j)/\CellsAt H [(Str.ofString "wished", B)] [.int wi]) kdH (gdH wi)):=by
 refine ZcQ (N:=["many", "wished"]) Zht rfl (by simp) (λvs H Q E h=>?_) (λA outer s H vs Q E Z h=>?_)
 ·obtain ⟨_,_,rfl,_⟩:=h
  rfl
 ·obtain ⟨v,m,rfl,L,D,⟨O,U⟩,q⟩:=h;obtain rfl:=ZcT L D;refine ⟨O,_,U,_,OD U2 (pv 0) (pv 1) (GH _),?_⟩;have Y:=λ{H':Hp} (s':Same (hideC [(Str.ofString "wished", B)] H) H')=>Oh s';refine ⟨_,rfl,_,rfl,rfl,λhN=>?_⟩;have e:gdH wi m=decide (V.int m=V.int wi):=by unfold gdH;by_cases z:m=wi <;> simp [z]
  rw [<-e];exact q _ (Y (Same.refl _))
theorem ZfR {f c' D rl:Addr}{pm j B:Value}{rs:List Int}:FnOk P w K mg base CX0 1 f (W.fnX "after" Zcp (GX Zbf) (Gx Zbf) (Gg Zbf) [(Str.ofString "roads", D)] .none .none B pm none (.ref c') j) ["met", "road"]
  (ZgI (λH=>CloFn H f c' Zcp (ZfN [(Str.ofString "roads", D)] pm c' j B)/\CellsAt H [(Str.ofString "roads", D)] [.ref rl]/\H rl=some (.lst (rs.map V.int))) kdT (afT rs)):=by
 refine ZaF (N:=["met", "road", "roads"]) Zhu rfl (by simp) (λvs H Q E h=>?_) (λA outer s H vs Q E hr h=>?_)
 ·obtain ⟨_,_,_,rfl,_⟩:=h
  rfl
 ·obtain ⟨v,m,r,rfl,Z,L,⟨hf,U,er⟩,q⟩:=h;obtain ⟨b,rfl,rfl⟩:=ZfK Z L;refine ⟨hf,_,U,_,(@Gi _ _ _ (@Gv _ _ _ _ (ZgM (pv 0) (Zcy (OD (kIn K) (pv 1) (pv 2) (by with_unfolding_all rfl)))))),?_⟩;have Y:=λ{H':Hp} (s':Same (hideC [(Str.ofString "roads", D)] H) H')=>Oh s';have O:=XQ U er;refine ⟨_,rfl,_,rfl,?_⟩;cases b
  ·refine ⟨_,rfl,_,rfl,rl,_,rfl,.inl (SqL.of O),rfl,JJ _,λhN=>?_⟩;rw [J4];exact q _ _ (Y (Same.refl _)) (.inr (.inr ⟨_,rfl,rfl⟩)) ⟨_,rfl⟩
  ·exact λhN=>q _ _ (Y (Same.refl _)) (.inr (.inr ⟨true,rfl,rfl⟩)) ⟨_,rfl⟩
theorem ZfS {f c':Addr}{pm j:Value}:FnOk P w K mg base CX0 1 f (W.kla_fn "<lambda>" Zcq (Zf Zbd) (Zg Zbd) (Uk Zbd) [] pm (.ref c') j) ["met"]
  (ZgJ (λH=>CloFn H f c' Zcq (ZfO [] pm c' j)) kdT gdT):=by
 refine ZcQ (N:=["met"]) (clos:=[]) Zhv rfl (by simp) (λvs H Q E h=>?_) (λA outer s H vs Q E O h=>?_)
 ·obtain ⟨_,_,rfl,_⟩:=h
  rfl
 ·obtain ⟨v,m,rfl,D,B,L,q⟩:=h;obtain ⟨b,rfl,rfl⟩:=ZfK D B;refine ⟨L,[],.nil,_,pv 0,?_⟩;refine ⟨_,rfl,λU=>?_⟩;have e:gdT (bI b)=b:=by cases b <;> rfl
  rw [e] at q;exact q _ (Oh (Same.refl _))
noncomputable def SameL3 (a b c:Addr)(H H':Hp):Prop:=∀d o,d≠a->d≠b->d≠c->H d=some o->H' d=some o
theorem Uy {P Q:Addr}{es:List Za8}{H H':Hp}{ps:Array Value}(h:TabOn P es H)(s:SameL Q H H')(e:H Q=some (.tbl ps))(n:P≠Q):TabOn P es H':=⟨s _ _ n h.1,λy j=>(h.2 y j).elim λB z=>⟨B,s _ _ (λw=>by rw [w,e] at z;cases z.1) z.1,z.2⟩⟩
theorem Js {H H':Hp}{Q f c:Addr}{qual:Str}{o:Obj}{ps:Array Value}(h:CloFn H f c qual o)(s:SameL Q H H')(e:H Q=some (.tbl ps)):CloFn H' f c qual o:=
 ⟨s _ _ (λw=>by have h1:=h.1;rw [w,e] at h1;cases h1) h.1,h.2.elim λj z=>⟨j,s _ _ (λw=>by rw [w,e] at z;cases z.1) z.1,z.2⟩⟩
theorem Wn {H H':Hp}{Q:Addr}{cl:OC}{vs:List V}{ps:Array Value}(h:CellsAt H cl vs)(s:SameL Q H H')(e:H Q=some (.tbl ps)):CellsAt H' cl vs:=Paired.mapP h λ_ _ ⟨o,u,g,r⟩=>⟨o,u,s _ _ (λw=>by rw [w,e] at g;cases g) g,r⟩
noncomputable abbrev Zbg (L:Addr):OC:=[(Str.ofString "roads", L+1),(Str.ofString "off", L+2),(Str.ofString "wished", L+3)]
noncomputable def Zcr (j:Addr)(H:Hp):Prop:=∃es,TabOn j es H/\(es=[]\/∃c d,es=[⟨84,4,Zcn,c⟩,⟨89,35,Zco,d⟩])
noncomputable def ZfT (tbL tbS j:Addr):Sp:=λvs H Q _=>∃(tb l rl B:Addr)(a0 M:Int)(xs:List V)(ks:List Tri)(rs os:List Int),vs=[.ref tb,.ref rl,.ref B,.int M]/\TabAt H tb l a0 xs ks/\SiftOk ks a0/\720<=M/\H rl=some (.lst (rs.map V.int))/\H B=some (.lst (os.map V.int))/\rs.length<1000/\LD tbL H/\(tbL≠tbS/\tbL≠j/\tbS≠j)/\Zck tbS H/\Zcr j H /\
 ∀(p D:Addr)(b0:Int)(ys:List V)(us:List Tri)(H':Hp),SameL3 tbL tbS j H H'->LD tbL H'->Zck tbS H'->Zcr j H'->H p=none->H D=none->TabAt H' p D b0 ys us->Cn us b0->(∀s,Has us b0 s↔(Has ks a0 s/\okO (gdH (manyOf rs:Int)) (JB (afH os rs) s (some 0))=true))->us.length<=720->Q (.ref p) H'
theorem scHav:Gu ["table", "roads", "off", "most", "after", "wished"] ["table", "roads", "off", "most"] (Gg Zeb):=⟨rfl,rfl,rfl,by decide +kernel,rfl,by decide +kernel,by decide +kernel⟩
theorem ZfU {f cO ah tbL tbS B:Addr}{fd aa:FuncData}(F:Fun K "having" "having" Zeb f fd)(hc:fd.code=.ref cO)(hC:PySem.W.CodeHd base cO B)(an:base.BuiltinsAt mg B)(a4:Fun K "sifted" "sifted" Zea ah aa)(a5:Binds K aa ["table", "start", "after", "good", "most"] [])(a6:mg "sifted" = some (.ref ah))(a7:FnOk P w K mg base CX0 6 ah aa ["table", "start", "after", "good", "most"] (ZaW P w K mg base tbL tbS))(ao:mg "len" = none)(ap:mg "set" = none) :
  FnOk P w K mg base CX0 7 f fd ["table", "roads", "off", "most"] (ZfT tbL tbS B):=by
 refine Fun.okC F hc scHav (λvs H Q E h=>?_) (λA outer s H vs Q E hr h=>?_)
 ·obtain ⟨_,_,_,_,_,_,_,_,_,_,rfl,_⟩:=h
  rfl
 ·obtain ⟨tb,l,rl,ol,a0,M,xs,ks,rs,os,rfl,T,SO,hM,er,eo,a8,ld,⟨n1,n2,n3⟩,⟨eS,a9,hS⟩,⟨eO,ad,hO⟩,q⟩:=h;refine ⟨_,Ge (ZaI (i:=4) (qual:=Zcn) (params:=GX Zbe) (body:=Gx Zbe) (scope:=Gg Zbe) (clos:=[(Str.ofString "roads", s.heap.objs.size+1),(Str.ofString "off", s.heap.objs.size+2)]) scHav.nd rfl (Or.inl rfl) rfl rfl hC an rfl)
   (Ge (Gp (i:=5) scHav.nd rfl (Or.inr rfl) (Gw Zdi rfl ao Yck (Ga (G0 (Zg7 K rfl) rfl ap Zbx (Ga (pv 1) Gc)) Gc)))
   (Gi (Gv (V2 (E:=E0) (cl:=Zbg s.heap.objs.size) (is:=[1,2,5]) (.cons ⟨rfl,rfl,rfl,rfl⟩ (.cons ⟨rfl,rfl,rfl,rfl⟩ (.cons ⟨rfl,rfl,rfl,rfl⟩ .nil))) a7 hr rfl a6 a4.kp a5 .nil (λh=>h) (Ga (pv 0) (Ga Gh (Ga (pv 4) (Ga (ZaJ (qual:=Zco) (params:=Zf Zbc) (body:=Zg Zbc) (scope:=Uk Zbc) (clos:=[(Str.ofString "wished", s.heap.objs.size+3)]) rfl rfl hC an rfl) (Ga (pv 3) Gc))))))))),?_⟩
  have L:=ad.1;obtain ⟨aP,eL⟩:=ld.tbl;have aq:∀{Ha Hb:Hp}{ps:Array Value},LD tbL Ha->SameL B Ha Hb->Ha B=some (.tbl ps)->LD tbL Hb:=λ{Ha Hb ps} h s e=>by
   rcases h with e' | ⟨c,e',Z,e2,co⟩
   ·exact .inl (s _ _ n2 e')
   ·exact .inr ⟨c,s _ _ n2 e',Z,s _ _ (λw=>by rw [w,e] at e2;cases e2) e2,co⟩
  have ar:∀{Ha Hb:Hp}{ps:Array Value},TabAt Ha tb l a0 xs ks->SameL B Ha Hb->Ha B=some (.tbl ps)->TabAt Hb tb l a0 xs ks:=λ{Ha Hb ps} h s e=>⟨s.tup e h.w,s.lst e h.l,h.t.sameL s e⟩;refine GD (λσ' H'=>∃(fA cA:Addr)(O U:Value)(es:List Za8),σ'=[some (.ref tb),some (.ref rl),some (.ref ol),some (.int M),some (.ref fA),none]/\SameL B H H'/\TabOn B es H'/\(es=[⟨84,4,Zcn,cA⟩]\/∃d,es=[⟨84,4,Zcn,cA⟩,⟨89,35,Zco,d⟩])/\CloFn H' fA cA Zcn (ZfL [(Str.ofString "roads", s.heap.objs.size+1),(Str.ofString "off", s.heap.objs.size+2)] ((mg "__name__").getD .none) cA O U)) ?aft ?dfn
  case dfn=>
   intro hk;rcases hO with rfl | ⟨c,d,rfl⟩
   ·exact ⟨[],ad,.inl ⟨rfl,λfA c' O U H' sl ai nf cf=>hk _ _ ⟨fA,c',O,U,_,rfl,sl,ai,.inl rfl,cf⟩⟩⟩
   ·exact ⟨_,ad,.inr ⟨_,Yaw ..,by simp [W3,codeAmong,rawInt],rfl,λfA O U H' sm nf cf=>hk _ _ ⟨fA,c,O,U,_,rfl,SameL.of sm,ad.same sm,.inr ⟨d,rfl⟩,cf⟩⟩⟩
  rintro σ' Hw ⟨fA,cA,O,U,es,rfl,s1,D,aA,aj⟩;have as:=s1.lst L er;refine ⟨_,rfl,rl,rs,rfl,SqL.of as,a8,λse au=>?_⟩;have av:=ZfJ rs;have sw:Same Hw (upd Hw se (.set (λk'=>(Zed rs).any (· == k')) (Zed rs).length)):=Same.new au;refine ⟨se,_,_,rfl,Gb,Nat.lt_of_le_of_lt av (by lia),?_⟩;generalize upd Hw se (.set (λk'=>(Zed rs).any (· == k')) (Zed rs).length)=H1 at sw ⊢
  replace s1:=s1.trans (SameL.of sw)
  replace D:=D.same sw
  replace aj:=aj.same sw
  dsimp only [GY];clear as av sw au;have T1:=ar T s1 L;have aB:=aq ld s1 L;have aw:=Uy a9 s1 L n3;have aC:=s1.lst L er;have aD:=s1.lst L eo;refine ⟨_,rfl,_,rfl,?_⟩;have go:∀(fG cG:Addr)(Y:Value)(H2:Hp),SameL B H1 H2->TabOn B [⟨84,4,Zcn,cA⟩,⟨89,35,Zco,cG⟩] H2->CloFn H2 fG cG Zco (ZfM [(Str.ofString "wished", s.heap.objs.size+3)] ((mg "__name__").getD .none) cG Y)->Zbm (Zei 3) Zgn [some (.ref tb),some (.ref rl),some (.ref ol),some (.int M),some (.ref fA),some (.int (manyOf rs:Int))] H2 (λvs H3=>∃fvs,Paired (λ(i:Nat) v=>([some (.ref tb),some (.ref rl),some (.ref ol),some (.int M),some (.ref fA),some (.int (manyOf rs:Int))]:St)[i]?=some (some v)) [1,2,5] fvs/\∀H4:Hp,(∀b,b ∉ (Zbg s.heap.objs.size).map (·.2)->H4 b=H3 b)->(∀b∈(Zbg s.heap.objs.size).map (·.2),H3 b=none)->CellsAt H4 (Zbg s.heap.objs.size) fvs->ZaW P w K mg base tbL tbS ((.ref tb::.int 0::.ref fA::.ref fG::vs)++[]) H4 (λv H'=>Q v (hideC (Zbg s.heap.objs.size) H')) E0):=by
   intro fG cG Y H2 s2 ak aE;refine ⟨_,rfl,[.ref rl,.ref ol,.int (manyOf rs:Int)],.cons rfl (.cons rfl (.cons rfl .nil)),λH4 ax hN ay=>?_⟩;have s4:Same H2 H4:=λa u e=>by rw [ax a (λz=>by rw [hN a z] at e;cases e)];exact e
   have T4:=(ar T1 s2 D.1).same s4;have az:LD tbL H4:=(aq aB s2 D.1).same s4;have j:=(Uy aw s2 D.1 n3).same s4;have a1:=(Js aj s2 D.1).same s4;have a2:=aE.same s4;have aF:=s4 _ _ (s2.lst D.1 aC);have aG:=s4 _ _ (s2.lst D.1 aD);obtain ⟨aH,aI⟩:CellsAt H4 [(Str.ofString "roads", s.heap.objs.size+1),(Str.ofString "off", s.heap.objs.size+2)] [.ref rl,.ref ol]/\CellsAt H4 [(Str.ofString "wished", s.heap.objs.size+3)] [.int (manyOf rs:Int)]:=by
    cases ay with
    | cons a t=>
     cases t with
     | cons b t=>
      cases t with
      | cons c t=>exact ⟨.cons a (.cons b .nil),.cons c .nil⟩
   refine ⟨tb,l,fA,fG,_,_,_,_,_,_,kdH,(afH os rs),(gdH (manyOf rs:Int)),a0,0,M,.int 0,xs,ks,rfl,.inr (.inl ⟨0,rfl,rfl⟩),.inr ⟨0,rfl⟩,T4,SO,hM,λH' s'=>⟨⟨Js a1 s' j.1,Wn aH s' j.1,s'.lst j.1 aF,s'.lst j.1 aG⟩,(Js a1 s' j.1).fin rfl⟩,λH' s'=>⟨⟨Js a2 s' j.1,Wn aI s' j.1⟩,(Js a2 s' j.1).fin rfl⟩,
    Binds.all (λus hl=>by obtain ⟨_,_,rfl⟩:=YT hl;rfl),ZfP (λz=>by have z:(s.heap.objs.size+1:Nat)=s.heap.objs.size+2:=z;lia),Binds.all (λus hl=>by obtain ⟨_,rfl⟩:=Zbp hl;rfl),ZfQ,az,n1,⟨eS,j,hS⟩,λp l' b0 ys us H5 s5 aJ ⟨aQ,ae,aK⟩ hp aL W C5 hh aM=>?_⟩
   obtain ⟨aO,aN⟩:=az.tbl;have nL:∀{a:Addr}{o:HO},H4 a=some o->(∀ps,o≠.tbl ps)->a≠tbL/\a≠tbS:=λ{a o} e n=>⟨λz=>by rw [z,aN] at e;cases e;exact n _ rfl,λz=>by rw [z,j.1] at e;cases e;exact n _ rfl⟩;have am:∀a∈(Zbg s.heap.objs.size).map (·.2),∃o u,H5 a=some (.frz o (.own a))/\o.data=.cell (some u):=λa ha=>by
    obtain ⟨qq,hq,rfl⟩:=Yam.mp ha;obtain ⟨i,hi⟩:=List.getElem?_of_mem hq;obtain ⟨v,_,o,u,e,ab,_⟩:=J1 ay hi;have n:=nL e λ_ z=>by cases z
    exact ⟨o,u,s5 _ _ n.1 n.2 e,ab⟩
   have keep:∀{a:Addr}{o:HO},H5 a=some o->(∀ob,o=.frz ob (.own a)->∀u,ob.data≠.cell u)->hideC (Zbg s.heap.objs.size) H5 a=some o:=λ{a o} e n=>by
    rw [Gy (λz=>?_)]
    ·exact e
    ·obtain ⟨o',u,e',ab⟩:=am a z;rw [e] at e';cases e';exact n _ rfl _ ab
   have ac:∀{a:Addr}{Z:Obj}{qual:Str},H5 a=some (.frz Z (.own a))->Y3 qual Z->hideC (Zbg s.heap.objs.size) H5 a=some (.frz Z (.own a)):=λ{a Z qual} e co=>keep e λob z u hu=>by
    cases z;obtain ⟨vs,tq,ab,_⟩:=co;rw [ab] at hu;cases hu
   have old:∀{a:Addr}{o:HO},a≠tbL->a≠tbS->H2 a=some o->hideC (Zbg s.heap.objs.size) H5 a=some o:=λ{a o} m1 m2 e=>by
    rw [Gy (λz=>by rw [hN a z] at e;cases e)];exact s5 a o m1 m2 (s4 _ _ e)
   have ag:∀p ys,H5 p=some (.tup ys)->hideC (Zbg s.heap.objs.size) H5 p=some (.tup ys):=λp ys e=>keep e λob z=>by cases z
   have free:∀{a:Addr},H4 a=none->H a=none:=λ{a} e=>by
    cases y:H a with
    | none=>rfl
    | some u=>
     by_cases z:a=B
     ·rw [z,s4 _ _ ak.1] at e;cases e
     ·rw [s4 _ _ (s2 _ _ z (s1 a u z y))] at e;cases e
   refine q p l' b0 ys us _ (λd o m1 m2 m3 e=>old m1 m2 (s2 _ _ m3 (s1 d o m3 e))) ?_ ⟨_,⟨keep ae.1 (λob z=>by cases z),λy hy=>?_⟩,aK⟩ ⟨_,⟨old (Ne.symm n2) (Ne.symm n3) ak.1,λy hy=>?_⟩,.inr ⟨cA,cG,rfl⟩⟩ (free hp) (free aL) ⟨ag _ _ W.w,keep W.l (λob z=>by cases z),W.t.keep ag⟩ C5 hh aM
   ·rcases aJ with e | ⟨c,e,Z,e2,co⟩
    ·exact .inl (keep e λob z=>by cases z)
    ·exact .inr ⟨c,keep e (λob z=>by cases z),Z,ac e2 co,co⟩
   ·obtain ⟨Z,z1,z2⟩:=ae.2 y hy;exact ⟨Z,ac z1 z2,z2⟩
   ·obtain ⟨Z,z1,z2⟩:=ak.2 y hy;have n:=nL (s4 _ _ z1) λ_ z=>by cases z
    exact ⟨Z,old n.1 n.2 z1,z2⟩
  rcases aA with rfl | ⟨d,rfl⟩
  ·exact ⟨_,D,.inl ⟨by simp [W3,codeAmong,rawInt],λfG c' Y a3 H' sl ai nf cf=>go fG c' Y H' sl ai cf⟩⟩
  ·exact ⟨_,D,.inr ⟨⟨89,35,Zco,d⟩,by simp,by simp [W3,codeAmong,rawInt],rfl,λfG Y a3 H' sm nf cf=>go fG d Y H' (SameL.of sm) (D.same sm) cf⟩⟩
noncomputable abbrev Zbh (L:Addr):OC:=[(Str.ofString "roads", L+1)]
noncomputable def Zcs (j:Addr)(H:Hp):Prop:=∃es,TabOn j es H/\(es=[]\/∃c d,es=[⟨92,4,Zcp,c⟩,⟨94,39,Zcq,d⟩])
noncomputable def ZfV (tbL tbS j:Addr):Sp:=λvs H Q _=>∃(tb l rl:Addr)(a0 M:Int)(xs:List V)(ks:List Tri)(rs:List Int),vs=[.ref tb,.ref rl,.int M]/\TabAt H tb l a0 xs ks/\SiftOk ks a0/\720<=M/\H rl=some (.lst (rs.map V.int))/\LD tbL H/\(tbL≠tbS/\tbL≠j/\tbS≠j)/\Zck tbS H/\Zcs j H /\
 ∀(p B:Addr)(b0:Int)(ys:List V)(us:List Tri)(H':Hp),SameL3 tbL tbS j H H'->LD tbL H'->Zck tbS H'->Zcs j H'->H p=none->H B=none->TabAt H' p B b0 ys us->Cn us b0->(∀s,Has us b0 s↔(Has ks a0 s/\okO gdT (JB (afT rs) s (some 0))=true))->us.length<=720->Q (.ref p) H'
theorem scTch:Gu ["table", "roads", "most", "after"] ["table", "roads", "most"] (Gg Zec):=⟨rfl,rfl,rfl,by decide +kernel,rfl,by decide +kernel,by decide +kernel⟩
theorem ZfW {f cO ah tbL tbS B:Addr}{fd Z:FuncData}(F:Fun K "touching" "touching" Zec f fd)(hc:fd.code=.ref cO)(hC:PySem.W.CodeHd base cO B)(am:base.BuiltinsAt mg B)(ax:Fun K "sifted" "sifted" Zea ah Z)(ay:Binds K Z ["table", "start", "after", "good", "most"] [])(az:mg "sifted" = some (.ref ah))(a1:FnOk P w K mg base CX0 6 ah Z ["table", "start", "after", "good", "most"] (ZaW P w K mg base tbL tbS)) :
  FnOk P w K mg base CX0 7 f fd ["table", "roads", "most"] (ZfV tbL tbS B):=by
 refine Fun.okC F hc scTch (λvs H Q E h=>?_) (λA outer s H vs Q E hr h=>?_)
 ·obtain ⟨_,_,_,_,_,_,_,_,rfl,_⟩:=h
  rfl
 ·obtain ⟨tb,l,rl,a0,M,xs,ks,rs,rfl,T,SO,hM,er,ld,⟨n1,n2,n3⟩,⟨eS,a2,hS⟩,⟨eO,ac,hO⟩,q⟩:=h;refine ⟨_,Ge (ZaI (i:=3) (qual:=Zcp) (params:=GX Zbf) (body:=Gx Zbf) (scope:=Gg Zbf) (clos:=[(Str.ofString "roads", s.heap.objs.size+1)]) scTch.nd rfl (Or.inl rfl) rfl rfl hC am rfl)
   (Gi (Gv (V2 (E:=E0) (cl:=Zbh s.heap.objs.size) (is:=[1]) (.cons ⟨rfl,rfl,rfl,rfl⟩ .nil) a1 hr rfl az ax.kp ay .nil (λh=>h) (Ga (pv 0) (Ga Ow (Ga (pv 3) (Ga (ZaJ (qual:=Zcq) (params:=Zf Zbd) (body:=Zg Zbd) (scope:=Uk Zbd) (clos:=[]) rfl rfl hC am rfl) (Ga (pv 2) Gc)))))))),?_⟩
  have ad:=ac.1;obtain ⟨aF,eL⟩:=ld.tbl;have an:∀{Ha Hb:Hp}{ps:Array Value},LD tbL Ha->SameL B Ha Hb->Ha B=some (.tbl ps)->LD tbL Hb:=λ{Ha Hb ps} h s e=>by
   rcases h with e' | ⟨c,e',Y,e2,co⟩
   ·exact .inl (s _ _ n2 e')
   ·exact .inr ⟨c,s _ _ n2 e',Y,s _ _ (λw=>by rw [w,e] at e2;cases e2) e2,co⟩
  have ao:∀{Ha Hb:Hp}{ps:Array Value},TabAt Ha tb l a0 xs ks->SameL B Ha Hb->Ha B=some (.tbl ps)->TabAt Hb tb l a0 xs ks:=λ{Ha Hb ps} h s e=>⟨s.tup e h.w,s.lst e h.l,h.t.sameL s e⟩;refine GD (λσ' H'=>∃(fA cA:Addr)(L O:Value)(es:List Za8),σ'=[some (.ref tb),some (.ref rl),some (.int M),some (.ref fA)]/\SameL B H H'/\TabOn B es H'/\(es=[⟨92,4,Zcp,cA⟩]\/∃d,es=[⟨92,4,Zcp,cA⟩,⟨94,39,Zcq,d⟩])/\CloFn H' fA cA Zcp (ZfN [(Str.ofString "roads", s.heap.objs.size+1)] ((mg "__name__").getD .none) cA L O)) ?aft ?dfn
  case dfn=>
   intro hk;rcases hO with rfl | ⟨c,d,rfl⟩
   ·exact ⟨[],ac,.inl ⟨rfl,λfA c' L O H' sl ai nf cf=>hk _ _ ⟨fA,c',L,O,_,rfl,sl,ai,.inl rfl,cf⟩⟩⟩
   ·exact ⟨_,ac,.inr ⟨_,Yaw ..,by simp [W3,codeAmong,rawInt],rfl,λfA L O H' sm nf cf=>hk _ _ ⟨fA,c,L,O,_,rfl,SameL.of sm,ac.same sm,.inr ⟨d,rfl⟩,cf⟩⟩⟩
  rintro σ' H1 ⟨fA,cA,L,O,es,rfl,s1,D,a3,a4⟩;have T1:=ao T s1 ad;have a5:=an ld s1 ad;have ap:=Uy a2 s1 ad n3;have a6:=s1.lst ad er;refine ⟨_,rfl,_,rfl,?_⟩;have go:∀(fG cG:Addr)(U:Value)(H2:Hp),SameL B H1 H2->TabOn B [⟨92,4,Zcp,cA⟩,⟨94,39,Zcq,cG⟩] H2->CloFn H2 fG cG Zcq (ZfO [] ((mg "__name__").getD .none) cG U)->Zbm (Zei 2) Zgn [some (.ref tb),some (.ref rl),some (.int M),some (.ref fA)] H2 (λvs H3=>∃fvs,Paired (λ(i:Nat) v=>([some (.ref tb),some (.ref rl),some (.int M),some (.ref fA)]:St)[i]?=some (some v)) [1] fvs/\∀H4:Hp,(∀b,b ∉ (Zbh s.heap.objs.size).map (·.2)->H4 b=H3 b)->(∀b∈(Zbh s.heap.objs.size).map (·.2),H3 b=none)->CellsAt H4 (Zbh s.heap.objs.size) fvs->ZaW P w K mg base tbL tbS ((.ref tb::.bl false::.ref fA::.ref fG::vs)++[]) H4 (λv H'=>Q v (hideC (Zbh s.heap.objs.size) H')) E0):=by
   intro fG cG U H2 s2 aj a7;refine ⟨_,rfl,[.ref rl],.cons rfl .nil,λH4 aq hN ar=>?_⟩;have s4:Same H2 H4:=λa u e=>by rw [aq a (λz=>by rw [hN a z] at e;cases e)];exact e
   have T4:=(ao T1 s2 D.1).same s4;have as:LD tbL H4:=(an a5 s2 D.1).same s4;have j:=(Uy ap s2 D.1 n3).same s4;have au:=(Js a4 s2 D.1).same s4;have av:=a7.same s4;have a8:=s4 _ _ (s2.lst D.1 a6);refine ⟨tb,l,fA,fG,_,_,_,_,_,_,kdT,(afT rs),gdT,a0,0,M,.bl false,xs,ks,rfl,.inr (.inr ⟨false,rfl,rfl⟩),⟨false,rfl⟩,T4,SO,hM,λH' s'=>⟨⟨Js au s' j.1,Wn ar s' j.1,s'.lst j.1 a8⟩,(Js au s' j.1).fin rfl⟩,λH' s'=>⟨Js av s' j.1,(Js av s' j.1).fin rfl⟩,
    Binds.all (λus hl=>by obtain ⟨_,_,rfl⟩:=YT hl;rfl),ZfR,Binds.all (λus hl=>by obtain ⟨_,rfl⟩:=Zbp hl;rfl),ZfS,as,n1,⟨eS,j,hS⟩,λp l' b0 ys us H5 s5 a9 ⟨aG,ae,aA⟩ hp aB W C5 hh aC=>?_⟩
   obtain ⟨aE,aD⟩:=as.tbl;have nL:∀{a:Addr}{o:HO},H4 a=some o->(∀ps,o≠.tbl ps)->a≠tbL/\a≠tbS:=λ{a o} e n=>⟨λz=>by rw [z,aD] at e;cases e;exact n _ rfl,λz=>by rw [z,j.1] at e;cases e;exact n _ rfl⟩;have ak:∀a∈(Zbh s.heap.objs.size).map (·.2),∃o u,H5 a=some (.frz o (.own a))/\o.data=.cell (some u):=λa ha=>by
    obtain ⟨qq,hq,rfl⟩:=Yam.mp ha;obtain ⟨i,hi⟩:=List.getElem?_of_mem hq;obtain ⟨v,_,o,u,e,aa,_⟩:=J1 ar hi;have n:=nL e λ_ z=>by cases z
    exact ⟨o,u,s5 _ _ n.1 n.2 e,aa⟩
   have keep:∀{a:Addr}{o:HO},H5 a=some o->(∀ob,o=.frz ob (.own a)->∀u,ob.data≠.cell u)->hideC (Zbh s.heap.objs.size) H5 a=some o:=λ{a o} e n=>by
    rw [Gy (λz=>?_)]
    ·exact e
    ·obtain ⟨o',u,e',aa⟩:=ak a z;rw [e] at e';cases e';exact n _ rfl _ aa
   have ab:∀{a:Addr}{Y:Obj}{qual:Str},H5 a=some (.frz Y (.own a))->Y3 qual Y->hideC (Zbh s.heap.objs.size) H5 a=some (.frz Y (.own a)):=λ{a Y qual} e co=>keep e λob z u hu=>by
    cases z;obtain ⟨vs,tq,aa,_⟩:=co;rw [aa] at hu;cases hu
   have old:∀{a:Addr}{o:HO},a≠tbL->a≠tbS->H2 a=some o->hideC (Zbh s.heap.objs.size) H5 a=some o:=λ{a o} m1 m2 e=>by
    rw [Gy (λz=>by rw [hN a z] at e;cases e)];exact s5 a o m1 m2 (s4 _ _ e)
   have ag:∀p ys,H5 p=some (.tup ys)->hideC (Zbh s.heap.objs.size) H5 p=some (.tup ys):=λp ys e=>keep e λob z=>by cases z
   have free:∀{a:Addr},H4 a=none->H a=none:=λ{a} e=>by
    cases y:H a with
    | none=>rfl
    | some u=>
     by_cases z:a=B
     ·rw [z,s4 _ _ aj.1] at e;cases e
     ·rw [s4 _ _ (s2 _ _ z (s1 a u z y))] at e;cases e
   refine q p l' b0 ys us _ (λd o m1 m2 m3 e=>old m1 m2 (s2 _ _ m3 (s1 d o m3 e))) ?_ ⟨_,⟨keep ae.1 (λob z=>by cases z),λy hy=>?_⟩,aA⟩ ⟨_,⟨old (Ne.symm n2) (Ne.symm n3) aj.1,λy hy=>?_⟩,.inr ⟨cA,cG,rfl⟩⟩ (free hp) (free aB) ⟨ag _ _ W.w,keep W.l (λob z=>by cases z),W.t.keep ag⟩ C5 hh aC
   ·rcases a9 with e | ⟨c,e,Y,e2,co⟩
    ·exact .inl (keep e λob z=>by cases z)
    ·exact .inr ⟨c,keep e (λob z=>by cases z),Y,ab e2 co,co⟩
   ·obtain ⟨Y,z1,z2⟩:=ae.2 y hy;exact ⟨Y,ab z1 z2,z2⟩
   ·obtain ⟨Y,z1,z2⟩:=aj.2 y hy;have n:=nL (s4 _ _ z1) λ_ z=>by cases z
    exact ⟨Y,old n.1 n.2 z1,z2⟩
  rcases a3 with rfl | ⟨d,rfl⟩
  ·exact ⟨_,D,.inl ⟨by simp [W3,codeAmong,rawInt],λfG c' U aw H' sl ai nf cf=>go fG c' U H' sl ai cf⟩⟩
  ·exact ⟨_,D,.inr ⟨⟨94,39,Zcq,d⟩,by simp,by simp [W3,codeAmong,rawInt],rfl,λfG U aw H' sm nf cf=>go fG d U H' (SameL.of sm) (D.same sm) cf⟩⟩
theorem ZaZ:∀a b:List (List Int),PyData.eqvAll (OI a) (OI b)=decide (a=b)
 | [],[]=>by simp [OI,PyData.eqvAll]
 | [],_::_=>by simp [OI,PyData.eqvAll]
 | _::_,[]=>by simp [OI,PyData.eqvAll]
 | x::a,y::b=>by
  have ih:=ZaZ a b;have h:=JY x y;unfold OI at ih ⊢;rw [Yaq,Yaq];simp only [PyData.eqvAll,h,ih];by_cases j:x=y <;> by_cases B:a=b <;> simp [j,B]
theorem Zhw (a b:List (List Int)):PyData.eqv (.list (OI a)) (.list (OI b))=decide (a=b):=by
 simp only [PyData.eqv,ZaZ]
theorem Zd0 (xs:List V)(v:V):atI (xs++[v]) (-1)=some v:=by
 have h:ixN (xs++[v]).length (-1)=some xs.length:=by
  rw [Yag,Yat];unfold ixN;simp
  lia
 unfold atI;rw [h];simp
noncomputable def Zd1:Sp:=λvs H Q _=>∃(l:Addr)(zs:List (Addr×List Int)),vs=[.ref l]/\H l=some (.lst (zs.map λz=>V.ref z.1))/\Lz H zs/\zs.length<=1000 /\
 ∀(a:Addr)(ws:List (Addr×List Int))(H':Hp),Same H H'->H a=none->H' a=some (.lst (ws.map λz=>V.ref z.1))->(∀z∈ws,z∈zs)->(ws.map (·.2)).Pairwise (λa b=>JO a b=true)->(∀z∈zs,z.2∈ws.map (·.2))->ws.length<=zs.length->Q (.ref a) H'
theorem scOnc:Gu ["sets", "found", "one"] ["sets"] (Gg Ze6):=⟨rfl,rfl,rfl,by decide +kernel,rfl,by decide +kernel,by decide +kernel⟩
theorem ZcU {f:Addr}{fd:FuncData}(F:Fun K "_law_once" "_law_once" Ze6 f fd)(ae:mg "sorted" = none):FnOk P w K mg base CX0 1 f fd ["sets"] Zd1:=by
 refine F.ok scOnc (λvs H Q E h=>?_) (λau A outer s H vs Q E hr h=>?_)
 ·obtain ⟨_,_,rfl,_⟩:=h
  rfl
 ·obtain ⟨l,zs,rfl,el,lz,av,q⟩:=h;have D:=hr.units;have aw:=Ybe.symm;refine ⟨_,Ge (Gp (i:=1) scOnc.nd rfl (Or.inl rfl) (Gr Gc))
    (Ge (JK Yci rfl (Jv K (Gw (Zdx K D) rfl ae PyProof.Rows.boot_sorted (Ga (pv 0) Gc))) (Gn (i:=2) scOnc.nd rfl (Or.inl rfl))
    (Gi (Jl (PW.pt (U1 (Gs (Zbw K D) (pv 1) (Gr Gc) (GH _)) (OJ (Gs (ZcG K D) (GN (Oz K) (pv 1) (ZgT Zdg Gh) (λ_ _=>rfl)) (pv 2) (GH _))))) (Gi (Jn (Um Yco Ycy Ycz G9 (pv 1) (Ga (pv 2) Gc)))) GC)))
    (Gi (Gv (pv 1)))),?_⟩
  refine ⟨Yan _,λfo aa=>?_⟩;obtain ⟨H1,q_,s1,ef⟩:=nwU (o:=.lst []) aa;have ef:H1 fo=some (.lst (([]:List (Addr×List Int)).map λz=>V.ref z.1)):=ef;rw [q_];dsimp only [GY];refine ⟨_,rfl,l,zs,rfl,SqL.of (s1 _ _ el),λz L=>SqL.of (s1 _ _ (lz z L)),λsl B ag pm so=>⟨sl,rfl,⟨_,SqL.of Gb⟩,?_⟩⟩;have s2:Same H1 (upd H1 sl (.lst (B.map λz=>V.ref z.1))):=Same.new ag;have es:upd H1 sl (.lst (B.map λz=>V.ref z.1)) sl=some (.lst (B.map λz=>V.ref z.1)):=Gb;have an:fo≠sl:=Gf ef ag;have ah:=s2 _ _ ef;have ac:Lz (upd H1 sl (.lst (B.map λz=>V.ref z.1))) B:=λz L=>s2 _ _ (s1 _ _ (lz z (pm.mem_iff.mp L)));have ai:∀z∈B,z.1≠fo:=λz L=>Gf (lz z (pm.mem_iff.mp L)) aa;generalize upd H1 sl (.lst (B.map λz=>V.ref z.1))=H2 at s2 es ah ac ⊢;have S2:=s1.trans s2;rw [Ycq] at so;refine JW (K:=K) (a:=sl) (xs:=B.map λz=>V.ref z.1) (λi σ H'=>∃(ws:List (Addr×List Int))(v2:Option V),σ=[some (.ref l),some (.ref fo),v2]/\(∀b o,b≠fo->H2 b=some o->H' b=some o)/\H' fo=some (.lst (ws.map λz=>V.ref z.1))/\(∀z∈ws,z∈B.take i)/\(ws.map (·.2)).Pairwise (λa b=>JO a b=true)/\(∀z∈B.take i,z.2∈ws.map (·.2))/\ws.length<=i)
   ⟨[],none,rfl,λ_ _ _ e=>e,ah,λz L=>(by cases L),List.Pairwise.nil,λz L=>(by rw [List.take_zero] at L;cases L),Yad _⟩ (by rintro i σ H' _ ⟨_,_,_,k,_⟩;exact SqL.of (k _ _ (Ne.symm an) es)) ?_ ?_
  ·rintro i x σ H3 aj ⟨ws,v2,rfl,k3,e3,h1,h2,h3,h4⟩;rw [Yba] at aj;obtain ⟨z,L,rfl⟩:=Ybn.mp aj;obtain ⟨hi,ao⟩:=Yaj.mp L;have tk:B.take (i+1)=B.take i++[z]:=by rw [Ybs,L];rfl
   have ak:z∈B:=Yau L;have ez:=k3 _ _ (ai z ak) (ac z ak);have ax:i<1000:=by have:=pm.length_eq;lia
   have lw:Lz H3 ws:=λu D=>let hm:=List.mem_of_mem_take (h1 u D);k3 _ _ (ai u hm) (ac u hm);have grow:∀H4:Hp,Same H3 H4->(∀u∈ws,JO u.2 z.2=true)->∃(Z:List (Addr×List Int))(v2:Option V),[some (V.ref l),some (.ref fo),some (.ref z.1)]=[some (V.ref l),some (.ref fo),v2]/\(∀b o,b≠fo->H2 b=some o->upd H4 fo (.lst ((ws.map λz=>V.ref z.1)++[.ref z.1])) b=some o)/\upd H4 fo (.lst ((ws.map λz=>V.ref z.1)++[.ref z.1])) fo=some (.lst (Z.map λz=>V.ref z.1))/\(∀u∈Z,u∈B.take (i+1))/\(Z.map (·.2)).Pairwise (λa b=>JO a b=true)/\(∀u∈B.take (i+1),u.2∈Z.map (·.2))/\Z.length<=i+1:=λH4 s4 ap=>by
    refine ⟨ws++[z],_,rfl,λb o hb e=>Gj (s4 _ _ (k3 b o hb e)) hb,by rw [Gb,Yak];rfl,λu D=>?_,?_,λu D=>?_,by rw [Yag,Yat];lia⟩
    ·rw [tk];rcases Yah.mp D with h | h
     ·exact Ydb _ (h1 u h)
     ·exact Ycc _ h
    ·rw [Yak,Ybu];refine ⟨h2,by simp,λa ha b hb=>?_⟩;obtain ⟨u,D,rfl⟩:=Yam.mp ha;rw [Yai.mp hb];exact ap u D
    ·rw [Yak];rw [tk] at D;rcases Yah.mp D with h | h
     ·exact Ydb _ (h3 u h)
     ·exact Ycc _ (by rw [Yai.mp h];simp)
   dsimp only [GY];refine ⟨_,rfl,Yan _,λe he=>?_⟩;have Y:Same H3 (upd H3 e (.lst [])):=Same.new he;have ay:fo≠e:=Gf e3 he;refine ⟨.list (OI (ws.map (·.2))),.list (OI []),.lst (SqL.of (Y _ _ e3)) (UU (lw.same Y)),.lst (SqL.of Gb) .nil,UT _,UT _,_,rfl,?_⟩;rw [Zhw];have am:(ws.map λz=>V.ref z.1).length<sizeLine:=by rw [Yab];lia
   refine Ug (λc1=>?_) (λc1=>?_)
   ·have hw:ws=[]:=by
     by_cases hw:ws=[]
     ·exact hw
     ·simp [hw] at c1
    refine Ox ?_;refine ⟨_,rfl,.inl ⟨rfl,_,SqL.of (Y _ _ e3)⟩,_,rfl,fo,_,_,rfl,rfl,Y _ _ e3,am,?_⟩;exact grow _ Y (λu D=>by rw [hw] at D;cases D)
   ·have hw:ws≠[]:=λhw=>c1 (by simp [hw]);obtain ⟨us,U,ew⟩:∃us U,ws=us++[U]:=⟨_,_,(List.dropLast_concat_getLast hw).symm⟩;have ad:U∈ws:=by rw [ew];simp
    have aq:∀u∈ws,JO z.2 u.2=false:=λu D=>by
     have hm:=h1 u D;obtain ⟨j,hj,ej⟩:=List.mem_take_iff_getElem.mp hm;have:=Ydf.mp so j i (by lia) hi (by lia);rw [ej,ao] at this;exact this
    refine ⟨_,rfl,_,rfl,fo,_,_,.ref U.1,rfl,rfl,SqL.of (Y _ _ e3),?_,_,rfl,.list (U.2.map PyData.int),.list (z.2.map PyData.int),.lst (SqL.of (Y _ _ (lw U ad))) (GV _),.lst (SqL.of (Y _ _ ez)) (GV _),Ja _,Ja _,_,rfl,?_⟩
    ·rw [ew,Yak];exact Zd0 _ _
    rw [JY];refine Ug (λc2=>?_) (λc2=>?_)
    ·have ar:U.2≠z.2:=λe=>by rw [e] at c2;simp at c2
     have ab:JO U.2 z.2=true:=by
      cases hb:JO U.2 z.2 with
      | true=>rfl
      | false=>exact absurd (VS hb (aq U ad)) ar
     refine ⟨_,rfl,.inl ⟨rfl,_,SqL.of (Y _ _ e3)⟩,_,rfl,fo,_,_,rfl,rfl,Y _ _ e3,am,?_⟩;refine grow _ Y (λu D=>?_);rw [ew] at D;rcases Yah.mp D with h | h
     ·rw [ew,Yak,Ybu] at h2;exact VR (h2.2.2 u.2 (Yam.mpr ⟨u,h,rfl⟩) U.2 (by simp)) ab
     ·rw [Yai.mp h];exact ab
    ·have as:U.2=z.2:=by
      by_cases e:U.2=z.2
      ·exact e
      ·exact absurd (by simp [e]) c2
     refine ⟨ws,_,rfl,λb o hb e=>Y _ _ (k3 b o hb e),Y _ _ e3,λu D=>?_,h2,λu D=>?_,by lia⟩
     ·rw [tk];exact Ydb _ (h1 u D)
     ·rw [tk] at D;rcases Yah.mp D with h | h
      ·exact h3 u h
      ·rw [Yai.mp h,<-as];exact Yam.mpr ⟨U,ad,rfl⟩
  ·rintro σ H3 ⟨ws,v2,rfl,k3,e3,h1,h2,h3,h4⟩;rw [Yab,Ybk] at h1 h3;rw [Yab,pm.length_eq] at h4;exact ⟨_,rfl,q fo ws H3 (λb o e=>k3 b o (Gf e aa) (S2 b o e)) aa e3 (λz L=>pm.mem_iff.mp (h1 z L)) h2 (λz L=>h3 z (pm.mem_iff.mpr L)) h4⟩
end
theorem UV (j rs:List Int):∀(s:List Int)(m:Int),JB (afH j rs) s (some m)=if ∃r∈s,r∈j then none else some (m+((s.filter λr=>decide (r∈rs)).length:Int))
 | [],m=>by
  rw [if_neg (by simp)];simp [JB]
 | r::s,m=>by
  show JB (afH j rs) s (afH j rs m r)=_;unfold afH;by_cases z:r∈j
  ·rw [if_pos z,if_pos ⟨r,Yaw ..,z⟩];exact UR _ _
  ·have e:(∃x∈r::s,x∈j)↔∃x∈s,x∈j:=by simp [z]
   rw [if_neg z];by_cases y:r∈rs
   ·rw [if_pos y,show (λm r=>if r∈j then none else if r∈rs then some (m+1) else some m)=afH j rs from rfl,UV j rs s];by_cases x:∃x∈s,x∈j
    ·rw [if_pos x,if_pos (e.mpr x)]
    ·rw [if_neg x,if_neg (λq=>x (e.mp q)),List.filter_cons,if_pos (by simp [y]),Ybm]
     congr 1
     push_cast
     lia
   ·rw [if_neg y,show (λm r=>if r∈j then none else if r∈rs then some (m+1) else some m)=afH j rs from rfl,UV j rs s];by_cases x:∃x∈s,x∈j
    ·rw [if_pos x,if_pos (e.mpr x)]
    ·rw [if_neg x,if_neg (λq=>x (e.mp q)),List.filter_cons,if_neg (by simp [y])]
theorem Za0 (val:Nat->Int):∀n,(PyProof.Rows.firstMet val n).Nodup/\∀k,k∈PyProof.Rows.firstMet val n↔∃i,i<n/\val i=k
 | 0=>by
  rw [PyProof.Rows.firstMet_zero];exact ⟨Ycv,λk=>by simp⟩
 | n+1=>by
  obtain ⟨h1,h2⟩:=Za0 val n;rw [PyProof.Rows.firstMet_succ];unfold PyProof.Rows.step_dedup;have j:((PyProof.Rows.firstMet val n).any λx=>x == val n)=decide (val n∈PyProof.Rows.firstMet val n):=by
   rw [Bool.eq_iff_iff,List.any_eq_true,decide_eq_true_eq];constructor
   ·rintro ⟨x,B,e⟩;rw [<-eq_of_beq e];exact B
   ·exact λh=>⟨_,h,beq_self_eq_true _⟩
  rw [j];by_cases z:val n∈PyProof.Rows.firstMet val n
  ·rw [Ybh z,if_pos rfl];refine ⟨h1,λk=>?_⟩;rw [h2];constructor
   ·rintro ⟨i,hi,e⟩;exact ⟨i,by lia,e⟩
   ·rintro ⟨i,hi,e⟩;by_cases y:i=n
    ·subst y;rw [<-e];exact (h2 _).mp z
    ·exact ⟨i,by lia,e⟩
  ·rw [Ybv z,if_neg (by decide)];refine ⟨Yca.mpr ⟨h1,by simp,λa ha b D=>by rw [Yai.mp D];exact λe=>z (e▸ha)⟩,λk=>?_⟩;rw [Yah,h2,Yai];constructor
   ·rintro (⟨i,hi,e⟩ | e)
    ·exact ⟨i,by lia,e⟩
    ·exact ⟨n,by lia,e.symm⟩
   ·rintro ⟨i,hi,e⟩;by_cases y:i=n
    ·subst y;exact .inr e.symm
    ·exact .inl ⟨i,by lia,e⟩
theorem Zct (rs:List Int):∃ms:List Int,ms.Nodup/\(∀k,k∈ms↔k∈rs)/\manyOf rs=ms.length:=by
 obtain ⟨h1,h2⟩:=Za0 (λi=>rs.getD i 0) rs.length;refine ⟨_,h1,λk=>?_,rfl⟩;rw [h2];constructor
 ·rintro ⟨i,hi,rfl⟩;have:rs.getD i 0=rs[i]:=by simp [Ydz,Yap hi]
  rw [this];exact Yea hi
 ·intro h;obtain ⟨i,hi,e⟩:=Yel h;exact ⟨i,hi,by simp [Ydz,Yap hi,e]⟩
theorem YA {s D rs:List Int}(U:s.Pairwise (· < ·)):okO (gdH (manyOf rs:Int)) (JB (afH D rs) s (some 0))=true↔((∀r∈rs,r∈s)/\∀r∈D,r ∉ s):=by
 obtain ⟨ms,nd,B,e⟩:=Zct rs;rw [UV,e];by_cases z:∃r∈s,r∈D
 ·rw [if_pos z];constructor
  ·intro h;cases h
  ·rintro ⟨_,h⟩;obtain ⟨r,h1,h2⟩:=z;exact absurd h1 (h r h2)
 ·rw [if_neg z];have ns:(s.filter λr=>decide (r∈rs)).Nodup:=(U.imp λh=>Int.ne_of_lt h).filter _;have sub:∀x∈s.filter (λr=>decide (r∈rs)),x∈ms:=λx j=>(B x).mpr (Ych (Ybq.mp j).2);show decide (_=_)=true↔_;rw [decide_eq_true_eq,Int.zero_add];constructor
  ·intro h;have h:(s.filter λr=>decide (r∈rs)).length=ms.length:=by lia
   refine ⟨λr L=>?_,λr L Y=>z ⟨r,Y,L⟩⟩;by_cases y:r∈s
   ·exact y
   ·exfalso;have O:(r::s.filter λr=>decide (r∈rs)).Nodup:=List.nodup_cons.mpr ⟨λq=>y (Ybq.mp q).1,ns⟩;have:=Yct O (l₂:=ms) (λx j=>(Yaz.mp j).elim (λq=>by rw [q];exact (B r).mpr L) (sub x));rw [Ybm] at this
    lia
  ·rintro ⟨h,_⟩;have Z:=Yct ns (l₂:=ms) (λx j=>sub x j);have l2:=Yct nd (l₂:=s.filter λr=>decide (r∈rs)) (λx j=>Ybq.mpr ⟨h x ((B x).mp j),Ybh ((B x).mp j)⟩)
   lia
theorem UW {rs:List Int}:∀{s:List Int}{m:Int},okO gdT (JB (afT rs) s (some m))=true↔(m≠0\/∃r∈s,r∈rs)
 | [],m=>by
  show decide (m≠0)=true↔_;simp
 | r::s,m=>by
  show okO gdT (JB (afT rs) s (afT rs m r))=true↔_;unfold afT;by_cases z:m=0
  ·rw [if_pos z];show okO gdT (JB (afT rs) s (some (bI (decide (r∈rs)))))=true↔_;rw [UW];by_cases y:r∈rs
   ·simp [y,bI]
   ·simp [y,z,bI]
  ·rw [if_neg z];show okO gdT (JB (afT rs) s (some m))=true↔_;rw [UW];simp [z]
theorem SiftOk.sub {ks us:List Tri}{a0 j:Int}(O:SiftOk ks a0)(C:Cn us j)(h:∀s,Has us j s->Has ks a0 s):SiftOk us j:=by
 obtain ⟨_,_,F,B,h2⟩:=O;obtain ⟨S,a⟩:=C.sh;exact ⟨S,a,F,λs D=>B s (h s D),h2⟩
structure Ne4 (tbL tbS tbH tbT:Addr):Prop where
 ls:tbL≠tbS
 lh:tbL≠tbH
 lt:tbL≠tbT
 sh:tbS≠tbH
 st:tbS≠tbT
 ht:tbH≠tbT
structure Tb4 (tbL tbS tbH tbT:Addr)(H:Hp):Prop where
 ld:LD tbL H
 s:Zck tbS H
 h:Zcr tbH H
 t:Zcs tbT H
noncomputable def SameL4 (a b c d:Addr)(H H':Hp):Prop:=∀x o,x≠a->x≠b->x≠c->x≠d->H x=some o->H' x=some o
section
variable {tbL tbS tbH tbT:Addr}{H H' H2:Hp}
theorem Tb4.keep (h:Tb4 tbL tbS tbH tbT H)(k1:∀b ps,H b=some (.tbl ps)->H' b=some (.tbl ps))(k2:∀b o u,H b=some (.frz o u)->H' b=some (.frz o u)):Tb4 tbL tbS tbH tbT H':=by
 have tab:∀{p:Addr}{es:List Za8},TabOn p es H->TabOn p es H':=λ{p es} z=>⟨k1 _ _ z.1,λe B=>(z.2 e B).elim λj y=>⟨j,k2 _ _ _ y.1,y.2⟩⟩;refine ⟨?_,h.s.elim λes z=>⟨es,tab z.1,z.2⟩,h.h.elim λes z=>⟨es,tab z.1,z.2⟩,h.t.elim λes z=>⟨es,tab z.1,z.2⟩⟩;rcases h.ld with e | ⟨c,e,j,D,L⟩
 ·exact .inl (k1 _ _ e)
 ·exact .inr ⟨c,k1 _ _ e,j,k2 _ _ _ D,L⟩
theorem Tb4.same (h:Tb4 tbL tbS tbH tbT H)(s:Same H H'):Tb4 tbL tbS tbH tbT H':=h.keep (λ_ _ e=>s _ _ e) λ_ _ _ e=>s _ _ e
theorem Tb4.put (h:Tb4 tbL tbS tbH tbT H){b:Addr}{ys:List V}{o:HO}(e:H b=some (.lst ys)):Tb4 tbL tbS tbH tbT (upd H b o):=h.keep (λc _ z=>Gj z λy=>by rw [y,e] at z;cases z) λc _ _ z=>Gj z λy=>by rw [y,e] at z;cases z
theorem Tb4.pk {d:Addr}{c c':Nat}(h:Tb4 tbL tbS tbH tbT H)(k:Pk H H' d c)(p:Pool H d c'):Tb4 tbL tbS tbH tbT H':=by
 obtain ⟨_,_,_,e,_⟩:=p;exact h.keep (λb _ z=>k.keep _ _ (λy=>by rw [y,e] at z;cases z) z) λb _ _ z=>k.keep _ _ (λy=>by rw [y,e] at z;cases z) z
theorem Tb4.ne (h:Tb4 tbL tbS tbH tbT H){b:Addr}{u:HO}(e:H b=some u)(n:∀ps,u≠.tbl ps):b≠tbL/\b≠tbS/\b≠tbH/\b≠tbT:=by
 obtain ⟨ps,j⟩:=h.ld.tbl;obtain ⟨_,B,_⟩:=h.s;obtain ⟨_,D,_⟩:=h.h;obtain ⟨_,L,_⟩:=h.t;exact ⟨λz=>by rw [z,j] at e;cases e;exact n _ rfl,λz=>by rw [z,B.1] at e;cases e;exact n _ rfl,λz=>by rw [z,D.1] at e;cases e;exact n _ rfl,λz=>by rw [z,L.1] at e;cases e;exact n _ rfl⟩
theorem Tb4.tbs (h:Tb4 tbL tbS tbH tbT H):H tbL≠none/\H tbS≠none/\H tbH≠none/\H tbT≠none:=by
 obtain ⟨ps,j⟩:=h.ld.tbl;obtain ⟨_,B,_⟩:=h.s;obtain ⟨_,D,_⟩:=h.h;obtain ⟨_,L,_⟩:=h.t;exact ⟨by rw [j];simp,by rw [B.1];simp,by rw [D.1];simp,by rw [L.1];simp⟩
theorem SameL4.at_ (s:SameL4 tbL tbS tbH tbT H H')(h:Tb4 tbL tbS tbH tbT H){b:Addr}{u:HO}(e:H b=some u)(n:∀ps,u≠.tbl ps):H' b=some u:=let ⟨a,b,c,d⟩:=h.ne e n;s _ _ a b c d e
theorem SameL4.tab (s:SameL4 tbL tbS tbH tbT H H')(h:Tb4 tbL tbS tbH tbT H){t l:Addr}{a:Int}{xs:List V}{ks:List Tri}(T:TabAt H t l a xs ks):TabAt H' t l a xs ks:=⟨s.at_ h T.w λ_ z=>(by cases z),s.at_ h T.l λ_ z=>(by cases z),T.t.keep λp ys e=>s.at_ h e λ_ z=>(by cases z)⟩
theorem SameL4.lz (s:SameL4 tbL tbS tbH tbT H H')(h:Tb4 tbL tbS tbH tbT H){zs:List (Addr×List Int)}(T:Lz H zs):Lz H' zs:=λz j=>s.at_ h (T z j) λ_ y=>(by cases y)
theorem SameL4.of (s:Same H H'):SameL4 tbL tbS tbH tbT H H':=λb o _ _ _ _ e=>s b o e
theorem SameL4.trans (s:SameL4 tbL tbS tbH tbT H H')(t:SameL4 tbL tbS tbH tbT H' H2):SameL4 tbL tbS tbH tbT H H2:=λb o j B D L e=>t b o j B D L (s b o j B D L e)
theorem SameL4.put (s:SameL4 tbL tbS tbH tbT H H'){b:Addr}{o:HO}(j:H b=none):SameL4 tbL tbS tbH tbT H (upd H' b o):=λc u B D L O e=>Gj (s c u B D L O e) (Gf e j)
theorem SameL4.free (s:SameL4 tbL tbS tbH tbT H H')(h:Tb4 tbL tbS tbH tbT H'){b:Addr}(e:H' b=none):H b=none:=by
 cases y:H b with
 | none=>rfl
 | some u=>
  obtain ⟨j,B,D,L⟩:=h.tbs;rw [s b u (λz=>j (z▸e)) (λz=>B (z▸e)) (λz=>D (z▸e)) (λz=>L (z▸e)) y] at e;cases e
theorem Tb4.byH (h:Tb4 tbL tbS tbH tbT H)(n:Ne4 tbL tbS tbH tbT)(s:SameL3 tbL tbS tbH H H')(j:LD tbL H')(ts:Zck tbS H')(th:Zcr tbH H'):Tb4 tbL tbS tbH tbT H':=by
 refine ⟨j,ts,th,h.t.elim λes z=>⟨es,⟨s _ _ (Ne.symm n.lt) (Ne.symm n.st) (Ne.symm n.ht) z.1.1,λe B=>(z.1.2 e B).elim λD y=>⟨D,?_,y.2⟩⟩,z.2⟩⟩;obtain ⟨a,b,c,_⟩:=h.ne y.1 λ_ q=>by cases q
 exact s _ _ a b c y.1
theorem Tb4.byT (h:Tb4 tbL tbS tbH tbT H)(n:Ne4 tbL tbS tbH tbT)(s:SameL3 tbL tbS tbT H H')(j:LD tbL H')(ts:Zck tbS H')(th:Zcs tbT H'):Tb4 tbL tbS tbH tbT H':=by
 refine ⟨j,ts,h.h.elim λes z=>⟨es,⟨s _ _ (Ne.symm n.lh) (Ne.symm n.sh) n.ht z.1.1,λe B=>(z.1.2 e B).elim λD y=>⟨D,?_,y.2⟩⟩,z.2⟩,th⟩;obtain ⟨a,b,_,d⟩:=h.ne y.1 λ_ q=>by cases q
 exact s _ _ a b d y.1
theorem SameL3.toH (s:SameL3 tbL tbS tbH H H'):SameL4 tbL tbS tbH tbT H H':=λb o j B D _ e=>s b o j B D e
theorem SameL3.toT (s:SameL3 tbL tbS tbT H H'):SameL4 tbL tbS tbH tbT H H':=λb o j B _ D e=>s b o j B D e
end
section
variable {P:Program}{w:World}{K:W.Frag}{mg:Str->Option Value}{base:Heap}
noncomputable def ZfX (tbL tbS tbH tbT:Addr):Sp:=λvs H Q _=>∃(tb l rl j:Addr)(a0:Int)(xs:List V)(ks:List Tri)(rs os:List Int),vs=[.ref tb,.ref rl,.ref j]/\TabAt H tb l a0 xs ks/\SiftOk ks a0/\H rl=some (.lst (rs.map V.int))/\H j=some (.lst (os.map V.int))/\rs.length<1000/\Ne4 tbL tbS tbH tbT/\Tb4 tbL tbS tbH tbT H /\
 ∀(p B:Addr)(b0:Int)(ys:List V)(us:List Tri)(H':Hp),SameL4 tbL tbS tbH tbT H H'->Tb4 tbL tbS tbH tbT H'->H p=none->H B=none->TabAt H' p B b0 ys us->Cn us b0->(∀s,Has us b0 s↔(Has ks a0 s/\okO (gdH (manyOf rs:Int)) (JB (afH os rs) s (some 0))=true))->us.length<=720->Q (.ref p) H'
theorem Zhx:Gu ["table", "roads", "off"] ["table", "roads", "off"] (Gg Zgv):=⟨rfl,rfl,rfl,by decide +kernel,rfl,by decide +kernel,by decide +kernel⟩
theorem ZfY {f D tbL tbS tbH tbT:Addr}{fd j:FuncData}{tM:Tok}(F:Fun K "through_roads" "through_roads" Zgv f fd)(L:mg "MOST_NODES" = some (.int 800 tM))(O:Fun K "having" "having" Zeb D j)(U:Binds K j ["table", "roads", "off", "most"] [])(Y:mg "having" = some (.ref D))(Z:FnOk P w K mg base CX0 7 D j ["table", "roads", "off", "most"] (ZfT tbL tbS tbH)) :
  FnOk P w K mg base CX0 8 f fd ["table", "roads", "off"] (ZfX tbL tbS tbH tbT):=by
 refine F.ok Zhx (λvs H Q E h=>?_) (λae A outer s H vs Q E hr h=>?_)
 ·obtain ⟨_,_,_,_,_,_,_,_,_,rfl,_⟩:=h
  rfl
 ·obtain ⟨tb,l,rl,ol,a0,xs,ks,rs,os,rfl,T,SO,er,eo,hl,n,B,q⟩:=h;refine ⟨_,Gi (Gv (Gk Z (hr.mono (by decide)) rfl Y O.kp U .nil Gz (Ga (pv 0) (Ga (pv 1) (Ga (pv 2) (Ga (Xo (v:=.int 800) rfl L ⟨_,rfl⟩) Gc)))))),?_⟩;exact ⟨_,rfl,_,rfl,_,rfl,tb,l,rl,ol,a0,800,xs,ks,rs,os,rfl,T,SO,by decide,er,eo,hl,B.ld,⟨n.ls,n.lh,n.sh⟩,B.s,B.h,λp l' b0 ys us H' s' aa ts' ab hp ac W C hh ad=>q p l' b0 ys us H' s'.toH (B.byH n s' aa ts' ab) hp ac W C hh ad⟩
noncomputable def ZfZ:Sp:=λvs H Q _=>∃(tb l:Addr)(a0:Int)(xs:List V)(ks:List Tri),vs=[.ref tb]/\TabAt H tb l a0 xs ks/\ks.length<=800/\Q .non H
theorem Zhy:Gu ["table"] ["table"] (Gg Zgu):=⟨rfl,rfl,rfl,by decide +kernel,rfl,by decide +kernel,by decide +kernel⟩
theorem Zf0 {f:Addr}{fd:FuncData}{L:Tok}(F:Fun K "check_size" "check_size" Zgu f fd)(D:mg "MOST_NODES" = some (.int 800 L))(B:mg "len" = none):FnOk P w K mg base CX0 1 f fd ["table"] ZfZ:=by
 refine F.ok Zhy (λvs H Q E h=>?_) (λO A outer s H vs Q E U h=>?_)
 ·obtain ⟨_,_,_,_,_,rfl,_⟩:=h
  rfl
 ·obtain ⟨tb,l,a0,xs,ks,rfl,T,Y,q⟩:=h;refine ⟨_,Gi (Jl (Gs ZgV (Gw (YU K) rfl B Yck (Ga (GN (Xr K) (pv 0) Gh (λ_ _=>rfl)) Gc)) (Xo (v:=.int 800) rfl D ⟨_,rfl⟩) (GH _)) Zp GC),?_⟩;have Z:=T.t.len;refine ⟨_,rfl,tb,_,_,_,rfl,rfl,SqT.of T.w,Gq (j:=1) rfl,l,_,rfl,.inl (SqL.of T.l),_,_,rfl,rfl,_,rfl,?_⟩;rw [Ybv (by lia)];exact J7 q
noncomputable def Zf1 (tbL tbS tbH tbT:Addr):Sp:=λvs H Q _=>∃(tb l j:Addr)(a0:Int)(xs:List V)(ks:List Tri)(zs:List (Addr×List Int)),vs=[.ref tb,.ref j]/\TabAt H tb l a0 xs ks/\SiftOk ks a0/\Cn ks a0/\ks.length<=800/\H j=some (.lst (zs.map λz=>V.ref z.1))/\Lz H zs/\Ne4 tbL tbS tbH tbT/\Tb4 tbL tbS tbH tbT H /\
 ∀(p B:Addr)(b0:Int)(ys:List V)(us:List Tri)(H':Hp),SameL4 tbL tbS tbH tbT H H'->Tb4 tbL tbS tbH tbT H'->H p=none->H B=none->TabAt H' p B b0 ys us->Cn us b0->(∀s,Has us b0 s↔(Has ks a0 s/\∀z∈zs,∃r∈s,r∈z.2))->us.length<=800->Q (.ref p) H'
theorem scTal:Gu ["table", "lists", "touched", "roads"] ["table", "lists"] (Gg Zgw):=⟨rfl,rfl,rfl,by decide +kernel,rfl,by decide +kernel,by decide +kernel⟩
theorem Zf2 {f aa ab tbL tbS tbH tbT:Addr}{fd L O:FuncData}{tM:Tok}(F:Fun K "touching_all" "touching_all" Zgw f fd)(ak:mg "MOST_ON_THE_WAY" = some (.int 8000 tM))(am:Fun K "touching" "touching" Zec aa L)(an:Binds K L ["table", "roads", "most"] [])(ao:mg "touching" = some (.ref aa))(ap:FnOk P w K mg base CX0 7 aa L ["table", "roads", "most"] (ZfV tbL tbS tbT))(aq:Fun K "check_size" "check_size" Zgu ab O)(ar:Binds K O ["table"] [])(as:mg "check_size" = some (.ref ab))(au:FnOk P w K mg base CX0 1 ab O ["table"] ZfZ)(ae:mg "list" = none) :
  FnOk P w K mg base CX0 8 f fd ["table", "lists"] (Zf1 tbL tbS tbH tbT):=by
 refine F.ok scTal (λvs H Q E h=>?_) (λa5 A outer s H vs Q E hr h=>?_)
 ·obtain ⟨_,_,_,_,_,_,_,rfl,_⟩:=h
  rfl
 ·obtain ⟨tb,l,ll,a0,xs,ks,zs,rfl,T,SO,C0,av,el,lz,n,ac,q⟩:=h;refine ⟨_,(@Ge _ _ _ _ _ (@Gp _ _ 2 _ _ _ _ scTal.nd rfl (Or.inl rfl) (@Jf _ _ _ _ _ (@Ga _ _ _ _ _ (@GN _ _ _ _ _ _ _ (Xr K) (pv 0) Gh (λ_ _=>rfl)) (@Ga _ _ _ _ _ (G0 (O4 K) rfl ae JG (@Ga _ _ _ _ _ (@GN _ _ _ _ _ _ _ (Xr K) (pv 0) Gh (λ_ _=>rfl)) Gc rfl)) Gc rfl) rfl)) rfl (by first | exact .inl rfl | exact .inr rfl))
    (@Ge _ _ _ _ _ (@JK _ _ _ _ _ _ _ _ Yci rfl (Jv K (pv 1)) (Gn (i:=3) scTal.nd rfl (Or.inl rfl))
    (@Gi _ _ _ (@Gp _ _ 2 _ _ _ _ scTal.nd rfl (Or.inl rfl) (@Gk _ _ _ _ _ _ _ _ _ _ _ _ _ _ _ _ ap (hr.mono (by decide)) rfl ao am.kp an .nil Gz (@Ga _ _ _ _ _ (pv 2) (@Ga _ _ _ _ _ (pv 3) (@Ga _ _ _ _ _ (Xo (v:=.int 8000) rfl ak ⟨_,rfl⟩) Gc rfl) rfl) rfl) (by decide) rfl rfl) rfl (by first | exact .inl rfl | exact .inr rfl))) (by intro _;rfl))
    (@Ge _ _ _ _ _ (Jn (@Gk _ _ _ _ _ _ _ _ _ _ _ _ _ _ _ _ au (hr.mono (by decide)) rfl as aq.kp ar .nil Gz (@Ga _ _ _ _ _ (pv 2) Gc rfl) (by decide) rfl rfl))
    (@Gi _ _ _ (@Gv _ _ _ _ (pv 2)))))),?_⟩
  refine ⟨_,rfl,tb,_,_,_,rfl,rfl,SqT.of T.w,Gq (j:=0) rfl,_,rfl,tb,_,_,_,rfl,rfl,SqT.of T.w,Gq (j:=1) rfl,l,_,rfl,.inl (SqL.of T.l),λB ag=>⟨JS,λp hp=>?_⟩⟩;have s1:Same H (upd H B (.lst xs)):=Same.new ag;have s2:Same (upd H B (.lst xs)) (upd (upd H B (.lst xs)) p (.tup [.int a0,.ref B])):=Same.new hp;have T2:TabAt (upd (upd H B (.lst xs)) p (.tup [.int a0,.ref B])) p B a0 xs ks:=⟨Gb,s2 _ _ Gb,T.t.same (s1.trans s2)⟩;have Y:=s1.trans s2;have aw:=s1.free hp;generalize upd (upd H B (.lst xs)) p (.tup [.int a0,.ref B])=H2 at T2 Y;clear s1 s2 hp;dsimp only [GY];refine ⟨_,rfl,ll,rfl,⟨_,SqL.of (Y _ _ el)⟩,?_⟩;refine JW (K:=K) (a:=ll) (xs:=zs.map λz=>V.ref z.1) (λi σ H'=>∃(p B:Addr)(Z:Int)(ys:List V)(us:List Tri)(v3:Option V),σ=[some (.ref tb),some (.ref ll),some (.ref p),v3]/\SameL4 tbL tbS tbH tbT H H'/\Tb4 tbL tbS tbH tbT H'/\H p=none/\H B=none/\TabAt H' p B Z ys us/\Cn us Z/\(∀s,Has us Z s↔(Has ks a0 s/\∀z∈zs.take i,∃r∈s,r∈z.2))/\us.length<=800) ⟨p,B,a0,xs,ks,none,rfl,SameL4.of Y,ac.same Y,aw,ag,T2,C0,λs=>by simp,av⟩ (by rintro i σ H' _ ⟨_,_,_,_,_,_,_,s',_⟩;exact SqL.of (s'.at_ ac el λ_ z=>by cases z)) ?_ ?_
  ·rintro i x σ H3 ah ⟨p,B,Z,ys,us,v3,rfl,s3,D,ai,aj,T3,C3,U,ad⟩;rw [Yba] at ah;obtain ⟨z,hz,rfl⟩:=Ybn.mp ah;have ax:=Yau hz;dsimp only [GY];refine ⟨_,rfl,_,rfl,p,B,z.1,Z,8000,ys,us,z.2,rfl,T3,SO.sub C3 (λs h=>((U s).mp h).1),by decide,s3.at_ ac (lz z ax) (λ_ y=>by cases y),D.ld,⟨n.ls,n.lt,n.st⟩,D.s,D.t,λp4 l4 c0 ws vs H4 s4 ay az a1 a2 a3 W C4 a4 a6=>?_⟩;refine ⟨p4,l4,c0,ws,vs,_,rfl,s3.trans s4.toT,D.byT n s4 ay az a1,s3.free D a2,s3.free D a3,W,C4,λs=>?_,by lia⟩;rw [a4,U,UW,Ybs,hz];simp only [Option.toList,Yah,Yai,ne_eq,not_true,false_or];constructor
   ·rintro ⟨⟨h1,h2⟩,h3⟩;exact ⟨h1,λy hy=>hy.elim (h2 y) λe=>by rw [e];exact h3⟩
   ·rintro ⟨h1,h2⟩;exact ⟨⟨h1,λy hy=>h2 y (.inl hy)⟩,h2 z (.inr rfl)⟩
  ·rintro σ H3 ⟨p,B,Z,ys,us,v3,rfl,s3,D,ai,aj,T3,C3,U,ad⟩;rw [Yab,Ybk] at U;refine ⟨_,rfl,p,B,Z,ys,us,rfl,T3,ad,?_⟩;exact ⟨_,rfl,q p B Z ys us H3 s3 D ai aj T3 C3 U ad⟩
end
structure Fm (H0 H:Hp)(d:Addr)(c:Nat)(rs:List Int)(fo:Addr)(zs:List (Addr×List Int)):Prop where
 p:∃c,Pool H0 d c
 k:Pk H0 H d c
 f:H0 fo=none
 e:H fo=some (.lst (zs.map λz=>V.ref z.1))
 l:Lz H zs
 n:∀z∈zs,H0 z.1=none/\z.1≠fo
 s:∀z∈zs,Sok rs z.2
section
variable {H0 H H':Hp}{d fo l:Addr}{c c':Nat}{rs ss:List Int}{zs:List (Addr×List Int)}
theorem Fm.nd (F:Fm H0 H d c rs fo zs):fo≠d:=by
 obtain ⟨c,p⟩:=F.p;exact Ne.symm (p.ne F.f)
theorem Fm.nz (F:Fm H0 H d c rs fo zs):∀z∈zs,z.1≠d:=λz j=>by
 obtain ⟨c,p⟩:=F.p;exact Ne.symm (p.ne (F.n z j).1)
theorem Fm.go (F:Fm H0 H d c rs fo zs)(k:Pk H H' d c'):Fm H0 H' d c' rs fo zs:=
 ⟨F.p,F.k.trans k,F.f,k.keep _ _ F.nd F.e,λz j=>k.keep _ _ (F.nz z j) (F.l z j),F.n,F.s⟩
theorem Fm.add (F:Fm H0 H d c rs fo zs)(k:Pk H H' d c')(D:H l=none)(L:H' l=some (.lst (ss.map V.int)))(O:Sok rs ss):Fm H0 (upd H' fo (.lst ((zs.map λz=>V.ref z.1)++[.ref l]))) d c' rs fo (zs++[(l,ss)]):=by
 have G:=F.go k;have j:l≠fo:=λz=>by rw [z,F.e] at D;cases D
 refine ⟨F.p,G.k.put F.f (Ne.symm F.nd),F.f,by rw [Gb,Yak];rfl,λz B=>?_,λz B=>?_,λz B=>?_⟩
 ·rcases Yah.mp B with h | h
  ·exact Gj (G.l z h) (F.n z h).2
  ·rw [Yai.mp h];exact Gj L j
 ·rcases Yah.mp B with h | h
  ·exact F.n z h
  ·rw [Yai.mp h];exact ⟨F.k.free D,j⟩
 ·rcases Yah.mp B with h | h
  ·exact F.s z h
  ·rw [Yai.mp h];exact O
end
theorem Zcu {rs:List Int}(h:Rds rs){i:Nat}{x:Int}(D:rs[i]?=some x){s:List Int}(j:Sok (rs.take i) s):Sok (rs.take (i+1)) (s++[x]):=by
 have tk:rs.take (i+1)=rs.take i++[x]:=by rw [Ybs,D];rfl
 have B:=h.1.sublist (List.take_sublist (i+1) rs);rw [tk,Ybu] at B;refine ⟨Ybu.mpr ⟨j.1,by simp,λa ha b L=>B.2.2 a (j.2 a ha) b L⟩,λy O=>?_⟩;rw [tk];rcases Yah.mp O with h | h
 ·exact Ydb _ (j.2 y h)
 ·exact Ycc _ h
theorem Sok.mono {rs j s:List Int}(h:Sok rs s)(B:∀x∈rs,x∈j):Sok j s:=⟨h.1,λx D=>B x (h.2 x D)⟩
section
variable {P:Program}{w:World}{K:W.Frag}{mg:Str->Option Value}{base:Heap}
noncomputable def Zf3:Sp:=λvs H Q _=>∃(d rl:Addr)(c:Nat)(rs:List Int),vs=[.ref d,.ref rl]/\Pool H d c/\c<800000/\rl≠d/\H rl=some (.lst (rs.map V.int))/\Rds rs /\
 ∀(l:Addr)(ws:List (Addr×List Int))(H':Hp),Pk H H' d (c+300)->H l=none->H' l=some (.lst (ws.map λz=>V.ref z.1))->Lz H' ws->(∀z∈ws,H z.1=none)->(∀z∈ws,Sok rs z.2)->(ws.map (·.2)).Pairwise (λa b=>JO a b=true)->ws.length<=40->Q (.ref l) H'
theorem scFam:Gu ["pool", "roads", "kind", "found", "road", "turn"] ["pool", "roads"] (Gg ZgB):=⟨rfl,rfl,rfl,by decide +kernel,rfl,by decide +kernel,by decide +kernel⟩
theorem Zf4 {f fT fS fU fO:Addr}{fd an ao ap aq:FuncData}(F:Fun K "_law_family" "_law_family" ZgB f fd)(FT:Fun K "_law_take" "_law_take" Zb6 fT an)(bT:Binds K an ["pool", "many"] [])(mT:mg "_law_take" = some (.ref fT))(FS:Fun K "_law_set" "_law_set" Zgz fS ao)(bS:Binds K ao ["pool", "roads"] [])(mS:mg "_law_set" = some (.ref fS))(FU:Fun K "_law_turned" "_law_turned" ZgA fU ap)(bU:Binds K ap ["pool", "one", "roads"] [])(mU:mg "_law_turned" = some (.ref fU))(FO:Fun K "_law_once" "_law_once" Ze6 fO aq)(bO:Binds K aq ["sets"] [])(mO:mg "_law_once" = some (.ref fO))(ac:mg "range" = none)(ag:mg "len" = none)(ax:mg "int" = none)(ah:mg "sorted" = none):FnOk P w K mg base CX0 3 f fd ["pool", "roads"] Zf3:=by
 have GT:FnOk P w K mg base CX0 1 fT an ["pool", "many"] XO:=Vp FT;have GS:FnOk P w K mg base CX0 2 fS ao ["pool", "roads"] ZfE:=ZfF FS FT bT mT;have GU:FnOk P w K mg base CX0 2 fU ap ["pool", "one", "roads"] ZfG:=ZfH FU FT bT mT ag ax ah;have GO:FnOk P w K mg base CX0 1 fO aq ["sets"] Zd1:=ZcU FO ah;refine F.ok scFam (λvs H Q E h=>?_) (λaQ A outer s H vs Q E hr h=>?_)
 ·obtain ⟨_,_,_,_,rfl,_⟩:=h
  rfl
 ·obtain ⟨d,rl,c,rs,rfl,hP,hc,aa,er,ad,q⟩:=h;have aR:=Ybe.symm;have ay:=ad.2.2.2;refine ⟨_,Ge (Gp (i:=2) scFam.nd rfl (Or.inl rfl) (Gk GT (hr.mono (by decide)) rfl mT FT.kp bT .nil Gz (Ga (pv 0) (Ga Gh Gc))))
    (Ge (Jl (Gs U2 (pv 2) Gh (GH _)) (Gi (Gv (GW ZcE (Gr (Ga (Gr Gc) Gc)) (Gk GT (hr.mono (by decide)) rfl mT FT.kp bT .nil Gz (Ga (pv 0) (Ga Gh Gc)))))) GC)
    (Ge (Gp (i:=3) scFam.nd rfl (Or.inl rfl) (Gr Gc))
    (Ge (Jl (Gs U2 (pv 2) Gh (GH _)) (Ge (Gp (i:=3) scFam.nd rfl (Or.inl rfl) (Gr (Ga (Gr Gc) Gc)))
    (Gi (JK Yci rfl (Jv K (Uq (kSl K) (pv 1) Vv (Vw (GW JF Gh (Gk GT (hr.mono (by decide)) rfl mT FT.kp bT .nil Gz (Ga (pv 0) (Ga Gh Gc))))))) (Gn (i:=4) scFam.nd rfl (Or.inr rfl))
    (Gi (Gp (i:=3) scFam.nd rfl (Or.inl rfl) (GW U9 (pv 3) (G7 (own:=["one"]) rfl (Gm (fr:=[("road", 4)]) [(".0", .local),("one", .local),("road", .cell)] rfl rfl (by decide +kernel) rfl (by decide +kernel) ⟨rfl,trivial⟩ ⟨λh=>GQ h,λh=>GQ h,λ_=>⟨_,rfl⟩,trivial⟩ ⟨⟨rfl,.inl rfl,.inl rfl⟩,trivial⟩) (Jv K (pv 3)) (λ_ _ _ _=>Gn (i:=0) (show List.Nodup (["one", "road"]:List Str) by decide +kernel) rfl (Or.inl rfl)) (λ_ _ _ _=>JL) (λ_ _ _ _=>GW U9 (pv 0) (Gr (Ga (pv 1) Gc)))))))))) GC)
    (Ge (JK Yci rfl (Jt rfl ac (Ga (GW JF Gh (GN (Oz K) (Gr (Ga (Gk GT (hr.mono (by decide)) rfl mT FT.kp bT .nil Gz (Ga (pv 0) (Ga Gh Gc))) (Ga (Gk GT (hr.mono (by decide)) rfl mT FT.kp bT .nil Gz (Ga (pv 0) (Ga Gh Gc))) Gc))) (Gk GT (hr.mono (by decide)) rfl mT FT.kp bT .nil Gz (Ga (pv 0) (Ga Gh Gc))) (λ_ _=>rfl))) Gc)) (Gn (i:=5) scFam.nd rfl (Or.inl rfl))
    (Ge (Jn (Um Yco Ycy Ycz G9 (pv 3) (Ga (Gk GS (hr.mono (by decide)) rfl mS FS.kp bS .nil Gz (Ga (pv 0) (Ga (pv 1) Gc))) Gc)))
    (Gi (Jl (Gs U2 (Gk GT (hr.mono (by decide)) rfl mT FT.kp bT .nil Gz (Ga (pv 0) (Ga Gh Gc))) Gh (GH _)) (Gi (Jn (Um Yco Ycy Ycz G9 (pv 3) (Ga (Gk GU (hr.mono (by decide)) rfl mU FU.kp bU .nil Gz (Ga (pv 0) (Ga (GN (Oz K) (pv 3) (Gk GT (hr.mono (by decide)) rfl mT FT.kp bT .nil Gz (Ga (pv 0) (Ga (Gw (YU K) rfl ag Yck (Ga (pv 3) Gc)) Gc))) (λ_ _=>rfl)) (Ga (pv 1) Gc)))) Gc)))) GC))))
    (Gi (Gv (Gk GO (hr.mono (by decide)) rfl mO FO.kp bO .nil Gz (Ga (pv 3) Gc)))))))),?_⟩
  refine ⟨_,rfl,d,c,10,rfl,hP,by lia,by decide,Je,λkd H1 a1 b1 k1=>?_⟩;refine ⟨_,rfl,rfl,_,rfl,Ug (λc1=>?_) (λc1=>?_)⟩
  ·refine ⟨Yan _,λe he=>⟨(by show 1<=sizeLine;decide),λp hp=>?_⟩⟩;have s2:Same H1 (upd (upd H1 e (.lst [])) p (.lst [.ref e])):=(Same.new he).put ((Same.new he).free hp);have aF:e≠p:=Gf Gb hp;have ar:=Ne.symm ((k1.grow (Same.new (o:=.lst []) he)).at_.ne hp);have aG:=Ne.symm (k1.at_.ne he);refine ⟨_,rfl,d,c+1,2,rfl,k1.at_.same s2,by lia,by decide,Je,λr H2 a2 b2 k2=>?_⟩;have ep:=k2.keep _ _ ar Gb;have ee:=k2.keep _ _ aG (Gj (o:=.lst [.ref e]) (Gb (H:=H1) (a:=e) (o:=.lst [])) aF);refine ⟨p,r,_,rfl,rfl,ep,by lia,by lia,(by simp;lia),λl hl=>?_⟩;have K2:=(k1.grow s2).trans k2;have s3:Same H2 (upd H2 l (.lst (List.replicate r.toNat [V.ref e]).flatten)):=Same.new hl;have ai:r=0\/r=1:=by lia
   refine q l (List.replicate r.toNat (e,[])) _ ((K2.grow s3).mono (by lia)) (K2.free hl) ?_ (λz B=>?_) (λz B=>?_) (λz B=>?_) ?_ ?_
   ·rw [Gb];rcases ai with rfl | rfl <;> rfl
   ·rw [(List.mem_replicate.mp B).2];exact s3 _ _ ee
   ·rw [(List.mem_replicate.mp B).2];exact k1.free he
   ·rw [(List.mem_replicate.mp B).2];exact ⟨List.Pairwise.nil,λx hx=>by cases hx⟩
   ·rcases ai with rfl | rfl <;> simp
   ·rw [List.length_replicate]
    lia
  ·dsimp only [JV];refine ⟨Yan _,λfo as=>?_⟩;have F1:Fm H (upd H1 fo (.lst [])) d (c+1) rs fo []:=⟨⟨c,hP⟩,k1.new as,k1.free as,Gb,λz B=>(by cases B),λz B=>(by cases B),λz B=>(by cases B)⟩;generalize upd H1 fo (.lst [])=H2 at F1 ⊢;dsimp only [GY];refine GD (λσ' H'=>∃(fo:Addr)(zs:List (Addr×List Int))(v4:Option V),σ'=[some (.ref d),some (.ref rl),some (.int kd),some (.ref fo),v4,none]/\Fm H H' d (c+2) rs fo zs/\zs.length<=16) ?s0 ?f0
   case f0=>
    intro hk;refine ⟨_,rfl,rfl,_,rfl,Ug (λc2=>?_) (λc2=>?_)⟩
    ·refine ⟨Yan _,λe he=>⟨(by show 1<=sizeLine;decide),λf1 au=>?_⟩⟩;have s2:Same H2 (upd (upd H2 e (.lst [])) f1 (.lst [.ref e])):=(Same.new he).put ((Same.new he).free au);have az:e≠f1:=Gf Gb au;have G1:Fm H (upd (upd H2 e (.lst [])) f1 (.lst [.ref e])) d (c+1) (rs.take 0) f1 [(e,[])]:=by
      refine ⟨⟨c,hP⟩,F1.k.grow s2,F1.k.free ((Same.new he).free au),Gb,λz B=>?_,λz B=>?_,λz B=>?_⟩
      ·rw [Yai.mp B];exact Gj Gb az
      ·rw [Yai.mp B];exact ⟨F1.k.free he,az⟩
      ·rw [Yai.mp B];exact ⟨List.Pairwise.nil,λx hx=>by cases hx⟩
     generalize upd (upd H2 e (.lst [])) f1 (.lst [.ref e])=H3 at G1 ⊢;dsimp only [GY];refine ⟨_,rfl,_,rfl,d,c+1,4,rfl,G1.k.at_,by lia,by decide,Je,λr H4 a4 b4 k4=>?_⟩;have G4:=G1.go k4;have aH:=G4.k.keep _ _ aa er;refine ⟨_,_,rfl,rfl,_,rfl,rl,_,rfl,SqL.of aH,λsl a3=>⟨sl,rfl,⟨_,SqL.of Gb⟩,?_⟩⟩;have a7:YQ (rs.map V.int) none (some (1+r))=(rs.take (1+r).toNat).map V.int:=by
      rw [show (1+r)=(((1+r).toNat:Nat):Int) by lia,ZeJ,List.map_take]
      rfl
     rw [a7];have s5:Same H4 (upd H4 sl (.lst ((rs.take (1+r).toNat).map V.int))):=Same.new a3;have av:upd H4 sl (.lst ((rs.take (1+r).toNat).map V.int)) sl=some (.lst ((rs.take (1+r).toNat).map V.int)):=Gb;have aS:=Ne.symm (k4.at_.ne a3);have G5:=G4.go ((Pk.start G4.k.at_).grow s5);generalize upd H4 sl (.lst ((rs.take (1+r).toNat).map V.int))=H5 at s5 av G5 ⊢;have aI:(1+r).toNat<=4:=by lia
     generalize (1+r).toNat=n at av aI ⊢;refine JW (K:=K) (a:=sl) (xs:=(rs.take n).map V.int) (λi σ H'=>∃(fo:Addr)(zs:List (Addr×List Int))(v4:Option V),σ=[some (.ref d),some (.ref rl),some (.int kd),some (.ref fo),v4,none]/\Fm H H' d (c+2) (rs.take i) fo zs/\zs.length=2 ^ i/\H' sl=some (.lst ((rs.take n).map V.int)))
      ⟨f1,[(e,[])],none,rfl,G5,rfl,av⟩ (by rintro i σ H' _ ⟨_,_,_,_,_,_,e⟩;exact SqL.of e) ?_ ?_
     ·rintro i x σ H6 aJ ⟨fo,zs,v4,rfl,L,U,aj⟩;obtain ⟨x,rfl,hx⟩:=JA aJ;have aK:i<n:=by
       have:=(Yaj.mp hx).1;rw [Ybj] at this
       lia
      rw [List.getElem?_take_of_lt aK] at hx;have aL:2 ^ i<=8:=Nat.pow_le_pow_right (n:=2) (j:=3) (by decide) (show i<=3 by lia);dsimp only [GY];refine ⟨_,rfl,_,rfl,fo,rfl,⟨_,SqL.of L.e⟩,λD hD=>?_⟩;refine GE (K:=K) (a:=fo) (xs:=zs.map λz=>V.ref z.1) (λj ys H'=>∃us:List (Addr×List Int),ys=(us.map λz=>V.ref z.1)/\Same H6 H'/\H' D=some (.lst ys)/\Lz H' us/\(∀u∈us,H6 u.1=none/\u.1≠D)/\(∀u∈us,Sok (rs.take (i+1)) u.2)/\us.length=j)
       ⟨[],rfl,Same.new hD,Gb,λz B=>(by cases B),λz B=>(by cases B),λz B=>(by cases B),rfl⟩ (by rintro j ys H' _ ⟨_,_,s,_⟩;exact SqL.of (s _ _ L.e)) ?_ ?_
      ·rintro j y ys H7 a8 ⟨us,rfl,s7,eD,lu,nu,su,ae⟩;rw [Yba] at a8;obtain ⟨z,B,rfl⟩:=Ybn.mp a8;have Y:z∈zs:=Yau B;have hj:j<zs.length:=(Yaj.mp B).1;refine ⟨⟨rfl,trivial⟩,?_⟩;unfold Zbr;refine Ox ?_;refine ⟨_,rfl,_,rfl,(by show 1<=sizeLine;decide),λp hp=>?_⟩;have s8:Same H7 (upd H7 p (.lst [.int x])):=Same.new hp;have aA:=(L.s z Y).len;rw [Ybj] at aA;refine ⟨z.1,p,_,_,rfl,rfl,s8 _ _ (s7 _ _ (L.l z Y)),Gb,(by rw [Yab,Yat];lia),λp2 aB=>?_⟩;have s9:=s8.put (o:=.lst (z.2.map V.int++[V.int x])) (s8.free aB);have aC:upd (upd H7 p (.lst [.int x])) p2 (.lst (z.2.map V.int++[V.int x])) p2=some (.lst ((z.2++[x]).map V.int)):=by rw [Gb,Yak];rfl
       generalize upd (upd H7 p (.lst [.int x])) p2 (.lst (z.2.map V.int++[V.int x]))=H8 at s9 aC ⊢;have ak:H7 p2=none:=s8.free aB;have am:D≠p2:=Gf eD ak;refine ⟨s9 _ _ eD,(by rw [Yab];lia),us++[(p2,z.2++[x])],by rw [Yak];rfl,(s7.trans s9).put hD,Gb,λu hu=>?_,λu hu=>?_,λu hu=>?_,by rw [Yag,Yat,ae]⟩
       ·rcases Yah.mp hu with h | h
        ·exact Gj (s9 _ _ (lu u h)) (nu u h).2
        ·rw [Yai.mp h];exact Gj aC (Ne.symm am)
       ·rcases Yah.mp hu with h | h
        ·exact nu u h
        ·rw [Yai.mp h];exact ⟨s7.free ak,Ne.symm am⟩
       ·rcases Yah.mp hu with h | h
        ·exact su u h
        ·rw [Yai.mp h];exact Zcu ad hx (L.s z Y)
      ·rintro ys H7 ⟨us,rfl,s7,eD,lu,nu,su,ae⟩;rw [Yab] at ae;refine ⟨fo,D,_,_,rfl,rfl,s7 _ _ L.e,eD,(by rw [Yab,Yab];lia),λf2 ab=>?_⟩;have s8:=s7.put (o:=.lst ((zs.map λz=>V.ref z.1)++us.map λz=>V.ref z.1)) (s7.free ab);refine ⟨f2,zs++us,_,rfl,⟨⟨c,hP⟩,L.k.grow s8,L.k.free (s7.free ab),by rw [Gb,Yak],λz B=>?_,λz B=>?_,λz B=>?_⟩,by rw [Yag,ae,U,Nat.pow_succ];lia,s8 _ _ aj⟩
       ·rcases Yah.mp B with h | h
        ·exact s8 _ _ (L.l z h)
        ·exact Gj (lu z h) (Gf (lu z h) ab)
       ·rcases Yah.mp B with h | h
        ·exact ⟨(L.n z h).1,Gf (s7 _ _ (L.l z h)) ab⟩
        ·exact ⟨L.k.free (nu z h).1,Gf (lu z h) ab⟩
       ·rcases Yah.mp B with h | h
        ·exact (L.s z h).mono λx hx=>List.take_subset_take_left _ (Ydd i) hx
        ·exact su z h
     ·rintro σ H6 ⟨fo,zs,v4,rfl,L,U,aj⟩;have aL:2 ^ ((rs.take n).map V.int).length<=16:=Nat.pow_le_pow_right (n:=2) (j:=4) (by decide) (by rw [Yab,Ybj];lia);exact hk _ _ ⟨fo,zs,v4,rfl,⟨L.p,L.k,L.f,L.e,L.l,L.n,λz B=>(L.s z B).mono λx hx=>List.mem_of_mem_take hx⟩,by lia⟩
    ·exact hk _ _ ⟨fo,[],none,rfl,F1.go ((Pk.start F1.k.at_).mono (by lia)),Yan _⟩
   clear F1 as;rintro σ' H3 ⟨fo,zs,v4,rfl,F3,U⟩;refine ⟨_,rfl,d,c+2,6,rfl,F3.k.at_,by lia,by decide,Je,λr1 H4 a4 b4 k4=>?_⟩;refine ⟨_,rfl,d,c+3,12,rfl,k4.at_,by lia,by decide,Je,λr2 H5 a5 b5 k5=>?_⟩;refine ⟨(by show 2<=sizeLine;decide),λp hp=>?_⟩;have ar:=Ne.symm (k5.at_.ne hp);refine ⟨_,rfl,d,c+4,2,rfl,k5.at_.same (Same.new hp),by lia,by decide,Je,λr3 H6 a6 b6 k6=>?_⟩;obtain ⟨x,hx,ex⟩:=Xi (xs:=[r1,r2]) a6 b6;have x0:0<=x/\x<12:=by
    simp at hx
    lia
   refine ⟨p,_,_,_,rfl,rfl,SqL.of (k6.keep _ _ ar Gb),ex,_,_,rfl,rfl,_,rfl,by lia,by lia,?_⟩;have L:Fm H H6 d (c+5) rs fo zs:=F3.go (((k4.trans k5).new hp).trans k6);refine Ob (lo:=0) (λi σ H'=>∃(zs:List (Addr×List Int))(v5:Option V),σ=[some (.ref d),some (.ref rl),some (.int kd),some (.ref fo),v4,v5]/\Fm H H' d (c+5+16 * i) rs fo zs/\zs.length<=16+2 * i) ⟨zs,none,rfl,L,by lia⟩ ?_ ?_
   ·clear L F3 U zs;rintro i σ H7 hi ⟨zs,v5,rfl,Z,U⟩;have hi':i<12:=by lia
    have aD:=Z.k.keep _ _ aa er;dsimp only [GY];refine GD (λσ' H'=>∃(zs:List (Addr×List Int)),σ'=[some (.ref d),some (.ref rl),some (.int kd),some (.ref fo),v4,some (.int (0+(i:Int)))]/\Fm H H' d (c+5+16 * i+13) rs fo zs/\zs.length<=16+2 * i+1/\zs≠[]) ?s1 ?f1
    case f1=>
     intro hk;refine ⟨_,rfl,.inl ⟨rfl,_,SqL.of Z.e⟩,_,rfl,_,rfl,d,rl,c+5+16 * i,rs,rfl,Z.k.at_,by lia,aa,aD,ay,λl ss H8 k8 hl el sb=>?_⟩;refine ⟨fo,_,_,rfl,rfl,k8.keep _ _ Z.nd Z.e,(by rw [Yab];lia),?_⟩;exact hk _ _ ⟨_,rfl,Z.add k8 hl el (Sok.sub ad sb),by rw [Yag,Yat];lia,by simp⟩
    clear Z aD U zs;rintro σ' H8 ⟨zs,rfl,F8,U,aM⟩;have aT:0<zs.length:=List.length_pos_iff.mpr aM;refine ⟨_,rfl,d,c+5+16 * i+13,3,rfl,F8.k.at_,by lia,by decide,Je,λr H9 a9 b9 k9=>⟨rfl,_,rfl,Ug (λc2=>?_) (λc2=>?_)⟩⟩
    ·have F9:=F8.go k9;refine ⟨_,rfl,.inl ⟨rfl,_,SqL.of F9.e⟩,_,rfl,_,rfl,_,rfl,_,rfl,fo,_,rfl,.inl (SqL.of F9.e),d,c+5+16 * i+14,_,rfl,F9.k.at_,by lia,by rw [Yab];lia,Lt2.mono (p:=6) (by rw [Yab];show (zs.length:Int).natAbs<2 ^ 6;lia) (by decide),λr' aU aN aO aP=>?_⟩;have O:=F9.go aP;rw [Yab] at aO;obtain ⟨kk,rfl⟩:=Int.eq_ofNat_of_zero_le aN;have aE:kk<zs.length:=by lia
     have Y:zs[kk]∈zs:=Yea aE;refine ⟨fo,_,_,.ref zs[kk].1,rfl,rfl,SqL.of O.e,Gq (j:=kk) (by rw [Yba,Yap aE];rfl),_,rfl,d,zs[kk].1,rl,c+5+16 * i+15,zs[kk].2,rs,rfl,O.k.at_,by lia,O.nz _ Y,aa,O.l _ Y,O.k.keep _ _ aa er,ad,O.s _ Y,λl ss aV aw hl el so=>?_⟩;refine ⟨fo,_,_,rfl,rfl,aw.keep _ _ O.nd O.e,(by rw [Yab];lia),?_⟩;exact ⟨_,_,rfl,(O.add aw hl el so).go ((Pk.start (O.add aw hl el so).k.at_).mono (by lia)),by rw [Yag,Yat];lia⟩
    ·exact ⟨zs,_,rfl,F8.go (k9.mono (by lia)),by lia⟩
   ·rintro σ H7 ⟨zs,v5,rfl,Z,U⟩;refine ⟨_,rfl,fo,zs,rfl,Z.e,Z.l,by lia,λa ws H8 s8 ha ea sub so al ln=>?_⟩;exact q a ws H8 ((Z.k.grow s8).mono (by lia)) (Z.k.free ha) ea (λz B=>s8 _ _ (Z.l z (sub z B))) (λz B=>(Z.n z (sub z B)).1) (λz B=>Z.s z (sub z B)) so (by lia)
end
noncomputable def TpsAt (H:Hp)(F:Fml)(cs:List Addr):Prop:=Paired (λ(s:List Int) (c:Addr)=>H c=some (.tup (s.map V.int))) F cs
noncomputable def FamAt (H:Hp)(a:Addr)(F:Fml):Prop:=∃cs,H a=some (.lst (cs.map V.ref))/\TpsAt H F cs
section
variable {H H':Hp}{F:Fml}{cs:List Addr}{a:Addr}
theorem TpsAt.keep (x:TpsAt H F cs)(t:∀p ys,H p=some (.tup ys)->H' p=some (.tup ys)):TpsAt H' F cs:=Paired.mapP x λ_ _ z=>t _ _ z
theorem TpsAt.dats {K:W.Frag}(x:TpsAt H F cs):DatVs K H (cs.map V.ref) (F.map J9):=by
 induction x with
 | nil=>exact .nil
 | cons e _ ih=>exact .cons (.tup (SqT.of e) (GV _)) ih
theorem FamAt.keep (x:FamAt H a F)(t:∀p ys,H p=some (.tup ys)->H' p=some (.tup ys))(l:∀ys,H a=some (.lst ys)->H' a=some (.lst ys)):FamAt H' a F:=by
 obtain ⟨cs,h1,h2⟩:=x;exact ⟨cs,l _ h1,h2.keep t⟩
theorem FamAt.same (x:FamAt H a F)(s:Same H H'):FamAt H' a F:=x.keep (λp ys e=>s _ _ e) λys e=>s _ _ e
end
theorem G3 (F:Fml):SeqAt.shaped (.list (F.map J9))=true:=by
 unfold SeqAt.shaped;rw [Yby];refine ⟨by simp only [PyData.canLay0];exact Uu F,Ybh ?_⟩;have:=Ub F;simp only [PyData.depth]
 lia
theorem O0 (F G:Fml):PyData.eqv (.list (F.map J9)) (.list (G.map J9))=decide (F=G):=by
 simp only [PyData.eqv,OG]
theorem Jr (s:List Int):SeqAt.shaped (J9 s)=true:=by
 unfold SeqAt.shaped;rw [Yby];refine ⟨Yq s,Ybh ?_⟩;have:=Jo s;simp only [J9,PyData.depth]
 lia
theorem Paired.get {α β:Type}{F:α->β->Prop}{l:List α}{m:List β}(h:Paired F l m):∀{i:Nat}{a:α},l[i]?=some a->∃b,m[i]?=some b/\F a b:=by
 induction h with
 | nil=>intro i a e;simp at e
 | @cons x y l m r _ ih=>
  intro i a e;cases i with
  | zero=>simp at e;subst e;exact ⟨y,by simp,r⟩
  | succ i=>simp at e;obtain ⟨b,h1,h2⟩:=ih e;exact ⟨b,by simpa using h1,h2⟩
theorem Paired.get' {α β:Type}{F:α->β->Prop}{l:List α}{m:List β}(h:Paired F l m):∀{i:Nat}{b:β},m[i]?=some b->∃a,l[i]?=some a/\F a b:=by
 induction h with
 | nil=>intro i a e;simp at e
 | @cons x y l m r _ ih=>
  intro i a e;cases i with
  | zero=>simp at e;subst e;exact ⟨x,by simp,r⟩
  | succ i=>simp at e;obtain ⟨b,h1,h2⟩:=ih e;exact ⟨b,by simpa using h1,h2⟩
theorem UX {H H':Hp}{R:List Fml}{al:List Addr}(h:Paired (λF a=>FamAt H a F) R al)(t:∀p ys,H p=some (.tup ys)->H' p=some (.tup ys))(l:∀a∈al,∀ys,H a=some (.lst ys)->H' a=some (.lst ys)):Paired (λF a=>FamAt H' a F) R al:=by
 induction h with
 | nil=>exact .nil
 | @cons x y m n r _ ih=>exact .cons (r.keep t (l y (Yaw ..))) (ih λz j=>l z (Ybc _ j))
noncomputable def KvR (kvs:TTs)(R:List Fml):Prop:=kvs.length=R.length/\∀(i:Nat) p,kvs[i]?=some p->R[i]?=some p.1/\p.2.2=.int ((i:Int)+2)
theorem KvR.some {kvs:TTs}{R:List Fml}(h:KvR kvs R){k:Fml}{v:V}(e:U0 kvs k=some v):∃i:Nat,R[i]?=some k/\v=.int ((i:Int)+2):=by
 unfold U0 at e;obtain ⟨p,j,rfl⟩:=Ybn.mp e;have h1:=List.find?_some j;obtain ⟨i,hi⟩:=Ydt.mp (List.mem_of_find?_eq_some j);obtain ⟨h2,B⟩:=h.2 i p hi;exact ⟨i,by rw [h2,Ych h1],B⟩
theorem KvR.snoc {kvs:TTs}{R:List Fml}(h:KvR kvs R)(k:Fml)(b:Addr):KvR (kvs++[(k,b,.int ((R.length:Int)+2))]) (R++[k]):=by
 refine ⟨by rw [Yag,Yag,h.1];rfl,λi p e=>?_⟩;by_cases hi:i<kvs.length
 ·rw [Ybp hi] at e;obtain ⟨h1,h2⟩:=h.2 i p e;exact ⟨by rw [Ybp (by rw [<-h.1];exact hi)];exact h1,h2⟩
 ·have j:=(Yaj.mp e).1;rw [Yag,Yat] at j;have:i=kvs.length:=by lia
  subst this;rw [Ybw (Yad _),Ycg] at e;cases e;refine ⟨?_,by rw [h.1]⟩;rw [h.1,Ybw (Yad _),Ycg]
  rfl
theorem Za1 {kvs:TTs}{k:Fml}{b:Addr}{v:V}(h:U0 kvs k=none):U0 (kvs++[(k,b,v)]) k=some v:=by
 unfold U0 at h ⊢;rw [List.find?_append,Ydg.mp h];simp
structure Li (P:Program)(w:World)(H0 H:Hp)(rw fd nl:Addr)(R:List Fml)(al:List Addr)(kvs:TTs)(xs:List V)(ts:List Tri):Prop where
 s:Same H0 H
 er:H rw=some (.lst (al.map V.ref))
 fr:Paired (λF a=>FamAt H a F) R al
 na:∀a∈al,a≠rw/\a≠nl
 ed:H fd=some (dtt P w fd kvs)
 ks:KeysTT H kvs
 kr:KvR kvs R
 en:H nl=some (.lst xs)
 tr:Trs H xs ts
 f1:H0 rw=none
 f2:H0 fd=none
 f3:H0 nl=none
 ne:rw≠nl
section
variable {P:Program}{w:World}{H0 H H':Hp}{rw fd nl a b t q:Addr}{R:List Fml}{al:List Addr}{kvs:TTs}{xs ys zs:List V}{ts:List Tri}{G:Fml}
theorem Li.grow (L:Li P w H0 H rw fd nl R al kvs xs ts)(s:Same H H'):Li P w H0 H' rw fd nl R al kvs xs ts:=
 ⟨L.s.trans s,s _ _ L.er,Paired.mapP L.fr λ_ _ z=>z.same s,L.na,s _ _ L.ed,L.ks.keep λp ys e=>s _ _ e,L.kr,s _ _ L.en,L.tr.same s,L.f1,L.f2,L.f3,L.ne⟩
theorem Li.len (L:Li P w H0 H rw fd nl R al kvs xs ts):al.length=R.length:=L.fr.length.symm
theorem Li.row (L:Li P w H0 H rw fd nl R al kvs xs ts)(Y:KeyTT H b G)(ha:FamAt H a G)(U:a≠rw)(Z:a≠nl) :
  Li P w H0 (upd (upd H fd (dtt P w fd (kvs++[(G,b,.int ((R.length:Int)+2))]))) rw (.lst (al.map V.ref++[.ref a]))) rw fd nl (R++[G]) (al++[a]) (kvs++[(G,b,.int ((R.length:Int)+2))]) xs ts:=by
 have D:rw≠fd:=GZ L.er L.ed (λz=>by cases z);have aa:nl≠fd:=GZ L.en L.ed (λz=>by cases z);have j:∀p ys,H p=some (.tup ys)->upd (upd H fd (dtt P w fd (kvs++[(G,b,.int ((R.length:Int)+2))]))) rw (.lst (al.map V.ref++[.ref a])) p=some (.tup ys):=λp ys e=>Gj (Gj e (GZ e L.ed (λz=>by cases z))) (GZ e L.er (λz=>by cases z));have O:∀c,c≠rw->∀ys,H c=some (.lst ys)->upd (upd H fd (dtt P w fd (kvs++[(G,b,.int ((R.length:Int)+2))]))) rw (.lst (al.map V.ref++[.ref a])) c=some (.lst ys):=λc B ys e=>Gj (Gj e (GZ e L.ed (λz=>by cases z))) B;refine ⟨(L.s.put L.f2).put L.f1,by rw [Gb,Yak];rfl,?_,λc B=>?_,Gj Gb (Ne.symm D),λp hp=>?_,L.kr.snoc G b,O nl (Ne.symm L.ne) _ L.en,L.tr.keep j,L.f1,L.f2,L.f3,L.ne⟩
 ·exact Paired.snoc (UX L.fr j λc B=>O c (L.na c B).1) (ha.keep j (O a U))
 ·rcases Yah.mp B with h | h
  ·exact L.na c h
  ·rw [Yai.mp h];exact ⟨U,Z⟩
 ·rcases Yah.mp hp with h | h
  ·exact (L.ks p h).keep j
  ·rw [Yai.mp h];exact Y.keep j
theorem Li.other (L:Li P w H0 H rw fd nl R al kvs xs ts)(B:H q=some (.lst ys))(f:H0 q=none)(D:q≠rw)(O:q≠nl)(U:∀a∈al,a≠q):Li P w H0 (upd H q (.lst zs)) rw fd nl R al kvs xs ts:=by
 have j:∀p us,H p=some (.tup us)->upd H q (.lst zs) p=some (.tup us):=Jx B;refine ⟨L.s.put f,Gj L.er (Ne.symm D),?_,L.na,Gj L.ed (GZ L.ed B (λz=>by cases z)),L.ks.keep j,L.kr,Gj L.en (Ne.symm O),L.tr.keep j,L.f1,L.f2,L.f3,L.ne⟩;exact UX L.fr j λc Y us e=>Gj e (U c Y)
theorem Li.node {r:Tri}(L:Li P w H0 H rw fd nl R al kvs xs ts)(B:H t=some (.tup [.int r.1,.int r.2.1,.int r.2.2])):Li P w H0 (upd H nl (.lst (xs++[.ref t]))) rw fd nl R al kvs (xs++[.ref t]) (ts++[r]):=by
 have j:∀p us,H p=some (.tup us)->upd H nl (.lst (xs++[.ref t])) p=some (.tup us):=Jx L.en;refine ⟨L.s.put L.f3,Gj L.er L.ne,?_,L.na,Gj L.ed (GZ L.ed L.en (λz=>by cases z)),L.ks.keep j,L.kr,Gb,(L.tr.keep j).snoc (j _ _ B),L.f1,L.f2,L.f3,L.ne⟩;exact UX L.fr j λc D us e=>Gj e (L.na c D).2
end
theorem KvR.none {kvs:TTs}{R:List Fml}(h:KvR kvs R){G:Fml}(j:∀F∈R,Inner F)(B:¬ Inner G):U0 kvs G=none:=by
 cases e:U0 kvs G with
 | none=>rfl
 | some v=>
  obtain ⟨i,hi,_⟩:=h.some e;exact absurd (j G (Yau hi)) B
structure Tn (P:Program)(w:World)(H0 H:Hp)(rw fd nl nb pl lo hi:Addr)(R0:List Fml)(G1 G2:Fml)(xs:List V)(ts:List Tri)(wb:Nat)(Gd S:List Fml)(al:List Addr)(kvs:TTs)(cs:List Int):Prop where
 L:Li P w H0 H rw fd nl (R0++S) al kvs xs ts
 eb:H nb=some (.lst (cs.map V.int))
 ep:H pl=some (.lst [.ref lo,.ref hi])
 fl:FamAt H lo G1
 fh:FamAt H hi G2
 ok:∀G∈S,FamOk G/\Inner G
 wS:(S.map wt).sum<=wb
 nm:∀(j:Nat) G,Gd[j]?=some G->∃c,cs[j]?=some c/\Num (R0++S) G c
 cl:cs.length=Gd.length
 nab:∀a∈al,a≠nb/\a≠pl
section
variable {P:Program}{w:World}{H0 H H':Hp}{rw fd nl nb pl lo hi a b:Addr}{R0 Gd S:List Fml}{G1 G2 G:Fml}{al:List Addr}{kvs:TTs}{xs:List V}{ts:List Tri}{cs:List Int}{wb:Nat}{c:Int}
theorem Tn.grow (T:Tn P w H0 H rw fd nl nb pl lo hi R0 G1 G2 xs ts wb Gd S al kvs cs)(s:Same H H'):Tn P w H0 H' rw fd nl nb pl lo hi R0 G1 G2 xs ts wb Gd S al kvs cs:=
 ⟨T.L.grow s,s _ _ T.eb,s _ _ T.ep,T.fl.same s,T.fh.same s,T.ok,T.wS,T.nm,T.cl,T.nab⟩
theorem Tn.row (T:Tn P w H0 H rw fd nl nb pl lo hi R0 G1 G2 xs ts wb Gd S al kvs cs)(O:KeyTT H b G)(ha:FamAt H a G)(U:a≠rw)(Y:a≠nl)(Z:a≠nb)(n4:a≠pl)(m1:nb≠rw)(m2:pl≠rw)(m3:lo≠rw)(m4:hi≠rw)(hG:FamOk G/\Inner G) :
  Tn P w H0 (upd (upd H fd (dtt P w fd (kvs++[(G,b,.int (((R0++S).length:Int)+2))]))) rw (.lst (al.map V.ref++[.ref a]))) rw fd nl nb pl lo hi R0 G1 G2 xs ts (wb+wt G) Gd (S++[G]) (al++[a]) (kvs++[(G,b,.int (((R0++S).length:Int)+2))]) cs:=by
 have D:∀p ys,H p=some (.tup ys)->upd (upd H fd (dtt P w fd (kvs++[(G,b,.int (((R0++S).length:Int)+2))]))) rw (.lst (al.map V.ref++[.ref a])) p=some (.tup ys):=λp ys e=>Gj (Gj e (GZ e T.L.ed (λz=>by cases z))) (GZ e T.L.er (λz=>by cases z));have B:∀c,c≠rw->∀ys,H c=some (.lst ys)->upd (upd H fd (dtt P w fd (kvs++[(G,b,.int (((R0++S).length:Int)+2))]))) rw (.lst (al.map V.ref++[.ref a])) c=some (.lst ys):=λc hc ys e=>Gj (Gj e (GZ e T.L.ed (λz=>by cases z))) hc;refine ⟨by rw [<-Ybg];exact T.L.row O ha U Y,B _ m1 _ T.eb,B _ m2 _ T.ep,T.fl.keep D (B _ m3),T.fh.keep D (B _ m4),λF hF=>?_,?_,λj F hj=>?_,T.cl,λx hx=>?_⟩
 ·rcases Yah.mp hF with h | h
  ·exact T.ok F h
  ·rw [Yai.mp h];exact hG
 ·rw [Yak,List.sum_append];have:=T.wS;simp
  lia
 ·obtain ⟨c,h1,h2⟩:=T.nm j F hj;exact ⟨c,h1,by rw [<-Ybg];exact h2.app _⟩
 ·rcases Yah.mp hx with h | h
  ·exact T.nab x h
  ·rw [Yai.mp h];exact ⟨Z,n4⟩
theorem Tn.num (T:Tn P w H0 H rw fd nl nb pl lo hi R0 G1 G2 xs ts wb Gd S al kvs cs)(U:Num (R0++S) G c)(f:H0 nb=none)(Y:nb≠rw)(Z:nb≠nl)(m3:nb≠pl)(m4:nb≠lo)(m5:nb≠hi) :
  Tn P w H0 (upd H nb (.lst (cs.map V.int++[.int c]))) rw fd nl nb pl lo hi R0 G1 G2 xs ts wb (Gd++[G]) S al kvs (cs++[c]):=by
 have O:=Jx (o:=.lst (cs.map V.int++[.int c])) T.eb;refine ⟨T.L.other T.eb f Y Z λx hx=>(T.nab x hx).1,by rw [Gb,Yak];rfl,Gj T.ep (Ne.symm m3),T.fl.keep O λys e=>Gj e (Ne.symm m4),T.fh.keep O λys e=>Gj e (Ne.symm m5),T.ok,T.wS,λj F B=>?_,by rw [Yag,Yag,T.cl];rfl,T.nab⟩;by_cases hi:j<Gd.length
 ·rw [Ybp hi] at B;obtain ⟨c,h1,h2⟩:=T.nm j F B;exact ⟨c,by rw [Ybp (by rw [T.cl];exact hi)];exact h1,h2⟩
 ·have D:=(Yaj.mp B).1;rw [Yag,Yat] at D;have:j=Gd.length:=by lia
  subst this;rw [Ybw (Yad _),Ycg] at B;cases B;exact ⟨c,by rw [<-T.cl,Ybw (Yad _),Ycg];rfl,U⟩
end
noncomputable def NxC (m:Nat)(cs:List Int)(j:Nat):Prop:=(cs=[]/\j=m)\/(∃a,cs=[a]/\Nxt m j a)\/∃a b B,cs=[a,b]/\Nxt m B a/\Nxt B j b
theorem NxC.step {m B j:Nat}{cs:List Int}{c:Int}(h:NxC m cs B)(D:cs.length<2)(n:Nxt B j c):NxC m (cs++[c]) j:=by
 rcases h with ⟨rfl,rfl⟩ | ⟨a,rfl,h⟩ | ⟨a,b,L,rfl,_⟩
 ·exact .inr (.inl ⟨c,rfl,n⟩)
 ·exact .inr (.inr ⟨a,c,B,rfl,h,n⟩)
 ·simp at D
noncomputable def LxF (F:Fml):Prop:=F.Pairwise λa b=>JO a b=true
theorem LxF.low {F:Fml}(h:LxF F)(r:Int):LxF (JU r F):=h.filter _
theorem Za2 (r:Int)(a b:List Int):JO (r::a) (r::b)=JO a b:=by
 simp [JO]
theorem LxF.high {F:Fml}(h:LxF F)(r:Int):LxF (GJ r F):=by
 unfold GJ LxF;rw [Ycq];refine (List.Pairwise.filter _ h).imp_of_mem λ{a b} ha j z=>?_;have ha:=(Ybq.mp ha).2;have j:=(Ybq.mp j).2;cases a with
 | nil=>simp at ha
 | cons x a=>
  cases b with
  | nil=>simp at j
  | cons y b=>
   simp at ha j;subst ha;subst j
   rwa [Za2] at z
structure BfS (R S:List Fml):Prop where
 nd:(R++S).Nodup
 lx:∀G∈S,LxF G
structure BFS (R:List Fml)(ts:List Tri):Prop where
 bf:BF ts R.length
 nd:R.Nodup
 lx:∀F∈R,LxF F
theorem BFS.start {F:Fml}(h:LxF F):BFS [F] []:=⟨BF.start,by simp,λG j=>by rw [Yai.mp j];exact h⟩
theorem BfS.nil {R:List Fml}{ts:List Tri}(h:BFS R ts):BfS R []:=⟨by rw [Ybt];exact h.nd,λG j=>by cases j⟩
theorem BfS.snoc {R S:List Fml}{G:Fml}(h:BfS R S)(B:G ∉ R++S)(D:LxF G):BfS R (S++[G]):=by
 refine ⟨?_,λF j=>?_⟩
 ·rw [<-Ybg];exact Yca.mpr ⟨h.nd,by simp,λa ha b L=>by rw [Yai.mp L];exact λz=>B (z▸ha)⟩
 ·rcases Yah.mp j with j | j
  ·exact h.lx F j
  ·rw [Yai.mp j];exact D
theorem BFS.step {R S:List Fml}{ts:List Tri}{r j B:Int}(h:BFS R ts)(D:ts.length<R.length)(nx:NxC R.length [j,B] (R++S).length)(b:BfS R S):BFS (R++S) (ts++[(r,j,B)]):=by
 refine ⟨?_,b.nd,λF L=>(Yah.mp L).elim (h.lx F) (b.lx F)⟩;rcases nx with ⟨e,_⟩ | ⟨a,e,_⟩ | ⟨a,Y,Z,e,O,U⟩
 ·cases e
 ·cases e
 ·cases e;exact h.bf.step D O U
theorem Zcv {kvs:TTs}{R:List Fml}(h:KvR kvs R){G:Fml}(e:U0 kvs G=Option.none):G ∉ R:=λB=>by
 obtain ⟨i,hi⟩:=List.getElem?_of_mem B;have j:i<kvs.length:=by rw [h.1];exact (Yaj.mp hi).1
 obtain ⟨h1,_⟩:=h.2 i _ (Yap j);rw [hi] at h1;have D:kvs[i].1=G:=(Ybo h1).symm;unfold U0 at e;have:=List.find?_eq_none.mp (Ydg.mp e) kvs[i] (Yea j);simp [D] at this
theorem Zf5 {R:List Fml}{k:Nat}{G:Fml}(h:R[k]?=some G):Nxt R.length R.length ((k:Int)+2):=.inl ⟨by rw [UQ];have:=(Yaj.mp h).1;lia,rfl⟩
theorem ZcV {m:Nat}{c:Int}(h:c=0\/c=1):Nxt m m c:=.inl ⟨by rw [UQ];lia,rfl⟩
theorem ZcW:∀{F G:Fml},LxF F->LxF G->(∀s,s∈F↔s∈G)->F=G
 | [],[],_,_,_=>rfl
 | [],g::G,_,_,h=>absurd ((h g).mpr (Yaw ..)) (by simp)
 | f::F,[],_,_,h=>absurd ((h f).mp (Yaw ..)) (by simp)
 | f::F,g::G,hF,hG,h=>by
  obtain ⟨f1,f2⟩:=Yds.mp hF;obtain ⟨D,L⟩:=Yds.mp hG;have B:∀{a b:List Int},JO a b=true->JO b a=true->False:=λ{a b} h1 h2=>by
   have:=VR h1 h2;rw [Oq] at this;cases this
  have e:f=g:=by
   rcases Yaz.mp ((h f).mp (Yaw ..)) with z | z
   ·exact z
   ·rcases Yaz.mp ((h g).mpr (Yaw ..)) with y | y
    ·exact y.symm
    ·exact (B (D f z) (f1 g y)).elim
  subst e;have O:f ∉ F:=λz=>by have:=f1 f z;rw [Oq] at this;cases this
  have U:f ∉ G:=λz=>by have:=D f z;rw [Oq] at this;cases this
  rw [ZcW f2 L λs=>⟨λj=>?_,λj=>?_⟩]
  ·rcases Yaz.mp ((h s).mp (Ybc _ j)) with z | z
   ·rw [z] at j;exact absurd j O
   ·exact z
  ·rcases Yaz.mp ((h s).mpr (Ybc _ j)) with z | z
   ·rw [z] at j;exact absurd j U
   ·exact z
theorem Num.inj {R:List Fml}{G B:Fml}{c:Int}(h:Num R G c)(h':Num R B c):G=B:=by
 rcases h with ⟨rfl,rfl⟩ | ⟨rfl,rfl⟩ | ⟨i,hi,rfl⟩
 ·rcases h' with ⟨rfl,_⟩ | ⟨_,e⟩ | ⟨j,_,e⟩
  ·rfl
  ·lia
  ·lia
 ·rcases h' with ⟨_,e⟩ | ⟨rfl,_⟩ | ⟨j,_,e⟩
  ·lia
  ·rfl
  ·lia
 ·rcases h' with ⟨_,e⟩ | ⟨_,e⟩ | ⟨j,D,e⟩
  ·lia
  ·lia
  ·have:i=j:=by lia
   subst this;rw [hi] at D;exact Ybo D
theorem Zd2 {U:Fml}{R:List Fml}{ts:List Tri}{W:Nat}(h:Rw U R ts W)(B:BFS R ts)(Y:ts.length=R.length):ShOk ts:=by
 refine ⟨(h.fin Y).1,?_,λr Z=>?_⟩
 ·rw [List.nodup_iff_pairwise_ne,Ydf];intro i j hi hj aa e;obtain ⟨F,D,m1,L,h1⟩:=h.nd i _ (Yap hi);obtain ⟨G,O,m2,l2,h2⟩:=h.nd j _ (Yap hj);rw [e] at L h1;have el:=L.inj l2;have eh:=h1.inj h2;have em:∀s,s∈F↔s∈G:=λs=>by
   by_cases z:s.head?=some (ts[j]).1
   ·cases s with
    | nil=>simp at z
    | cons x s=>
     simp at z;rw [z,<-mem_high,<-mem_high,eh]
   ·have a:s∈F↔s∈JU (ts[j]).1 F:=⟨λq=>mem_low.mpr ⟨q,z⟩,λq=>(mem_low.mp q).1⟩;have b:s∈G↔s∈JU (ts[j]).1 G:=⟨λq=>mem_low.mpr ⟨q,z⟩,λq=>(mem_low.mp q).1⟩;rw [a,b,el]
  have:=ZcW (B.lx F (Yau D)) (B.lx G (Yau O)) em;subst this;have ab:i<R.length:=by lia
  have ac:j<R.length:=by lia
  have e1:=(Yaj.mp D).2;have e2:=(Yaj.mp O).2;have:=(List.getElem_inj B.nd).mp (e1.trans e2.symm)
  lia
 ·obtain ⟨i,hi⟩:=List.getElem?_of_mem Z;obtain ⟨F,_,⟨⟨s,hs⟩,_⟩,_,h2⟩:=h.nd i r hi;intro z;rw [z] at h2;rcases h2 with ⟨e,_⟩ | ⟨_,e⟩ | ⟨j,_,e⟩
  ·have:=mem_high.mpr hs;rw [e] at this;cases this
  ·lia
  ·lia
noncomputable def ZgK (ts:List Tri)(root:Int):Prop:=∃j,Rch ts root j/\Fin ts root j/\Said ts j ts j.length/\ts.length=j.length/\JE j root=some root
theorem YB {root:Int}(h:At [] root (-1)):ZgK [] root:=by
 have h0:root=0\/root=1:=by
  rcases h with h | h | ⟨r,n,_⟩
  ·exact .inl h
  ·exact .inr h
  ·have:=n.2;simp at this
 refine ⟨[],.nil,λy B=>?_,λj x D=>(by simp at D),rfl,?_⟩
 ·have:y=root:=by simpa [JP] using B
  rw [this];rintro ⟨a,b,_⟩;rcases h0 with h0 | h0
  ·exact a h0
  ·exact b h0
 ·rcases h0 with rfl | rfl
  ·exact Oe _
  ·exact OV _
theorem Zd3 {R:List Fml}{ts:List Tri}(B:BFS R ts)(L:ts.length=R.length)(T:TabOk ts)(a:At ts 2 (-1)):ZgK ts 2:=by
 have D:=B.bf;rw [<-L] at D;obtain ⟨h1,h2⟩:=D.fin;refine ⟨_,h1,h2,ZaS T,by rw [Yn],?_⟩;obtain ⟨r,n,_⟩:=a.nd (by decide);have j:0<ts.length:=(Yaj.mp n.2).1;have e:=L2.numI_of (Vi ts.length) (show (1:Int)<2 by decide) (i:=0) (by rw [VP j];rfl);rw [e]
 rfl
noncomputable def XR (F:Fml):List Int:=F.filterMap List.head?
theorem Zh (F:Fml)(s:List Int):XR (F++[s])=XR F++(match s with | []=>[] | x::_=>[x]):=by
 unfold XR;rw [List.filterMap_append];cases s <;> rfl
theorem mem_heads {F:Fml}{x:Int}:x∈XR F↔∃s,(x::s)∈F:=by
 unfold XR;rw [Ydj];constructor
 ·rintro ⟨s,h1,h2⟩;cases s with
  | nil=>simp at h2
  | cons y s=>simp at h2;subst h2;exact ⟨s,h1⟩
 ·rintro ⟨s,h⟩;exact ⟨_,h,rfl⟩
theorem Za3 (F:Fml):(XR F).length<=F.length:=List.length_filterMap_le ..
theorem YC (r:Int)(F:Fml)(s:List Int):JU r (F++[s])=JU r F++(if s.head?=some r then [] else [s]):=by
 unfold JU;rw [Ydm];by_cases h:s.head?=some r <;> simp [h]
theorem Xj (r:Int)(F:Fml)(s:List Int):GJ r (F++[s])=GJ r F++(if s.head?=some r then [s.tail] else []):=by
 unfold GJ;rw [Ydm,Yak];by_cases h:s.head?=some r <;> simp [h]
theorem Zhz {F:Fml}{n:Nat}(h:∀s∈F,s.length<=n):wt F<=n * F.length:=by
 induction F with
 | nil=>simp [wt]
 | cons s F ih=>
  have h1:=ih λu j=>h u (Ybc _ j);have h2:=h s (Yaw ..);unfold wt at h1 ⊢;rw [Yaq,List.sum_cons,Ybm,Nat.mul_succ]
  lia
theorem Zf6:∀{F:Fml},F.Nodup->F.length<=wt F+1:=by
 intro F nd;have h:F.length<=wt F+(if []∈F then 1 else 0):=by
  induction F with
  | nil=>simp [wt]
  | cons s F j=>
   obtain ⟨B,D⟩:=List.nodup_cons.mp nd;have j:=j D;unfold wt at j ⊢;rw [Yaq,List.sum_cons,Ybm];cases s with
   | nil=>
    rw [if_neg B] at j;rw [if_pos (Yaw ..)];simp
    lia
   | cons x s=>
    by_cases e:([]:List Int)∈F
    ·rw [if_pos e] at j;rw [if_pos (Ybc _ e)];simp
     lia
    ·rw [if_neg e] at j;rw [if_neg (by simpa using e)];simp
     lia
 split at h <;> lia
theorem Za4 {F:Fml}(h:F.Pairwise λa b=>JO a b=true):F.Nodup:=h.imp λ{a b} z e=>by rw [e,Oq] at z;cases z
theorem Zcw (ns:List Int):YQ (ns.map V.int) (some 1) none=(ns.drop 1).map V.int:=by
 unfold YQ;rw [show (some (1:Int))=some ((1:Nat):Int) from rfl,HT.sIx_nat];simp [HT.sIx];cases ns with
 | nil=>rfl
 | cons a b=>
  simp;exact Yek (by rw [Yab];exact Yad _)
section
variable {P:Program}{w:World}{K:W.Frag}{mg:Str->Option Value}{base:Heap}
noncomputable def Zf7:Sp:=λvs H Q _=>∃(l:Addr)(zs:List (Addr×List Int)),vs=[.ref l]/\H l=some (.lst (zs.map λz=>V.ref z.1))/\Lz H zs/\zs.length<=45/\(∀z∈zs,z.2.Pairwise (· < ·)/\z.2.length<=12/\∀x∈z.2,0<=x/\x<30) /\
 ∀(tp nl:Addr)(root:Int)(xs:List V)(ts:List Tri)(H':Hp),Same H H'->H tp=none->H nl=none->TabAt H' tp nl root xs ts->ShOk ts->ZgK ts root->At ts root (-1)->ts.length<=600->(∀s,Has ts root s↔s∈zs.map (·.2))->Q (.ref tp) H'
theorem scTab:Gu ["sets", "row", "found", "nodes", "at", "road", "low", "high", "numbers", "part"] ["sets"] (Gg Ze7):=⟨rfl,rfl,rfl,by decide +kernel,rfl,by decide +kernel,by decide +kernel⟩
theorem Zf8 {f fO:Addr}{fd aR:FuncData}(F:Fun K "_law_table" "_law_table" Ze7 f fd)(FO:Fun K "_law_once" "_law_once" Ze6 fO aR)(bO:Binds K aR ["sets"] [])(mO:mg "_law_once" = some (.ref fO))(ar:mg "len" = none)(bd:mg "min" = none)(am:mg "tuple" = none)(be:mg "sorted" = none):FnOk P w K mg base CX0 2 f fd ["sets"] Zf7:=by
 have GO:FnOk P w K mg base CX0 1 fO aR ["sets"] Zd1:=ZcU FO be;refine F.ok scTab (λvs H Q E h=>?_) (λb0 A outer s H vs Q E hr h=>?_)
 ·obtain ⟨_,_,rfl,_⟩:=h
  rfl
 ·obtain ⟨l,zs,rfl,el,lz,bN,aS,q⟩:=h;have hu:=hr.units;have au:(A.deeper (PyProof.Rows.envOfC "_law_table" (Gg Ze7) s.heap.objs.size f b0)).units+71<cLine:=by have:=hr.un;lia
  have bP:=Ybe.symm;refine ⟨_,Ge (Gp (i:=1) scTab.nd rfl (Or.inl rfl) (Gr (Ga (G7 (own:=["one"]) rfl (Ji (by decide +kernel) (by decide +kernel) rfl (by decide +kernel)) (Jv K (Gk GO (hr.mono (by decide)) rfl mO FO.kp bO .nil Gz (Ga (pv 0) Gc))) (λ_ _ _ _=>Gn (i:=0) (show List.Nodup (["one"]:List Str) by decide +kernel) rfl (Or.inl rfl)) (λ_ _ _ _=>JL) (λ_ _ _ _=>G0 (W2 K) rfl am Jg (Ga (pv 0) Gc))) Gc)))
    (Ge (Jl (PW.pt (U1 (Gs (Zbw K hu) (GN (Oz K) (pv 1) Gh (λ_ _=>rfl)) (Gr Gc) (GH _)) (OJ (Gs (Zbw K hu) (GN (Oz K) (pv 1) Gh (λ_ _=>rfl)) (Gr (Ga (Jf Gc) Gc)) (GH _))))) (Gi (Gv (Jf (Ga (Gw (YU K) rfl ar Yck (Ga (GN (Oz K) (pv 1) Gh (λ_ _=>rfl)) Gc)) (Ga (Gr Gc) Gc))))) GC)
    (Ge (Gp (i:=2) scTab.nd rfl (Or.inl rfl) (Zb2 rfl rfl au (G0 (W2 K) rfl am Jg (Ga (GN (Oz K) (pv 1) Gh (λ_ _=>rfl)) Gc)) Gh))
    (Ge (Gp (i:=3) scTab.nd rfl (Or.inl rfl) (Gr Gc))
    (Ge (Gp (i:=4) scTab.nd rfl (Or.inl rfl) Gh)
    (Ge (Vs Yci (Gs Zer (pv 4) (Gw (YU K) rfl ar Yck (Ga (pv 1) Gc)) (GH _))
    (Ge (Gp (i:=5) scTab.nd rfl (Or.inr rfl) (Gw (Zie K rfl) rfl bd Yd (Ga (G7 (own:=["one"]) rfl (Ji (by decide +kernel) (by decide +kernel) rfl (by decide +kernel)) (Jv K (GN (Oz K) (pv 1) (pv 4) (λ_ _=>rfl))) (λ_ _ _ _=>Gn (i:=0) (show List.Nodup (["one"]:List Str) by decide +kernel) rfl (Or.inl rfl)) (λ_ _ _ _=>G8 (Gs (ZcG K hu) (pv 0) (Jf Gc) (GH _))) (λ_ _ _ _=>GN (Xr K) (pv 0) Gh (λ_ _=>rfl))) Gc)))
    (Ge (VA (i:=6) scTab.nd rfl (Or.inl rfl) (own:=["one"]) rfl (Gm (fr:=[("road", 5)]) [(".0", .local),("one", .local),("road", .cell)] rfl rfl (by decide +kernel) rfl (by decide +kernel) ⟨rfl,trivial⟩ ⟨λh=>GQ h,λh=>GQ h,λ_=>⟨_,rfl⟩,trivial⟩ ⟨⟨rfl,.inl rfl,.inl rfl⟩,trivial⟩) (Jv K (GN (Oz K) (pv 1) (pv 4) (λ_ _=>rfl))) (λ_ _ _ _=>Gn (i:=0) (show List.Nodup (["one", "road"]:List Str) by decide +kernel) rfl (Or.inl rfl)) (λ_ _ _ _=>G8 (PW.pt (U1 (Gs (Zbw K hu) (pv 0) (Jf Gc) (GH _)) (OJ (Gs Zeq (GN (Xr K) (pv 0) Gh (λ_ _=>rfl)) (pv 1) (GH _)))))) (λ_ _ _ _=>pv 0))
    (Ge (VA (i:=7) scTab.nd rfl (Or.inl rfl) (own:=["one"]) rfl (Gm (fr:=[("road", 5)]) [(".0", .local),("one", .local),("road", .cell)] rfl rfl (by decide +kernel) rfl (by decide +kernel) ⟨rfl,trivial⟩ ⟨λh=>GQ h,λh=>GQ h,λ_=>⟨_,rfl⟩,trivial⟩ ⟨⟨rfl,.inl rfl,.inl rfl⟩,trivial⟩) (Jv K (GN (Oz K) (pv 1) (pv 4) (λ_ _=>rfl))) (λ_ _ _ _=>Gn (i:=0) (show List.Nodup (["one", "road"]:List Str) by decide +kernel) rfl (Or.inl rfl)) (λ_ _ _ _=>G8 (PW.pt (XZ (Gs (ZcG K hu) (pv 0) (Jf Gc) (GH _)) (Xp (Gs U2 (GN (Xr K) (pv 0) Gh (λ_ _=>rfl)) (pv 1) (GH _)))))) (λ_ _ _ _=>Uq (Zhd K) (pv 0) (Vw Gh) Vv))
    (Ge (Gp (i:=8) scTab.nd rfl (Or.inl rfl) (Gr Gc))
    (Ge (JK Yci rfl (Jv K (Gr (Ga (pv 6) (Ga (pv 7) Gc)))) (Gn (i:=9) scTab.nd rfl (Or.inl rfl))
    (Ge (Jl (PW.pt (XZ (Gs (ZcG K hu) (pv 9) (Gr Gc) (GH _)) (XZ (Gs (ZcG K hu) (pv 9) (Gr (Ga (Jf Gc) Gc)) (GH _)) (Xp (XY (Zao rfl rfl au (G0 (W2 K) rfl am Jg (Ga (pv 9) Gc)) (pv 2)) rfl))))) (Ge (ZdB rfl rfl au (pv 2) (G0 (W2 K) rfl am Jg (Ga (pv 9) Gc)) (GW JF (Gw (YU K) rfl ar Yck (Ga (pv 1) Gc)) Gh) rfl)
    (Gi (Jn (Um Yco Ycy Ycz G9 (pv 1) (Ga (pv 9) Gc))))) GC)
    (Gi (Jn (Um Yco Ycy Ycz G9 (pv 8) (Ga (Zb1 rfl rfl au (pv 2) (G0 (W2 K) rfl am Jg (Ga (pv 9) Gc)) (Gw (YU K) rfl ar Yck (Ga (pv 9) Gc)) ⟨rfl,rfl,rfl,rfl⟩) Gc))))))
    (Ge (Jn (Um Yco Ycy Ycz G9 (pv 3) (Ga (Jf (Ga (pv 5) (Ga (GN (Oz K) (pv 8) Gh (λ_ _=>rfl)) (Ga (GN (Oz K) (pv 8) Gh (λ_ _=>rfl)) Gc)))) Gc)))
    (Gi (Gp (i:=4) scTab.nd rfl (Or.inl rfl) (GW JF (pv 4) Gh))))))))))
    (Gi (Gv (Jf (Ga Gh (Ga (pv 3) Gc)))))))))),?_⟩
  refine GD (λO H'=>∃(D rw:Addr)(F0:Fml)(cs:List Addr),O=[some (.ref l),some (.ref rw),none,none,none,none,none,none,none,none]/\Same H H'/\H rw=none/\H D=none/\D≠rw/\H' rw=some (.lst [.ref D])/\H' D=some (.lst (cs.map V.ref))/\TpsAt H' F0 cs/\F0.length<=45/\FamOk F0/\wt F0<=540/\(∀s,s∈F0↔s∈zs.map (·.2))/\LxF F0) ?s0 ?f0
  case f0=>
   intro hk;refine ⟨_,rfl,l,zs,rfl,el,lz,by lia,λa ws H1 s1 ha ea sub so al ln=>⟨a,rfl,⟨_,SqL.of ea⟩,λD hD=>?_⟩⟩;refine GE (K:=K) (a:=a) (xs:=ws.map λz=>V.ref z.1) (λj ys H'=>∃cs:List Addr,ys=cs.map V.ref/\Same H1 H'/\H' D=some (.lst ys)/\TpsAt H' ((ws.map (·.2)).take j) cs) ⟨[],rfl,Same.new hD,Gb,.nil⟩ (by rintro j ys H' _ ⟨_,_,s,_⟩;exact SqL.of (s _ _ ea)) ?_ ?_
   ·rintro j y ys H2 ab ⟨cs,rfl,s2,eD,tp⟩;rw [Yba] at ab;obtain ⟨z,hz,rfl⟩:=Ybn.mp ab;have b1:=sub z (Yau hz);have tk:(ws.map (·.2)).take (j+1)=(ws.map (·.2)).take j++[z.2]:=by rw [Ybs,Yba,hz];rfl
    have ah:=tp.length;rw [Ybj] at ah;have hj:j<ws.length:=(Yaj.mp hz).1;refine ⟨trivial,?_⟩;unfold Zbr;refine Ox ?_;refine ⟨_,rfl,z.1,_,rfl,.inl ⟨SqL.of (s2 _ _ (s1 _ _ (lz z b1))),λt ht=>?_⟩⟩;have s3:Same H2 (upd H2 t (.tup (z.2.map V.int))):=Same.new ht;have bQ:D≠t:=Gf eD ht;refine ⟨s3 _ _ eD,(by rw [Yab];lia),cs++[t],by rw [Yak];rfl,(s2.trans s3).put hD,Gb,?_⟩;rw [tk];have t1:=Jx (o:=.lst (cs.map V.ref++[.ref t])) (s3 _ _ eD);exact Paired.snoc ((tp.keep λp ys e=>s3 _ _ e).keep t1) (t1 _ _ Gb)
   ·rintro ys H2 ⟨cs,rfl,s2,eD,tp⟩;rw [Yab,<-Yab (f:=λz:Addr×List Int=>z.2),Ybk] at tp;refine ⟨(by show 1<=sizeLine;decide),λrw a1=>?_⟩;have s3:Same H2 (upd H2 rw (.lst [.ref D])):=Same.new a1;have S2:=s1.trans s2;refine hk _ _ ⟨D,rw,ws.map (·.2),cs,rfl,S2.trans s3,S2.free a1,s1.free hD,Gf eD a1,Gb,s3 _ _ eD,tp.keep λp ys e=>s3 _ _ e,by rw [Yab];lia,⟨Za4 so,λs hs=>?_,λs hs=>?_⟩,?_,λs=>⟨λhs=>?_,λhs=>?_⟩,show LxF (ws.map (·.2)) from so⟩
    ·obtain ⟨z,hz,rfl⟩:=Yam.mp hs;exact (aS z (sub z hz)).1
    ·obtain ⟨z,hz,rfl⟩:=Yam.mp hs;exact (aS z (sub z hz)).2.2
    ·have:=Zhz (F:=ws.map (·.2)) (n:=12) λs hs=>by
      obtain ⟨z,hz,rfl⟩:=Yam.mp hs;exact (aS z (sub z hz)).2.1
     rw [Yab] at this
     lia
    ·obtain ⟨z,hz,rfl⟩:=Yam.mp hs;exact Yam.mpr ⟨z,sub z hz,rfl⟩
    ·obtain ⟨z,hz,rfl⟩:=Yam.mp hs;exact al z hz
  rintro O H1 ⟨D,rw,F0,cs,rfl,s1,a1,bR,b2,er,eD,tp,bS,bf,bT,aM,b3⟩;have r0:∀{H':Hp},Same H1 H'->SqL K H' rw [V.ref D]:=λs=>SqL.of (s _ _ er);refine GD (λO H'=>O=[some (.ref l),some (.ref rw),none,none,none,none,none,none,none,none]/\Same H1 H'/\Inner F0) ?s1 ?f1
  case f1=>
   intro hk;have done:∀H2:Hp,Same H1 H2->∀root:Int,(F0.length:Int)=root->At [] root (-1)->(∀s,Has [] root s↔s∈F0)->∀nl,H2 nl=none->∀tp,upd H2 nl (.lst []) tp=none->Q (.ref tp) (upd (upd H2 nl (.lst [])) tp (.tup [.int ((cs.map V.ref).length:Int),.ref nl])):=λH2 s2 root e1 e2 e3 nl ac bg ae=>by
    have ah:=tp.length;have S2:=s1.trans s2;have s3:Same H2 (upd H2 nl (.lst [])):=Same.new ac;have b4:nl≠bg:=Gf Gb ae;refine q bg nl root [] [] _ ((S2.trans s3).put (S2.free (s3.free ae))) (S2.free (s3.free ae)) (S2.free ac) ⟨?_,Gj Gb b4,.nil⟩ ShOk.nil (YB e2) e2 (by decide) λs=>(e3 s).trans (aM s);rw [Gb,Yab,<-ah,e1]
   refine ⟨_,rfl,rw,_,_,_,rfl,rfl,SqL.of er,Gq (j:=0) rfl,Yan _,λe he=>?_⟩;have s2:Same H1 (upd H1 e (.lst [])):=Same.new he;refine ⟨.list (F0.map J9),.list (([]:Fml).map J9),.lst (SqL.of (s2 _ _ eD)) (TpsAt.dats (tp.keep λp ys e=>s2 _ _ e)),.lst (SqL.of Gb) .nil,G3 _,G3 _,_,rfl,?_⟩;rw [O0];generalize upd H1 e (.lst [])=H2 at s2 ⊢;refine Ug (λc1=>Ox ?_) (λc1=>?_)
   ·have hF:F0=[]:=by
     by_cases hF:F0=[]
     ·exact hF
     ·simp [hF] at c1
    refine ⟨_,rfl,rw,_,_,_,rfl,rfl,r0 s2,Gq (j:=0) rfl,D,_,rfl,.inl (SqL.of (s2 _ _ eD)),Yan _,λnl ac=>⟨JS,λtp ae=>?_⟩⟩;exact done H2 s2 0 (by rw [hF];rfl) (.inl rfl) (λs=>by rw [hF];exact ⟨λz=>absurd z Has.zero,λz=>by cases z⟩) nl ac tp ae
   ·have hF:F0≠[]:=λhF=>c1 (by simp [hF]);refine ⟨_,rfl,rw,_,_,_,rfl,rfl,r0 s2,Gq (j:=0) rfl,Yan _,λe2 a3=>⟨(by show 1<=sizeLine;decide),λe3 a4=>?_⟩⟩;have s3:Same H2 (upd (upd H2 e2 (.tup [])) e3 (.lst [.ref e2])):=(Same.new a3).put ((Same.new a3).free a4);have aT:e2≠e3:=Gf Gb a4;have s4:=s2.trans s3;refine ⟨.list (F0.map J9),.list (([[]]:Fml).map J9),.lst (SqL.of (s4 _ _ eD)) (TpsAt.dats (tp.keep λp ys e=>s4 _ _ e)),.lst (SqL.of Gb) (.cons (.tup (SqT.of (Gj Gb aT)) .nil) .nil),G3 _,G3 _,_,rfl,?_⟩;rw [O0];generalize upd (upd H2 e2 (.tup [])) e3 (.lst [.ref e2])=H3 at s4 ⊢;refine Ug (λc2=>?_) (λc2=>?_)
    ·have bh:F0=[[]]:=by
      by_cases hF:F0=[[]]
      ·exact hF
      ·simp [hF] at c2
     refine ⟨_,rfl,rw,_,_,_,rfl,rfl,r0 s4,Gq (j:=0) rfl,D,_,rfl,.inl (SqL.of (s4 _ _ eD)),Yan _,λnl ac=>⟨JS,λtp ae=>?_⟩⟩;exact done H3 s4 1 (by rw [bh];rfl) (.inr (.inl rfl)) (λs=>by rw [bh,Has.at1];simp) nl ac tp ae
    ·exact hk _ _ ⟨rfl,s4,hF,λhF=>c2 (by simp [hF])⟩
  rintro O H2 ⟨rfl,s2,bi⟩;have S2:=s1.trans s2;have aA:=s2 _ _ er;have aB:=s2 _ _ eD;have aU:TpsAt H2 F0 cs:=tp.keep λp ys e=>s2 _ _ e;clear s2 er eD tp r0;refine GD (λO H'=>∃(fd:Addr)(kvs:TTs),O=[some (.ref l),some (.ref rw),some (.ref fd),none,none,none,none,none,none,none]/\Same H2 H'/\H2 fd=none/\H' fd=some (dtt P w fd kvs)/\KeysTT H' kvs/\KvR kvs [F0]) ?s2 ?f2
  case f2=>
   intro hk fd ay;have s3:Same H2 (upd H2 fd (.dK [])):=Same.new ay;refine ⟨_,rfl,rw,_,_,_,rfl,rfl,SqL.of (s3 _ _ aA),Gq (j:=0) rfl,D,_,rfl,.inl ⟨SqL.of (s3 _ _ aB),λt ht=>?_⟩⟩;have s4:Same (upd H2 fd (.dK [])) (upd (upd H2 fd (.dK [])) t (.tup (cs.map V.ref))):=Same.new ht;have bj:fd≠t:=Gf Gb ht;have kt:KeyTT (upd (upd H2 fd (.dK [])) t (.tup (cs.map V.ref))) t F0:=⟨cs,Gb,Paired.mapP aU λ_ _ e=>s4 _ _ (s3 _ _ e)⟩;refine ⟨Gj Gb bj,t,F0,rfl,kt,?_⟩;have t1:∀p ys,upd (upd H2 fd (.dK [])) t (.tup (cs.map V.ref)) p=some (.tup ys)->upd (upd (upd H2 fd (.dK [])) t (.tup (cs.map V.ref))) fd (dtt P w fd [(F0,t,.int 2)]) p=some (.tup ys):=λp ys e=>Gj e (λz=>by rw [z,Gj Gb bj] at e;cases e);refine hk _ _ ⟨fd,[(F0,t,.int 2)],rfl,(s3.trans s4).put ay,ay,Gb,λp hp=>?_,rfl,λi p e=>?_⟩
   ·rw [Yai.mp hp];exact kt.keep t1
   ·cases i with
    | zero=>simp at e;subst e;exact ⟨rfl,rfl⟩
    | succ i=>simp at e
  rintro O H3 ⟨fd,kvs,rfl,s3,ay,ed,ks,kr⟩;refine GD (λO H'=>∃(nl:Addr),O=[some (.ref l),some (.ref rw),some (.ref fd),some (.ref nl),none,none,none,none,none,none]/\Li P w H H' rw fd nl [F0] [D] kvs [] []) ?s3 ?f3
  case f3=>
   intro hk;refine ⟨Yan _,λnl ac=>?_⟩;have s4:Same H3 (upd H3 nl (.lst [])):=Same.new ac;refine hk _ _ ⟨nl,rfl,(S2.trans s3).trans s4,s4 _ _ (s3 _ _ aA),.cons ⟨cs,s4 _ _ (s3 _ _ aB),aU.keep λp ys e=>s4 _ _ (s3 _ _ e)⟩ .nil,λa ha=>?_,s4 _ _ ed,ks.keep λp ys e=>s4 _ _ e,kr,Gb,.nil,a1,S2.free ay,(S2.trans s3).free ac,Gf (s3 _ _ aA) ac⟩;rw [Yai.mp ha];exact ⟨b2,Gf (s3 _ _ aB) ac⟩
  clear s3 ay ed ks kr aA aB aU H3;rintro O H3 ⟨nl,rfl,L0⟩;refine GD (λO H'=>O=[some (.ref l),some (.ref rw),some (.ref fd),some (.ref nl),some (.int 0),none,none,none,none,none]/\H'=H3) ?s4 ?f4
  case f4=>exact λhk=>hk _ _ ⟨rfl,rfl⟩
  rintro O bU ⟨rfl,rfl⟩;refine GD (λO H'=>∃(R:List Fml)(al:List Addr)(kvs:TTs)(xs:List V)(ts:List Tri)(v5 v6 v7 v8 v9:Option V),O=[some (.ref l),some (.ref rw),some (.ref fd),some (.ref nl),some (.int (ts.length:Int)),v5,v6,v7,v8,v9]/\Li P w H H' rw fd nl R al kvs xs ts/\Rw F0 R ts 540/\ts.length=R.length/\BFS R ts) ?s5 ?f5
  case s5=>
   rintro O H4 ⟨R,al,kvs,xs,ts,v5,v6,v7,v8,v9,rfl,L,W,aV,B⟩;obtain ⟨T,a2,hh⟩:=W.fin aV;have hl:=W.len;refine ⟨_,rfl,JS,λtp ae=>?_⟩;have s5:Same H4 (upd H4 tp (.tup [.int 2,.ref nl])):=Same.new ae;exact q tp nl 2 xs ts _ (L.s.trans s5) (L.s.free ae) L.f3 ⟨Gb,s5 _ _ L.en,L.tr.same s5⟩ (Zd2 W B aV) (Zd3 B aV T a2) a2 (by lia) λs=>(hh s).trans (aM s)
  case f5=>
   intro hk;refine ⟨λm O H'=>∃(R:List Fml)(al:List Addr)(kvs:TTs)(xs:List V)(ts:List Tri)(v5 v6 v7 v8 v9:Option V),O=[some (.ref l),some (.ref rw),some (.ref fd),some (.ref nl),some (.int (ts.length:Int)),v5,v6,v7,v8,v9]/\Li P w H H' rw fd nl R al kvs xs ts/\Rw F0 R ts 540/\m=((R.drop ts.length).map wt).sum/\BFS R ts,
    ⟨_,[F0],[D],kvs,[],[],none,none,none,none,none,rfl,L0,{ Rw.start bf bi with we:=by have:=(Rw.start bf bi).we;lia },rfl,BFS.start b3⟩,?_⟩
   clear L0 kvs;rintro m O H4 ⟨R,al,kvs,xs,ts,v5,v6,v7,v8,v9,rfl,L,W,rfl,B⟩;have bV:=W.len;have az:=L.len;refine ⟨_,rfl,_,rfl,rw,_,rfl,.inl (SqL.of L.er),_,_,rfl,rfl,_,rfl,Ug (λc1=>?_) (λc1=>?_)⟩
   ·have aW:=Ych c1;rw [Yab,az] at aW;have hn:ts.length<R.length:=by lia
    obtain ⟨F,hF⟩:∃F,R[ts.length]?=some F:=⟨_,Yap hn⟩;obtain ⟨a,ha,cs,ea,tp⟩:=Paired.get L.fr hF;obtain ⟨aC,b5⟩:=W.ok F (Yau hF);have bl:=B.lx F (Yau hF);have a5:atI (al.map V.ref) (ts.length:Int)=some (.ref a):=Gq (by rw [Yba,ha];rfl);have ah:=tp.length;have bM:F.length<=541:=by
     have h1:=Zf6 aC.nd;have h2:=W.we;rw [Yde hn,(Yaj.mp hF).2,Yaq,List.sum_cons] at h2
     lia
    refine ⟨_,λ_ _ h=>h,?_⟩;refine GD (λO H'=>∃r:Int,O=[some (.ref l),some (.ref rw),some (.ref fd),some (.ref nl),some (.int (ts.length:Int)),some (.int r),v6,v7,v8,v9]/\Same H4 H'/\Zcl r F) ?s6 ?f6
    case f6=>
     intro ad;refine ⟨_,rfl,_,rfl,rw,_,_,_,rfl,rfl,SqL.of L.er,a5,a,rfl,⟨_,SqL.of ea⟩,λD hD=>?_⟩;refine GE (K:=K) (a:=a) (xs:=cs.map V.ref) (λj ys H'=>Same H4 H'/\H' D=some (.lst ys)/\ys=(XR (F.take j)).map V.int) ⟨Same.new hD,Gb,rfl⟩ (by rintro j ys H' _ ⟨s,_⟩;exact SqL.of (s _ _ ea)) ?_ ?_
     ·rintro j y ys H5 ab ⟨s5,eD,rfl⟩;rw [Yba] at ab;obtain ⟨c,hc,rfl⟩:=Ybn.mp ab;obtain ⟨u,hu,ec⟩:=Paired.get' tp hc;have tk:F.take (j+1)=F.take j++[u]:=by rw [Ybs,hu];rfl
      have b6:=Za3 (F.take j);rw [Ybj] at b6;refine ⟨trivial,?_⟩;refine ⟨_,rfl,Yan _,λe he=>?_⟩;have s6:Same H5 (upd H5 e (.tup [])):=Same.new he;have bW:D≠e:=Gf eD he;refine ⟨J9 u,J9 [],.tup (SqT.of (s6 _ _ (s5 _ _ ec))) (GV _),.tup (SqT.of Gb) .nil,Jr _,Jr _,_,rfl,?_⟩;rw [Uv,tk,Zh];cases u with
      | nil=>exact J7 ⟨s5.trans s6,s6 _ _ eD,by rw [Ybt]⟩
      | cons x u=>
       refine Ox ?_;refine ⟨_,rfl,c,_,_,_,rfl,rfl,SqT.of (s6 _ _ (s5 _ _ ec)),Gq (j:=0) rfl,s6 _ _ eD,(by rw [Yab];lia),(s5.trans s6).put hD,Gb,by rw [Yak];rfl⟩
     ·rintro ys H5 ⟨s5,eD,rfl⟩;rw [Yab,<-ah,Ybk] at eD;refine ⟨D,_,rfl,SqL.of eD,λz=>?_,λm hm b7=>?_⟩
      ·obtain ⟨x,u,hx⟩:=b5.ex aC.nd;have:=mem_heads.mpr ⟨u,hx⟩;rw [z] at this;cases this
      ·exact ad _ _ ⟨m,rfl,s5,mem_heads.mp hm,λx u hx=>b7 x (mem_heads.mpr ⟨u,hx⟩)⟩
    rintro O H5 ⟨r,rfl,s5,aN⟩;have L5:=L.grow s5;have aD:=s5 _ _ ea;have aX:TpsAt H5 F cs:=tp.keep λp ys e=>s5 _ _ e;refine GD (λO H'=>∃lo:Addr,O=[some (.ref l),some (.ref rw),some (.ref fd),some (.ref nl),some (.int (ts.length:Int)),some (.int r),some (.ref lo),v7,v8,v9]/\Same H5 H'/\H5 lo=none/\FamAt H' lo (JU r F)) ?s7 ?f7
    case f7=>
     intro ad;refine ⟨_,rfl,_,rfl,rw,_,_,_,rfl,rfl,SqL.of L5.er,a5,a,rfl,⟨_,SqL.of aD⟩,λD hD=>?_⟩;refine GE (K:=K) (a:=a) (xs:=cs.map V.ref) (λj ys H'=>∃ds:List Addr,ys=ds.map V.ref/\Same H5 H'/\H' D=some (.lst ys)/\TpsAt H' (JU r (F.take j)) ds) ⟨[],rfl,Same.new hD,Gb,.nil⟩ (by rintro j ys H' _ ⟨_,_,s,_⟩;exact SqL.of (s _ _ aD)) ?_ ?_
     ·rintro j y ys H6 ab ⟨ds,rfl,s6,eD,tl⟩;rw [Yba] at ab;obtain ⟨c,hc,rfl⟩:=Ybn.mp ab;obtain ⟨u,hu,ec⟩:=Paired.get' aX hc;have tk:F.take (j+1)=F.take j++[u]:=by rw [Ybs,hu];rfl
      have aY:=tl.length;have aZ:(JU r (F.take j)).length<=(F.take j).length:=Ycr _ _;rw [Ybj] at aZ;have bm:∀{H7:Hp},Same H6 H7->u.head?≠some r->H7 D=some (.lst (ds.map V.ref))/\(ds.map V.ref).length<sizeLine/\∃a6:List Addr,ds.map V.ref++[.ref c]=a6.map V.ref/\Same H5 (upd H7 D (.lst (ds.map V.ref++[.ref c])))/\upd H7 D (.lst (ds.map V.ref++[.ref c])) D=some (.lst (ds.map V.ref++[.ref c]))/\TpsAt (upd H7 D (.lst (ds.map V.ref++[.ref c]))) (JU r (F.take (j+1))) a6:=λ{H7} s7 hh=>by
       have t1:=Jx (o:=.lst (ds.map V.ref++[.ref c])) (s7 _ _ eD);refine ⟨s7 _ _ eD,(by rw [Yab];lia),ds++[c],by rw [Yak];rfl,(s6.trans s7).put hD,Gb,?_⟩;rw [tk,YC,if_neg hh];exact Paired.snoc ((tl.keep λp ys e=>s7 _ _ e).keep t1) (t1 _ _ (s7 _ _ (s6 _ _ ec)))
      refine ⟨⟨rfl,trivial⟩,?_⟩;refine ⟨_,rfl,Yan _,λe he=>?_⟩;have s7:Same H6 (upd H6 e (.tup [])):=Same.new he;refine ⟨J9 u,J9 [],.tup (SqT.of (s7 _ _ (s6 _ _ ec))) (GV _),.tup (SqT.of Gb) .nil,Jr _,Jr _,_,rfl,?_⟩;rw [Uv];cases u with
      | nil=>
       refine Ox (Ox ?_);exact ⟨_,rfl,bm s7 (by simp)⟩
      | cons x u=>
       refine J7 ?_;refine ⟨_,rfl,c,_,_,_,rfl,rfl,SqT.of (s7 _ _ (s6 _ _ ec)),Gq (j:=0) rfl,_,rfl,rfl,_,rfl,Ug (λc2=>?_) (λc2=>?_)⟩
       ·have:x≠r:=λz=>by rw [z] at c2;simp at c2
        exact ⟨_,rfl,bm s7 (by simp [this])⟩
       ·have:x=r:=Decidable.byContradiction λz=>c2 (by simp [z]);refine ⟨ds,rfl,s6.trans s7,s7 _ _ eD,?_⟩;rw [tk,YC,if_pos (by rw [this];rfl),Ybt];exact tl.keep λp ys e=>s7 _ _ e
     ·rintro ys H6 ⟨ds,rfl,s6,eD,tl⟩;rw [Yab,<-ah,Ybk] at tl;exact ad _ _ ⟨D,rfl,s6,hD,ds,eD,tl⟩
    rintro O H6 ⟨lo,rfl,s6,aE,bn⟩;have L6:=L5.grow s6;have ba:=s6 _ _ aD;have bo:TpsAt H6 F cs:=aX.keep λp ys e=>s6 _ _ e;refine GD (λO H'=>∃hi:Addr,O=[some (.ref l),some (.ref rw),some (.ref fd),some (.ref nl),some (.int (ts.length:Int)),some (.int r),some (.ref lo),some (.ref hi),v8,v9]/\Same H6 H'/\H6 hi=none/\FamAt H' hi (GJ r F)) ?s8 ?f8
    case f8=>
     intro ad;refine ⟨_,rfl,_,rfl,rw,_,_,_,rfl,rfl,SqL.of L6.er,a5,a,rfl,⟨_,SqL.of ba⟩,λD hD=>?_⟩;refine GE (K:=K) (a:=a) (xs:=cs.map V.ref) (λj ys H'=>∃ds:List Addr,ys=ds.map V.ref/\Same H6 H'/\H' D=some (.lst ys)/\TpsAt H' (GJ r (F.take j)) ds) ⟨[],rfl,Same.new hD,Gb,.nil⟩ (by rintro j ys H' _ ⟨_,_,s,_⟩;exact SqL.of (s _ _ ba)) ?_ ?_
     ·rintro j y ys H7 ab ⟨ds,rfl,s7,eD,tl⟩;rw [Yba] at ab;obtain ⟨c,hc,rfl⟩:=Ybn.mp ab;obtain ⟨u,hu,ec⟩:=Paired.get' bo hc;have tk:F.take (j+1)=F.take j++[u]:=by rw [Ybs,hu];rfl
      have aY:=tl.length;have aZ:(GJ r (F.take j)).length<=(F.take j).length:=by unfold GJ;rw [Yab];exact Ycr _ _
      rw [Ybj] at aZ;have no:∀{H8:Hp},Same H7 H8->u.head?≠some r->∃a6:List Addr,ds.map V.ref=a6.map V.ref/\Same H6 H8/\H8 D=some (.lst (ds.map V.ref))/\TpsAt H8 (GJ r (F.take (j+1))) a6:=λ{H8} s8 hh=>by
       refine ⟨ds,rfl,s7.trans s8,s8 _ _ eD,?_⟩;rw [tk,Xj,if_neg hh,Ybt];exact tl.keep λp ys e=>s8 _ _ e
      refine ⟨⟨rfl,trivial⟩,?_⟩;refine ⟨_,rfl,Yan _,λe he=>?_⟩;have s8:Same H7 (upd H7 e (.tup [])):=Same.new he;refine ⟨J9 u,J9 [],.tup (SqT.of (s8 _ _ (s7 _ _ ec))) (GV _),.tup (SqT.of Gb) .nil,Jr _,Jr _,_,rfl,?_⟩;rw [Uv];cases u with
      | nil=>
       refine J7 (J7 ?_);exact no s8 (by simp)
      | cons x u=>
       refine Ox ?_;refine ⟨_,rfl,c,_,_,_,rfl,rfl,SqT.of (s8 _ _ (s7 _ _ ec)),Gq (j:=0) rfl,_,rfl,rfl,_,rfl,Ug (λc2=>?_) (λc2=>?_)⟩
       ·have hx:x=r:=V.int.inj (Ych c2);refine ⟨_,rfl,_,rfl,c,_,rfl,SqT.of (s8 _ _ (s7 _ _ ec)),?_,λt ht=>?_⟩
        ·rintro ⟨z,_⟩;rw [show (some (1:Int))=some ((1:Nat):Int) from rfl,HT.sIx_nat] at z;simp at z
        ·rw [Zcw];have s9:=s8.put (o:=.tup (((x::u).drop 1).map V.int)) (s8.free ht);have et:upd (upd H7 e (.tup [])) t (.tup (((x::u).drop 1).map V.int)) t=some (.tup (u.map V.int)):=Gb;generalize upd (upd H7 e (.tup [])) t (.tup (((x::u).drop 1).map V.int))=H9 at s9 et ⊢;have t1:=Jx (o:=.lst (ds.map V.ref++[.ref t])) (s9 _ _ eD);refine ⟨s9 _ _ eD,(by rw [Yab];lia),ds++[t],by rw [Yak];rfl,(s7.trans s9).put hD,Gb,?_⟩;rw [tk,Xj,if_pos (by rw [hx];rfl)];exact Paired.snoc ((tl.keep λp ys e=>s9 _ _ e).keep t1) (t1 _ _ et)
       ·have hx:x≠r:=λz=>c2 (by rw [z];exact Ybh rfl);exact no s8 (by simp [hx])
     ·rintro ys H7 ⟨ds,rfl,s7,eD,tl⟩;rw [Yab,<-ah,Ybk] at tl;exact ad _ _ ⟨D,rfl,s7,hD,ds,eD,tl⟩
    rintro O H7 ⟨hi,rfl,s7,aF,aG⟩;have L7:=L6.grow s7;have av:=bn.same s7;have bp:lo≠rw:=λz=>by rw [z,L5.er] at aE;cases aE
    have b8:lo≠nl:=λz=>by rw [z,L5.en] at aE;cases aE
    have bq:hi≠rw:=λz=>by rw [z,L6.er] at aF;cases aF
    have b9:hi≠nl:=λz=>by rw [z,L6.en] at aF;cases aF
    have bA:=aC.low r;have bB:=aC.high r;have wl:=J3 r F;have wF:wt F<=540:=by
     have h2:=W.we;rw [Yde hn,(Yaj.mp hF).2,Yaq,List.sum_cons] at h2
     lia
    clear s5 s6 s7 L5 L6 bn tp aX bo ea aD ba;refine GD (λO H'=>∃nb:Addr,O=[some (.ref l),some (.ref rw),some (.ref fd),some (.ref nl),some (.int (ts.length:Int)),some (.int r),some (.ref lo),some (.ref hi),some (.ref nb),v9]/\Same H7 H'/\H7 nb=none/\H' nb=some (.lst [])) ?s9 ?f9
    case f9=>exact λad=>⟨Yan _,λnb aa=>ad _ _ ⟨nb,rfl,Same.new aa,aa,Gb⟩⟩
    rintro O H8 ⟨nb,rfl,s8,aa,aH⟩;have L8:=L7.grow s8;have aw:=av.same s8;have ax:=aG.same s8;have Z:∀{p q:Addr}{G:Fml}{H':Hp},FamAt H' p G->H' q=none->p≠q:=λ⟨_,e,_⟩ h=>Gf e h;have m1:nb≠rw:=λz=>by rw [z,L7.er] at aa;cases aa
    have m2:nb≠nl:=λz=>by rw [z,L7.en] at aa;cases aa
    have m4:nb≠lo:=Ne.symm (Z av aa);have m5:nb≠hi:=Ne.symm (Z aG aa);have f0:H nb=none:=L7.s.free aa;have bb:∀x∈al,x≠nb:=λx hx=>by
     obtain ⟨k,hk⟩:=Ydt.mp hx;obtain ⟨G,_,hG⟩:=Paired.get' L7.fr hk;exact Z hG aa
    refine GD (λO H'=>∃(S:List Fml)(al:List Addr)(kvs:TTs)(c1 c2:Int)(v9:Option V),O=[some (.ref l),some (.ref rw),some (.ref fd),some (.ref nl),some (.int (ts.length:Int)),some (.int r),some (.ref lo),some (.ref hi),some (.ref nb),v9]/\Li P w H H' rw fd nl (R++S) al kvs xs ts/\(∀G∈S,FamOk G/\Inner G)/\(S.map wt).sum<=wt (JU r F)+wt (GJ r F)/\H' nb=some (.lst [.int c1,.int c2])/\Num (R++S) (JU r F) c1/\Num (R++S) (GJ r F) c2/\NxC R.length [c1,c2] (R++S).length/\BfS R S) ?s10 ?f10
    case f10=>
     intro ad;refine ⟨_,rfl,_,rfl,JS,λpl ap=>⟨pl,rfl,⟨_,SqL.of Gb⟩,?_⟩⟩;have s9:Same H8 (upd H8 pl (.lst [.ref lo,.ref hi])):=Same.new ap;have m3:nb≠pl:=Gf aH ap;have p1:pl≠rw:=λz=>by rw [z,L8.er] at ap;cases ap
     have bC:lo≠pl:=Z aw ap;have bD:hi≠pl:=Z ax ap;have T9:Tn P w H (upd H8 pl (.lst [.ref lo,.ref hi])) rw fd nl nb pl lo hi R (JU r F) (GJ r F) xs ts 0 [] [] al kvs []:=by
      refine ⟨by rw [Ybt];exact L8.grow s9,s9 _ _ aH,Gb,aw.same s9,ax.same s9,λG hG=>(by cases hG),Yad _,λj G hj=>(by simp at hj),rfl,λx hx=>⟨bb x hx,?_⟩⟩;obtain ⟨k,hk⟩:=Ydt.mp hx;obtain ⟨G,_,hG⟩:=Paired.get' L8.fr hk;exact Z hG ap
     refine JW (K:=K) (a:=pl) (xs:=[.ref lo,.ref hi]) (λi σ H'=>∃(S:List Fml)(al:List Addr)(kvs:TTs)(cs:List Int)(v9:Option V),σ=[some (.ref l),some (.ref rw),some (.ref fd),some (.ref nl),some (.int (ts.length:Int)),some (.int r),some (.ref lo),some (.ref hi),some (.ref nb),v9]/\Tn P w H H' rw fd nl nb pl lo hi R (JU r F) (GJ r F) xs ts ((([JU r F,GJ r F].take i).map wt).sum) ([JU r F,GJ r F].take i) S al kvs cs/\NxC R.length cs (R++S).length/\BfS R S)
      ⟨[],al,kvs,[],v9,rfl,T9,.inl ⟨rfl,by rw [Ybt]⟩,BfS.nil B⟩ (by rintro i σ H' _ ⟨_,_,_,_,_,_,T,_⟩;exact SqL.of T.ep) ?_ ?_
     ·clear T9 L8 L7 L aw ax av aG aH bb az a5;rintro i x σ H9 ai ⟨S,al,kvs,ds,v9,rfl,T,U,Y⟩;obtain ⟨pa,G,rfl,an,a7,bE,q1,q2,q3,q4⟩:∃(pa:Addr)(G:Fml),x=.ref pa/\[JU r F,GJ r F][i]?=some G/\(∀{H':Hp}{wb:Nat}{Gd S:List Fml}{al:List Addr}{kvs:TTs}{ds:List Int},Tn P w H H' rw fd nl nb pl lo hi R (JU r F) (GJ r F) xs ts wb Gd S al kvs ds->FamAt H' pa G)/\FamOk G/\pa≠rw/\pa≠nl/\pa≠nb/\pa≠pl:=by
       match i,ai with
       | 0,ai=>simp at ai;subst ai;exact ⟨lo,_,rfl,rfl,λT=>T.fl,bA,bp,b8,Ne.symm m4,bC⟩
       | 1,ai=>simp at ai;subst ai;exact ⟨hi,_,rfl,rfl,λT=>T.fh,bB,bq,b9,Ne.symm m5,bD⟩
       | i+2,ai=>simp at ai
      have tk:[JU r F,GJ r F].take (i+1)=[JU r F,GJ r F].take i++[G]:=by rw [Ybs,an];rfl
      have br:∀{S:List Fml},(∀G∈S,FamOk G/\Inner G)->∀G∈R++S,Inner G:=λhS G hG=>by
       rcases Yah.mp hG with h | h
       ·exact (W.ok G h).2
       ·exact (hS G h).2
      have bF:i<2:=(Yaj.mp an).1;have bG:LxF G:=by
       rcases (by lia:i=0\/i=1) with z | z
       ·rw [z] at an;simp at an;rw [<-an];exact bl.low r
       ·rw [z] at an;simp at an;rw [<-an];exact bl.high r
      have aI:ds.length<2:=by have:=T.cl;rw [Ybj] at this;lia
      dsimp only [GY];refine GD (λO H'=>∃(S:List Fml)(al:List Addr)(kvs:TTs)(c:Int),O=[some (.ref l),some (.ref rw),some (.ref fd),some (.ref nl),some (.int (ts.length:Int)),some (.int r),some (.ref lo),some (.ref hi),some (.ref nb),some (.ref pa)]/\Tn P w H H' rw fd nl nb pl lo hi R (JU r F) (GJ r F) xs ts ((([JU r F,GJ r F].take (i+1)).map wt).sum) ([JU r F,GJ r F].take i) S al kvs ds/\(U0 kvs G).getD (.int (G.length:Int))=.int c/\Num (R++S) G c/\NxC R.length (ds++[c]) (R++S).length/\BfS R S) ?s11 ?f11
      case f11=>
       intro aJ;have T':Tn P w H H9 rw fd nl nb pl lo hi R (JU r F) (GJ r F) xs ts ((([JU r F,GJ r F].take (i+1)).map wt).sum) ([JU r F,GJ r F].take i) S al kvs ds:={ T with wS:=by have:=T.wS;rw [tk,Yak,List.sum_append];lia };obtain ⟨cs,ea,tp⟩:=a7 T;refine ⟨_,rfl,Yan _,λe1 bH=>?_⟩;have z1:Same H9 (upd H9 e1 (.lst [])):=Same.new bH;refine ⟨.list (G.map J9),.list (([]:Fml).map J9),.lst (SqL.of (z1 _ _ ea)) (TpsAt.dats (tp.keep λp ys e=>z1 _ _ e)),.lst (SqL.of Gb) .nil,G3 _,G3 _,_,rfl,?_⟩;rw [O0];generalize upd H9 e1 (.lst [])=aj at z1 ⊢;refine Ug (λc2=>?_) (λc2=>?_)
       ·have a8:G≠[]:=λz=>by rw [z] at c2;simp at c2
        refine ⟨_,rfl,Yan _,λe2 a3=>⟨(by show 1<=sizeLine;decide),λe3 a4=>?_⟩⟩;have z2:Same aj (upd (upd aj e2 (.tup [])) e3 (.lst [.ref e2])):=(Same.new a3).put ((Same.new a3).free a4);have aT:e2≠e3:=Gf Gb a4;have z3:=z1.trans z2;refine ⟨.list (G.map J9),.list (([[]]:Fml).map J9),.lst (SqL.of (z3 _ _ ea)) (TpsAt.dats (tp.keep λp ys e=>z3 _ _ e)),.lst (SqL.of Gb) (.cons (.tup (SqT.of (Gj Gb aT)) .nil) .nil),G3 _,G3 _,_,rfl,?_⟩;rw [O0];generalize upd (upd aj e2 (.tup [])) e3 (.lst [.ref e2])=aq at z3 ⊢;refine Ug (λc3=>?_) (λc3=>?_)
        ·have a9:G≠[[]]:=λz=>by rw [z] at c3;simp at c3
         have ao:=T.grow z3;have aO:TpsAt aq G cs:=tp.keep λp ys e=>z3 _ _ e;refine ⟨_,rfl,pa,_,rfl,.inl ⟨SqL.of (z3 _ _ ea),λt ht=>?_⟩⟩;have z4:Same aq (upd aq t (.tup (cs.map V.ref))):=Same.new ht;have kt:KeyTT (upd aq t (.tup (cs.map V.ref))) t G:=⟨cs,Gb,Paired.mapP aO λ_ _ e=>z4 _ _ e⟩;have ag:=ao.grow z4;refine ⟨_,rfl,fd,U0 kvs G,rfl,⟨kvs,G,t,ag.L.ed,ag.L.ks,rfl,kt,rfl⟩,_,rfl,?_⟩;have z5:=z3.trans z4;have aP:TpsAt (upd aq t (.tup (cs.map V.ref))) G cs:=aO.keep λp ys e=>z4 _ _ e;generalize upd aq t (.tup (cs.map V.ref))=aK at ag z5 aP ⊢;cases hv:U0 kvs G with
         | some v=>
          refine J7 ?_;obtain ⟨k,hk,rfl⟩:=T.L.kr.some hv;exact aJ _ _ ⟨S,al,kvs,_,rfl,T'.grow z5,by rw [hv];rfl,.inr (.inr ⟨k,hk,rfl⟩),U.step aI (Zf5 hk),Y⟩
         | none=>
          refine Ox ?_;have az:=ag.L.len;have bX:=ag.L.kr.1;have bY:(R++S).length<=3000:=by
           have h1:=ZcR T.ok;have h2:=T.wS;have h3:((([JU r F,GJ r F].take i).map wt).sum)<=wt (JU r F)+wt (GJ r F):=by
            match i,bF with
            | 0,_=>simp
            | 1,_=>simp
           rw [Yag]
           lia
          refine ⟨_,rfl,rw,_,rfl,.inl (SqL.of ag.L.er),_,_,rfl,rfl,_,rfl,_,rfl,pa,_,rfl,.inl ⟨SqL.of (z5 _ _ ea),λt2 bJ=>?_⟩⟩;have z6:Same aK (upd aK t2 (.tup (cs.map V.ref))):=Same.new bJ;have bc:KeyTT (upd aK t2 (.tup (cs.map V.ref))) t2 G:=⟨cs,Gb,Paired.mapP aP λ_ _ e=>z6 _ _ e⟩;have ak:=ag.grow z6;generalize upd aK t2 (.tup (cs.map V.ref))=bZ at ak bc z6 ⊢;refine ⟨fd,t2,kvs,G,rfl,rfl,ak.L.ed,ak.L.ks,bc,hv,by lia,?_⟩;have bt:rw≠fd:=GZ ak.L.er ak.L.ed (λz=>by cases z);refine ⟨_,rfl,.inl ⟨rfl,_,SqL.of (Gj ak.L.er bt)⟩,_,rfl,rw,_,_,rfl,rfl,Gj ak.L.er bt,(by rw [Yab];lia),?_⟩;rw [Yab,az];have bu:=ak.row bc (a7 ak) q1 q2 q3 q4 m1 p1 bp bq ⟨bE,a8,a9⟩;refine aJ _ _ ⟨S++[G],al++[pa],_,_,rfl,{ bu with wS:=by have:=bu.wS;rw [tk,Yak,List.sum_append];simpa using this },by rw [Za1 hv];rfl,.inr (.inr ⟨(R++S).length,?_,rfl⟩),U.step aI (.inr ⟨rfl,by rw [<-Ybg,Yag (as:=R++S)];rfl⟩),Y.snoc (Zcv T.L.kr hv) bG⟩;rw [<-Ybg,Ybw (Yad _),Ycg]
          rfl
        ·have a9:G=[[]]:=by
          by_cases z:G=[[]]
          ·exact z
          ·exact absurd (by simp [z]) c3
         refine aJ _ _ ⟨S,al,kvs,1,rfl,T'.grow z3,?_,.inr (.inl ⟨a9,rfl⟩),U.step aI (ZcV (.inr rfl)),Y⟩;rw [KvR.none T.L.kr (br T.ok) (λz=>z.2 a9),a9]
         rfl
       ·have a8:G=[]:=by
         by_cases z:G=[]
         ·exact z
         ·exact absurd (by simp [z]) c2
        refine J7 ?_;refine aJ _ _ ⟨S,al,kvs,0,rfl,T'.grow z1,?_,.inl ⟨a8,rfl⟩,U.step aI (ZcV (.inl rfl)),Y⟩;rw [KvR.none T.L.kr (br T.ok) (λz=>z.1 a8),a8]
        rfl
      clear T U Y;rintro O aj ⟨S,al,kvs,c,rfl,T,bv,bw,U,Y⟩;obtain ⟨cs,ea,tp⟩:=a7 T;have ah:=tp.length;refine ⟨_,rfl,.inl ⟨rfl,_,SqL.of T.eb⟩,_,rfl,fd,kvs,rfl,T.L.ed,_,rfl,pa,_,rfl,.inl ⟨SqL.of ea,λt ht=>?_⟩⟩;have z4:Same aj (upd aj t (.tup (cs.map V.ref))):=Same.new ht;have kt:KeyTT (upd aj t (.tup (cs.map V.ref))) t G:=⟨cs,Gb,Paired.mapP tp λ_ _ e=>z4 _ _ e⟩;have ao:=T.grow z4;have aQ:=z4 _ _ ea;generalize upd aj t (.tup (cs.map V.ref))=aq at ao kt aQ ⊢;have aY:=ao.cl;rw [Ybj] at aY;refine ⟨_,rfl,pa,_,rfl,.inl (SqL.of aQ),U0 kvs G,⟨kvs,G,t,ao.L.ed,ao.L.ks,rfl,kt,rfl⟩,?_⟩;rw [Yab,<-ah,bv];refine ⟨nb,_,_,rfl,rfl,ao.eb,(by rw [Yab];lia),?_⟩;refine ⟨S,al,kvs,ds++[c],_,rfl,?_,U,Y⟩;rw [show ([JU r F,GJ r F].take (i+1))=[JU r F,GJ r F].take i++[G] from tk];have ag:=ao.num bw f0 m1 m2 m3 m4 m5;rw [tk] at ag;exact ag
     ·rintro σ H9 ⟨S,al,kvs,ds,v9,rfl,T,U,Y⟩;obtain ⟨c1,h1,n1⟩:=T.nm 0 (JU r F) rfl;obtain ⟨c2,h2,n2⟩:=T.nm 1 (GJ r F) rfl;have bx:ds=[c1,c2]:=by
       have hl:ds.length=2:=T.cl
       match ds,hl,h1,h2 with
       | [a,b],_,h1,h2=>simp at h1 h2;rw [h1,h2]
      have eb:=T.eb;rw [bx] at eb;exact ad _ _ ⟨S,al,kvs,c1,c2,v9,rfl,T.L,T.ok,by have:=T.wS;simpa using this,eb,n1,n2,by rw [<-bx];exact U,Y⟩
    clear L8 L7 L aw ax av aG aH bb az a5 s8 aa;rintro O H9 ⟨S,al,kvs,c1,c2,v9,rfl,L9,bK,bz,eb,n1,n2,U,Y⟩;have node:Xh (R++S) F (r,c1,c2):=⟨aN,n1,n2⟩;have W9:Rw F0 (R++S) (ts++[(r,c1,c2)]) 540:=W.step hF bK bz node;have bL:=W.meas (S:=S) (r:=(r,c1,c2)) hF bz aN;have cc:=L9.tr.len;refine GD (λO H'=>∃t:Addr,O=[some (.ref l),some (.ref rw),some (.ref fd),some (.ref nl),some (.int (ts.length:Int)),some (.int r),some (.ref lo),some (.ref hi),some (.ref nb),v9]/\Li P w H H' rw fd nl (R++S) al kvs (xs++[.ref t]) (ts++[(r,c1,c2)])) ?s12 ?f12
    case f12=>
     intro ad;refine ⟨_,rfl,.inl ⟨rfl,_,SqL.of L9.en⟩,_,rfl,_,rfl,nb,_,_,_,rfl,rfl,SqL.of eb,Gq (j:=0) rfl,_,rfl,nb,_,_,_,rfl,rfl,SqL.of eb,Gq (j:=1) rfl,(by show 3<=sizeLine;decide),λt ht=>?_⟩;have aL:=L9.grow (Same.new (o:=.tup [.int r,.int c1,.int c2]) ht);refine ⟨nl,_,_,rfl,rfl,aL.en,by lia,?_⟩;exact ad _ _ ⟨t,rfl,aL.node (r:=(r,c1,c2)) Gb⟩
    rintro O aj ⟨t,rfl,aL⟩;refine ⟨_,rfl,_,_,rfl,rfl,?_⟩;exact ⟨_,bL,R++S,al,kvs,_,_,_,_,_,_,_,by rw [Yag,Yat];rfl,aL,W9,rfl,B.step hn U Y⟩
   ·have aW:¬ ((ts.length:Int)<((al.map V.ref).length:Int)):=λz=>c1 (Ybh z);rw [Yab,az] at aW;have:=W.ln;exact hk _ _ ⟨R,al,kvs,xs,ts,v5,v6,v7,v8,v9,rfl,L,W,by lia,B⟩
noncomputable def Zd4:Sp:=λvs H Q _=>∃(tb l:Addr)(a0:Int)(xs:List V)(ks:List Tri),vs=[.ref tb]/\TabAt H tb l a0 xs ks/\∀(p j:Addr)(H':Hp),Same H H'->H p=none->H j=none->TabAt H' p j a0 xs ks->Q (.ref p) H'
theorem ZhA:Gu ["table"] ["table"] (Gg Ze8):=⟨rfl,rfl,rfl,by decide +kernel,rfl,by decide +kernel,by decide +kernel⟩
theorem Zf9 {f:Addr}{fd:FuncData}(F:Fun K "_law_copied" "_law_copied" Ze8 f fd)(B:mg "list" = none):FnOk P w K mg base CX0 1 f fd ["table"] Zd4:=by
 refine F.ok ZhA (λvs H Q E h=>?_) (λZ A outer s H vs Q E hr h=>?_)
 ·obtain ⟨_,_,_,_,_,rfl,_⟩:=h
  rfl
 ·obtain ⟨tb,l,a0,xs,ks,rfl,T,q⟩:=h;refine ⟨_,Gi (Gv (Jf (Ga (GN (Xr K) (pv 0) Gh (λ_ _=>rfl)) (Ga (G0 (O4 K) rfl B JG (Ga (GN (Xr K) (pv 0) Gh (λ_ _=>rfl)) Gc)) Gc)))),?_⟩;refine ⟨_,rfl,tb,_,_,_,rfl,rfl,SqT.of T.w,Gq (j:=0) rfl,_,rfl,tb,_,_,_,rfl,rfl,SqT.of T.w,Gq (j:=1) rfl,l,_,rfl,.inl (SqL.of T.l),λD L=>⟨JS,λp Y=>?_⟩⟩;have O:Same H (upd H D (.lst xs)):=Same.new L;have U:Same (upd H D (.lst xs)) (upd (upd H D (.lst xs)) p (.tup [.int a0,.ref D])):=Same.new Y;exact q p D _ (O.trans U) (O.free Y) L ⟨Gb,U _ _ Gb,T.t.same (O.trans U)⟩
noncomputable def Zd5:Sp:=λvs H Q _=>∃(p l j B:Addr)(a0:Int)(xs xs':List V)(us:List Tri),vs=[.ref p,.ref j]/\TabAt H p l a0 xs us/\TabAt H j B a0 xs' us/\us.length<=900/\∀H':Hp,Same H H'->Q (.bl true) H'
theorem scJus:Gu ["found", "due", "whole", "node"] ["found", "due"] (Gg Ze9):=⟨rfl,rfl,rfl,by decide +kernel,rfl,by decide +kernel,by decide +kernel⟩
theorem Zga {f:Addr}{fd:FuncData}(F:Fun K "_law_just" "_law_just" Ze9 f fd)(ad:W.kitOne K (.type "int") (.type "bool")=some false)(B:mg "isinstance" = none)(O:mg "list" = none)(aa:mg "tuple" = none)(ab:mg "int" = none)(Y:mg "bool" = none):FnOk P w K mg base CX0 1 f fd ["found", "due"] Zd5:=by
 refine F.ok scJus (λvs H Q E h=>?_) (λag A outer s H vs Q E hr h=>?_)
 ·obtain ⟨_,_,_,_,_,_,_,_,rfl,_⟩:=h
  rfl
 ·obtain ⟨p,l,p',l',a0,xs,xs',us,rfl,T,T',hl,q⟩:=h;have hu:=hr.units;have ah:=Ybe.symm;refine ⟨_,Ge (Jl (PW.pt (U1 (Oa (Jh (Gw (Zdf K) rfl B JX (Ga (pv 0) (Ga (UH aa Jg) Gc))))) (U1 (Oa (Jh (Gw (Zdf K) rfl B JX (Ga (GN (Xr K) (pv 0) Gh (λ_ _=>rfl)) (Ga (UH O JG) Gc))))) (OJ (Gs (ZcG K hu) (pv 0) (pv 1) (GH _)))))) (Gi (Gv Ow)) GC)
    (Ge (Gp (i:=2) scJus.nd rfl (Or.inl rfl) (Gr (Ga (GN (Xr K) (pv 0) Gh (λ_ _=>rfl)) Gc)))
    (Ge (JK Yci rfl (Jv K (GN (Xr K) (pv 0) Gh (λ_ _=>rfl))) (Gn (i:=3) scJus.nd rfl (Or.inl rfl))
    (Gi (Gp (i:=2) scJus.nd rfl (Or.inl rfl) (GW U9 (pv 2) (G0 (O4 K) rfl O JG (Ga (pv 3) Gc))))))
    (Gi (Gv (OD (Zbw K hu) (G7 (own:=["one"]) rfl (Ji (by decide +kernel) (by decide +kernel) rfl (by decide +kernel)) (Jv K (pv 2)) (λ_ _ _ _=>Gn (i:=0) (show List.Nodup (["one"]:List Str) by decide +kernel) rfl (Or.inl rfl)) (λ_ _ _ _=>G8 (PW.pt (U1 (Oa (Jh (Gw (Zdf K) rfl B JX (Ga (pv 0) (Ga (UH ab VC) Gc))))) (OJ (Jh (Gw (Zdf K) rfl B JX (Ga (pv 0) (Ga (UH Y ZT) Gc)))))))) (λ_ _ _ _=>pv 0)) (Gr Gc) (GH _)))))),?_⟩
  refine ⟨_,rfl,_,_,true,rfl,⟨_,rfl,J7 ?_⟩,.inl ⟨_,.tup T.w,rfl,Ol⟩⟩;refine ⟨_,rfl,p,_,_,_,rfl,rfl,SqT.of T.w,Gq (j:=1) rfl,_,_,true,rfl,⟨_,rfl,J7 ?_⟩,.inl ⟨_,.lst T.l,rfl,Ol⟩⟩;refine ⟨_,rfl,_,rfl,.tuple [.int a0,.list (us.map trD)],.tuple [.int a0,.list (us.map trD)],.tup (SqT.of T.w) (.cons (.int _) (.cons (.lst (SqL.of T.l) T.t.dats) .nil)),.tup (SqT.of T'.w) (.cons (.int _) (.cons (.lst (SqL.of T'.l) T'.t.dats) .nil)),Vh _ _,Vh _ _,_,rfl,?_⟩;rw [Zag,Ybh rfl,Ybh rfl];refine J7 ?_;dsimp only [JV];refine ⟨_,rfl,p,_,_,_,rfl,rfl,SqT.of T.w,Gq (j:=0) rfl,Ycs (by show 1<sizeLine;lia),λw0 ae=>?_⟩;obtain ⟨H1,q_,s1,e1⟩:=nwU (o:=.lst [.int a0]) ae;have e1:H1 w0=some (.lst ([a0].map V.int)):=e1;rw [q_];dsimp only [GY];have ai:=T.t.len;refine ⟨_,rfl,p,_,_,_,rfl,rfl,SqT.of (s1 _ _ T.w),Gq (j:=1) rfl,l,rfl,⟨_,SqL.of (s1 _ _ T.l)⟩,?_⟩;refine JW (K:=K) (a:=l) (xs:=xs) (λi σ H2=>∃(Z:Addr)(ns:List Int)(v3:Option V),σ=[some (.ref p),some (.ref p'),some (.ref Z),v3]/\Same H H2/\H2 Z=some (.lst (ns.map V.int))/\ns.length=1+3 * i) ⟨w0,[a0],none,rfl,s1,e1,rfl⟩ (by rintro i σ H2 _ ⟨_,_,_,_,s2,_⟩;exact SqL.of (s2 _ _ T.l)) ?_ ?_
  ·rintro i x σ H2 ac ⟨Z,ns,v3,rfl,s2,e2,hn⟩;have hi:i<xs.length:=(Yaj.mp ac).1;obtain ⟨t,r,rfl,et,_⟩:=T.t.get ac;refine ⟨_,rfl,_,rfl,t,_,rfl,.inr (SqT.of (s2 _ _ et)),λc hc=>?_⟩;obtain ⟨L,q_,U,e3⟩:=nwU (o:=.lst [.int r.1,.int r.2.1,.int r.2.2]) hc;rw [q_];refine ⟨Z,c,_,_,rfl,rfl,U _ _ e2,e3,by rw [Yab];show ns.length+3<=_;lia,λd hd=>?_⟩;have s4:Same L (upd L d (.lst (ns.map V.int++[.int r.1,.int r.2.1,.int r.2.2]))):=Same.new hd;exact ⟨d,ns++[r.1,r.2.1,r.2.2],_,rfl,s2.trans (U.trans s4),by rw [Gb,Yak];rfl,by rw [Yag];show ns.length+3=_;lia⟩
  ·rintro σ H2 ⟨Z,ns,v3,rfl,s2,e2,hn⟩;refine ⟨_,rfl,Z,rfl,⟨_,SqL.of e2⟩,λD hD=>?_⟩;refine GE (K:=K) (a:=Z) (xs:=ns.map V.int) (λj ys L=>ys=[]/\Same H2 L/\L D=some (.lst [])) ⟨rfl,Same.new hD,Gb⟩ (by rintro j ys L _ ⟨_,U,_⟩;exact SqL.of (U _ _ e2)) ?_ ?_
   ·rintro j y ys L hy ⟨rfl,U,eD⟩;rw [Yba] at hy;obtain ⟨n,_,rfl⟩:=Ybn.mp hy;refine ⟨trivial,?_⟩;refine ⟨_,rfl,_,_,true,rfl,⟨_,rfl,J7 ?_⟩,.inl ⟨_,.int _,rfl,Ol⟩⟩;refine ⟨_,rfl,_,_,false,rfl,⟨_,rfl,J7 ?_⟩,.inl ⟨_,.int _,rfl,ad⟩⟩;exact ⟨rfl,U,eD⟩
   ·rintro ys L ⟨rfl,U,eD⟩;refine ⟨Yan _,λe he=>?_⟩;have s4:Same L (upd L e (.lst [])):=Same.new he;refine ⟨.list (([]:List Int).map PyData.int),.list (([]:List Int).map PyData.int),.lst (SqL.of (s4 _ _ eD)) .nil,.lst (SqL.of Gb) .nil,Ja _,Ja _,?_⟩;rw [JY,Ybh rfl];exact q _ (s2.trans (U.trans s4))
noncomputable def Zgb:Sp:=λvs H Q _=>∃(d rl:Addr)(c:Nat)(rs:List Int)(mo:Int),vs=[.ref d,.ref rl,.int mo]/\Pool H d c/\c<800000/\rl≠d/\H rl=some (.lst (rs.map V.int))/\rs.length<=12/\0<mo/\mo<=5 /\
 ∀(l:Addr)(ls:List Int)(H':Hp),Pk H H' d (c+6)->H l=none->H' l=some (.lst (ls.map V.int))->ls.length<=5->Q (.ref l) H'
theorem scLis:Gu ["pool", "roads", "most", "some"] ["pool", "roads", "most"] (Gg ZgC):=⟨rfl,rfl,rfl,by decide +kernel,rfl,by decide +kernel,by decide +kernel⟩
theorem Zgc {f fT:Addr}{fd O:FuncData}(F:Fun K "_law_list" "_law_list" ZgC f fd)(FT:Fun K "_law_take" "_law_take" Zb6 fT O)(bT:Binds K O ["pool", "many"] [])(mT:mg "_law_take" = some (.ref fT))(B:mg "range" = none)(aa:mg "len" = none):FnOk P w K mg base CX0 2 f fd ["pool", "roads", "most"] Zgb:=by
 have GT:FnOk P w K mg base CX0 1 fT O ["pool", "many"] XO:=Vp FT;refine F.ok scLis (λvs H Q E h=>?_) (λad A outer s H vs Q E hr h=>?_)
 ·obtain ⟨_,_,_,_,_,rfl,_⟩:=h
  rfl
 ·obtain ⟨d,rl,c,rs,mo,rfl,hP,hc,ae,er,ag,m0,m5,q⟩:=h;have ah:=Ybe.symm;refine ⟨_,(@Ge _ _ _ _ _ (@Gp _ _ 3 _ _ _ _ scLis.nd rfl (Or.inr rfl) (@GW _ _ _ _ _ _ _ _ U9 (pv 1) (@Gr _ _ _ _ (@Ga _ _ _ _ _ Gh (@Ga _ _ _ _ _ Gh (@Ga _ _ _ _ _ Gh (@Ga _ _ _ _ _ Gh Gc rfl) rfl) rfl) rfl))) rfl (by first | exact .inl rfl | exact .inr rfl))
    (@Gi _ _ _ (@Gv _ _ _ _ (G7 (own:=["turn"]) rfl (Gm (fr:=[("pool", 0),("some", 3)]) [(".0", .local),("turn", .local),("_law_take", .globalImplicit),("len", .globalImplicit),("pool", .cell),("some", .cell)] rfl rfl (by decide +kernel) rfl (by decide +kernel) ⟨rfl,rfl,trivial⟩ ⟨λh=>GQ h,λh=>GQ h,λh=>GQ h,λh=>GQ h,λ_=>⟨_,rfl⟩,λ_=>⟨_,rfl⟩,trivial⟩ ⟨⟨rfl,.inl rfl,.inl rfl⟩,⟨rfl,.inl rfl,.inl rfl⟩,trivial⟩) (Jt rfl B (@Ga _ _ _ _ _ (@Gk _ _ _ _ _ _ _ _ _ _ _ _ _ _ _ _ GT (hr.mono (by decide)) rfl mT FT.kp bT .nil Gz (@Ga _ _ _ _ _ (pv 0) (@Ga _ _ _ _ _ (pv 2) Gc rfl) rfl) (by decide) rfl rfl) Gc rfl)) (λ_ _ _ _=>Gn (i:=0) (show List.Nodup (["turn", "pool", "some"]:List Str) by decide +kernel) rfl (Or.inl rfl)) (λ_ _ _ _=>JL) (λ_ _ _ _=>@GN _ _ _ _ _ _ _ (Oz K) (pv 2) (@Gk _ _ _ _ _ _ _ _ _ _ _ _ _ _ _ _ GT (hr.mono (by decide)) rfl mT FT.kp bT .nil Gz (@Ga _ _ _ _ _ (pv 1) (@Ga _ _ _ _ _ (Gw (YU K) rfl aa Yck (@Ga _ _ _ _ _ (pv 2) Gc rfl)) Gc rfl) rfl) (by decide) rfl rfl) (λ_ _=>rfl)))))),?_⟩
  refine ⟨_,rfl,by show 4<=sizeLine;lia,λp hp=>?_⟩;obtain ⟨H1,q_,s1,e1⟩:=nwU (o:=.lst [.int 29,.int 28,.int 30,.int 1000]) hp;rw [q_];refine ⟨rl,p,_,_,rfl,rfl,s1 _ _ er,e1,by rw [Yab];show _+4<=_;lia,λU ab=>?_⟩;have s2:Same H1 (upd H1 U (.lst (rs.map V.int++[.int 29,.int 28,.int 30,.int 1000]))):=Same.new ab;have e2:upd H1 U (.lst (rs.map V.int++[.int 29,.int 28,.int 30,.int 1000])) U=some (.lst ((rs++[29,28,30,1000]).map V.int)):=by rw [Gb,Yak];rfl
  generalize upd H1 U (.lst (rs.map V.int++[.int 29,.int 28,.int 30,.int 1000]))=H2 at s2 e2 ⊢;have L:U≠d:=Ne.symm ((hP.same s1).ne ab);have sl:(rs++[29,28,30,1000]:List Int).length=rs.length+4:=by rw [Yag];rfl
  generalize (rs++[29,28,30,1000]:List Int)=j at e2 sl;have ac:=s1.trans s2;dsimp only [GY];have ml:Lt2 9000 mo:=Lt2.mono (p:=3) (show mo.natAbs<2 ^ 3 by lia) (by decide);refine ⟨_,rfl,_,rfl,d,c,mo,rfl,hP.same ac,by lia,m0,ml,λr H3 a3 b3 k3=>⟨_,rfl,by lia,by lia,λD hD=>?_⟩⟩;have K3:Pk H H3 d (c+1):=((Pk.start hP).grow ac).trans k3;have nD:=K3.at_.ne hD;have e3:=k3.keep _ _ L e2;refine O3 (lo:=0) (n:=r.toNat) (λi ys H4=>∃Y:List Int,ys=Y.map V.int/\Pk H3 H4 d (c+1+i)/\H4 D=some (.lst ys)/\Y.length=i) ⟨[],rfl,(Pk.start K3.at_).new hD,Gb,rfl⟩ ?_ ?_
  ·rintro i ys H4 hi ⟨Y,rfl,Z,e4,hl⟩;refine ⟨⟨rfl,rfl,trivial⟩,?_⟩;unfold Zbr;refine Ox ?_;refine ⟨_,rfl,_,rfl,_,rfl,U,_,rfl,.inl (SqL.of (Z.keep _ _ L e3)),d,c+1+i,_,rfl,Z.at_,by lia,by rw [Yab];lia,Lt2.mono (p:=6) (by rw [Yab];show (j.length:Int).natAbs<2 ^ 6;lia) (by decide),λr5 H5 a5 b5 k5=>?_⟩;rw [Yab] at b5;obtain ⟨x,hx,ex⟩:=Xi (xs:=j) a5 b5;refine ⟨U,_,_,_,rfl,rfl,SqL.of (k5.keep _ _ L (Z.keep _ _ L e3)),ex,?_⟩;refine ⟨k5.keep _ _ (Ne.symm nD) e4,(by rw [Yab];lia),Y++[x],by rw [Yak];rfl,(Z.trans k5).put hD nD,Gb,by rw [Yag,hl];rfl⟩
  ·rintro ys H4 ⟨Y,rfl,Z,e4,hl⟩;exact q D Y H4 ((K3.trans Z).mono (by lia)) (K3.free hD) e4 (by lia)
theorem Wo (xs:List PyData):PyData.eqv (.list xs) (.list [])=xs.isEmpty:=by
 cases xs <;> simp [PyData.eqv,PyData.eqvAll]
theorem Ot:SeqAt.shaped (.list [])=true:=Ja []
noncomputable def Xl (one rs j:List Int):Bool:=decide ((∀r∈rs,r∈one)/\∀r∈j,r ∉ one)
noncomputable def Zgd:Sp:=λvs H Q _=>∃(al rl j:Addr)(one rs os:List Int),vs=[.ref al,.ref rl,.ref j]/\H al=some (.lst (one.map V.int))/\H rl=some (.lst (rs.map V.int))/\H j=some (.lst (os.map V.int))/\rs.length<=1000/\os.length<=1000/\∀H':Hp,Same H H'->Q (.bl (Xl one rs os)) H'
theorem ZhB:Gu ["one", "roads", "off"] ["one", "roads", "off"] (Gg ZgF):=⟨rfl,rfl,rfl,by decide +kernel,rfl,by decide +kernel,by decide +kernel⟩
theorem Ou {p:Int->Bool}{rs:List Int}{j:Nat}{x:Int}(h:rs[j]?=some x):(rs.take (j+1)).filter p=(rs.take j).filter p++(if p x=true then [x] else []):=by
 rw [Ybs,h,Ydm]
 congr 1
 by_cases z:p x=true
 ·simp [z]
 ·simp [z]
theorem XS {p:Int->Bool}{rs:List Int}{j:Nat}(h:rs.length<=1000):(((rs.take j).filter p).map V.int).length<sizeLine:=by
 have B:=Ybe.symm;have:=Ycr p (rs.take j);rw [Ybj] at this;rw [Yab]
 lia
theorem Zge {f:Addr}{fd:FuncData}(F:Fun K "_law_has_all" "_law_has_all" ZgF f fd):FnOk P w K mg base CX0 1 f fd ["one", "roads", "off"] Zgd:=by
 refine F.ok ZhB (λvs H Q E h=>?_) (λac A outer s H vs Q E hr h=>?_)
 ·obtain ⟨_,_,_,_,_,_,rfl,_⟩:=h
  rfl
 ·obtain ⟨al,rl,ol,one,rs,U,rfl,ea,er,eo,lr,lo,q⟩:=h;have hu:=hr.units;refine ⟨_,(@Gi _ _ _ (@Gv _ _ _ _ (Zel (OD (Zbw K hu) (G7 (own:=["road"]) rfl (Gm (fr:=[("one", 0)]) [(".0", .local),("road", .local),("one", .cell)] rfl rfl (by decide +kernel) rfl (by decide +kernel) ⟨rfl,trivial⟩ ⟨λh=>GQ h,λh=>GQ h,λ_=>⟨_,rfl⟩,trivial⟩ ⟨⟨rfl,.inl rfl,.inl rfl⟩,trivial⟩) (Jv K (pv 1)) (λ_ _ _ _=>Gn (i:=0) (show List.Nodup (["road", "one"]:List Str) by decide +kernel) rfl (Or.inl rfl)) (λ_ _ _ _=>G8 (Gs (ZcF K) (pv 0) (pv 1) (by with_unfolding_all rfl))) (λ_ _ _ _=>pv 0)) (@Gr _ _ _ _ Gc) (GH _)) (Zcy (OD (Zbw K hu) (G7 (own:=["road"]) rfl (Gm (fr:=[("one", 0)]) [(".0", .local),("road", .local),("one", .cell)] rfl rfl (by decide +kernel) rfl (by decide +kernel) ⟨rfl,trivial⟩ ⟨λh=>GQ h,λh=>GQ h,λ_=>⟨_,rfl⟩,trivial⟩ ⟨⟨rfl,.inl rfl,.inl rfl⟩,trivial⟩) (Jv K (pv 2)) (λ_ _ _ _=>Gn (i:=0) (show List.Nodup (["road", "one"]:List Str) by decide +kernel) rfl (Or.inl rfl)) (λ_ _ _ _=>G8 (Gs (kIn K) (pv 0) (pv 1) (by with_unfolding_all rfl))) (λ_ _ _ _=>pv 0)) (@Gr _ _ _ _ Gc) (GH _)))))),?_⟩;refine ⟨_,rfl,rl,rfl,⟨_,SqL.of er⟩,λD hD=>?_⟩;refine GE (K:=K) (a:=rl) (xs:=rs.map V.int) (λj ys H'=>Same H H'/\H' D=some (.lst ys)/\ys=((rs.take j).filter λx=>!decide (x∈one)).map V.int) ⟨Same.new hD,Gb,rfl⟩ (by rintro j ys H' _ ⟨L,_⟩;exact SqL.of (L _ _ er)) ?_ ?_
  ·rintro j y ys H8 Z ⟨L,B,rfl⟩;obtain ⟨x,rfl,Y⟩:=JA Z;refine ⟨⟨rfl,trivial⟩,?_⟩;refine ⟨_,rfl,_,rfl,al,_,rfl,.inl (SqL.of (L _ _ ea)),rfl,JJ _,_,rfl,?_⟩;rw [J4];show if (!decide (x∈one))=true then _ else _
   refine Ug (λc2=>?_) (λc2=>?_)
   ·exact ⟨_,rfl,B,XS lr,L.put hD,Gb,by rw [Ou Y,if_pos c2,Yak];rfl⟩
   ·exact ⟨L,B,by rw [Ou Y,if_neg c2,Ybt]⟩
  rintro ys H1 ⟨s1,B,rfl⟩;rw [Yab,Ybk] at B;refine ⟨Yan _,λn1 aa=>?_⟩;have s2:Same H1 (upd H1 n1 (.lst [])):=Same.new aa;refine ⟨.list ((rs.filter λx=>!decide (x∈one)).map PyData.int),.list [],.lst (SqL.of (s2 _ _ B)) (GV _),.lst (SqL.of Gb) .nil,Ja _,Ot,_,rfl,?_⟩;rw [Wo];generalize upd H1 n1 (.lst [])=H2 at s2 ⊢;have O:=s1.trans s2;clear B aa hD;by_cases z:∀r∈rs,r∈one
  ·have e0:rs.filter (λx=>!decide (x∈one))=[]:=List.filter_eq_nil_iff.mpr λx Y=>by simp [z x Y]
   rw [e0];refine Ox ?_;refine ⟨_,rfl,ol,rfl,⟨_,SqL.of (O _ _ eo)⟩,λD hD=>?_⟩;refine GE (K:=K) (a:=ol) (xs:=U.map V.int) (λj ys H'=>Same H2 H'/\H' D=some (.lst ys)/\ys=((U.take j).filter λx=>decide (x∈one)).map V.int) ⟨Same.new hD,Gb,rfl⟩ (by rintro j ys H' _ ⟨L,_⟩;exact SqL.of (L _ _ (O _ _ eo))) ?_ ?_
   ·rintro j y ys H8 Z ⟨L,B,rfl⟩;obtain ⟨x,rfl,Y⟩:=JA Z;refine ⟨⟨rfl,trivial⟩,?_⟩;refine ⟨_,rfl,_,rfl,al,_,rfl,.inl (SqL.of (L _ _ (O _ _ ea))),rfl,JJ _,_,rfl,?_⟩;rw [J4];show if decide (x∈one)=true then _ else _
    refine Ug (λc2=>?_) (λc2=>?_)
    ·exact ⟨_,rfl,B,XS lo,L.put hD,Gb,by rw [Ou Y,if_pos c2,Yak];rfl⟩
    ·exact ⟨L,B,by rw [Ou Y,if_neg c2,Ybt]⟩
   rintro ys H3 ⟨s3,B,rfl⟩;rw [Yab,Ybk] at B;refine ⟨Yan _,λn2 ab=>?_⟩;have s4:Same H3 (upd H3 n2 (.lst [])):=Same.new ab;refine ⟨.list ((U.filter λx=>decide (x∈one)).map PyData.int),.list [],.lst (SqL.of (s4 _ _ B)) (GV _),.lst (SqL.of Gb) .nil,Ja _,Ot,?_⟩;rw [Wo];have e:Xl one rs U=(false != ((U.filter λx=>decide (x∈one)).map PyData.int).isEmpty):=by
    unfold Xl;by_cases y:∀r∈U,r ∉ one
    ·have e0:U.filter (λx=>decide (x∈one))=[]:=List.filter_eq_nil_iff.mpr λx Y=>by simp [y x Y]
     rw [Ybh ⟨z,y⟩,e0]
     rfl
    ·rw [Ybv (λh=>y h.2)];cases h:U.filter λx=>decide (x∈one) with
     | nil=>exact absurd (λr hr=>by simpa using List.filter_eq_nil_iff.mp h r hr) y
     | cons _ _=>rfl
   rw [e] at q;exact q _ ((O.trans s3).trans s4)
  ·have e0:((rs.filter λx=>!decide (x∈one)).map PyData.int).isEmpty=false:=by
    cases h:rs.filter λx=>!decide (x∈one) with
    | nil=>exact absurd (λr hr=>by simpa using List.filter_eq_nil_iff.mp h r hr) z
    | cons _ _=>rfl
   rw [e0];refine J7 ?_;have e:Xl one rs U=false:=Ybv λh=>z h.1;rw [e] at q;exact q _ O
noncomputable def UY (one:List Int)(j:List (List Int)):Bool:=decide (∀l∈j,∃r∈one,r∈l)
noncomputable def Zgf:Sp:=λvs H Q _=>∃(al j:Addr)(one:List Int)(zs:List (Addr×List Int)),vs=[.ref al,.ref j]/\H al=some (.lst (one.map V.int))/\H j=some (.lst (zs.map λz=>V.ref z.1))/\Lz H zs/\zs.length<=1000/\(∀z∈zs,z.2.length<=1000)/\∀H':Hp,Same H H'->Q (.bl (UY one (zs.map (·.2)))) H'
theorem ZhC:Gu ["one", "lists"] ["one", "lists"] (Gg ZgG):=⟨rfl,rfl,rfl,by decide +kernel,rfl,by decide +kernel,by decide +kernel⟩
noncomputable def Xk (one:List Int)(z:Addr×List Int):Bool:=((z.2.filter λx=>decide (x∈one)).map PyData.int).isEmpty
theorem mis_iff {one:List Int}{z:Addr×List Int}:Xk one z=true↔¬ ∃r∈one,r∈z.2:=by
 unfold Xk;cases h:z.2.filter λx=>decide (x∈one) with
 | nil=>
  refine ⟨λ_=>?_,λ_=>rfl⟩;rintro ⟨r,h1,h2⟩;have:=List.filter_eq_nil_iff.mp h r h2;simp [h1] at this
 | cons x xs=>
  refine ⟨λz=>(by cases z),λq=>?_⟩;have j:x∈z.2.filter λx=>decide (x∈one):=by rw [h];exact Yaw ..
  exact absurd ⟨x,Ych (Ybq.mp j).2,(Ybq.mp j).1⟩ q
theorem Zgg {f:Addr}{fd:FuncData}(F:Fun K "_law_meets" "_law_meets" ZgG f fd):FnOk P w K mg base CX0 1 f fd ["one", "lists"] Zgf:=by
 refine F.ok ZhC (λvs H Q E h=>?_) (λaj A outer s H vs Q E hr h=>?_)
 ·obtain ⟨_,_,_,_,rfl,_⟩:=h
  rfl
 ·obtain ⟨al,ll,one,zs,rfl,ea,el,lz,ak,ad,q⟩:=h;have hu:=hr.units;have am:=Ybe.symm;refine ⟨_,(@Gi _ _ _ (@Gv _ _ _ _ (OD (Zbw K hu) (G7 (own:=["some"]) rfl (Gm (fr:=[("one", 0)]) [(".0", .local),("some", .local),("one", .cell)] rfl rfl (by decide +kernel) rfl (by decide +kernel) ⟨rfl,trivial⟩ ⟨λh=>GQ h,λh=>GQ h,λ_=>⟨_,rfl⟩,trivial⟩ ⟨⟨rfl,.inl rfl,.inl rfl⟩,trivial⟩) (Jv K (pv 1)) (λ_ _ _ _=>Gn (i:=0) (show List.Nodup (["some", "one"]:List Str) by decide +kernel) rfl (Or.inl rfl)) (λ_ _ _ _=>G8 (Gs (Zbw K hu) (G7 (own:=["road"]) rfl (Gm (fr:=[("one", 1)]) [(".0", .local),("road", .local),("one", .cell)] rfl rfl (by decide +kernel) rfl (by decide +kernel) ⟨rfl,trivial⟩ ⟨λh=>GQ h,λh=>GQ h,λ_=>⟨_,rfl⟩,trivial⟩ ⟨⟨rfl,.inl rfl,.inl rfl⟩,trivial⟩) (Jv K (pv 0)) (λ_ _ _ _=>Gn (i:=0) (show List.Nodup (["road", "one"]:List Str) by decide +kernel) rfl (Or.inl rfl)) (λ_ _ _ _=>G8 (Gs (kIn K) (pv 0) (pv 1) (by with_unfolding_all rfl))) (λ_ _ _ _=>pv 0)) (@Gr _ _ _ _ Gc) (GH _))) (λ_ _ _ _=>pv 0)) (@Gr _ _ _ _ Gc) (GH _)))),?_⟩;refine ⟨_,rfl,ll,rfl,⟨_,SqL.of el⟩,λD hD=>?_⟩;refine GE (K:=K) (a:=ll) (xs:=zs.map λz=>V.ref z.1) (λj ys H'=>Same H H'/\H' D=some (.lst ys)/\ys=((zs.take j).filter (Xk one)).map λz=>V.ref z.1) ⟨Same.new hD,Gb,rfl⟩ (by rintro j ys H' _ ⟨Y,_⟩;exact SqL.of (Y _ _ el)) ?_ ?_
  ·rintro j y ys H8 Z ⟨Y,eD,rfl⟩;rw [Yba] at Z;obtain ⟨z,L,rfl⟩:=Ybn.mp Z;have aa:=Yau L;have hj:=(Yaj.mp L).1;have ez:=Y _ _ (lz z aa);have ol:(((zs.take j).filter (Xk one)).map λz=>V.ref z.1).length<sizeLine:=by
    have h1:=Ycr (Xk one) (zs.take j);rw [Ybj] at h1;rw [Yab]
    lia
   have tk:(zs.take (j+1)).filter (Xk one)=(zs.take j).filter (Xk one)++(if Xk one z=true then [z] else []):=by
    rw [Ybs,L,Ydm]
    congr 1
    by_cases q':Xk one z=true
    ·simp [q']
    ·simp [q']
   refine ⟨⟨rfl,trivial⟩,?_⟩;refine ⟨_,rfl,z.1,rfl,⟨_,SqL.of ez⟩,λD2 ab=>?_⟩;refine GE (K:=K) (a:=z.1) (xs:=z.2.map V.int) (λj ys H'=>Same H8 H'/\H' D2=some (.lst ys)/\ys=((z.2.take j).filter λx=>decide (x∈one)).map V.int) ⟨Same.new ab,Gb,rfl⟩ (by rintro j ys H' _ ⟨O,_⟩;exact SqL.of (O _ _ ez)) ?_ ?_
   ·rintro j2 y2 ae H9 ac ⟨O,B,rfl⟩;obtain ⟨x,rfl,hx⟩:=JA ac;refine ⟨⟨rfl,trivial⟩,?_⟩;refine ⟨_,rfl,_,rfl,al,_,rfl,.inl (SqL.of (O _ _ (Y _ _ ea))),rfl,JJ _,_,rfl,?_⟩;rw [J4];show if decide (x∈one)=true then _ else _
    refine Ug (λU=>?_) (λU=>?_)
    ·exact ⟨_,rfl,B,XS (ad z aa),O.put ab,Gb,by rw [Ou hx,if_pos U,Yak];rfl⟩
    ·exact ⟨O,B,by rw [Ou hx,if_neg U,Ybt]⟩
   rintro ae H9 ⟨O,B,rfl⟩;rw [Yab,Ybk] at B;refine ⟨Yan _,λn2 ag=>?_⟩;have s4:Same H9 (upd H9 n2 (.lst [])):=Same.new ag;refine ⟨.list ((z.2.filter λx=>decide (x∈one)).map PyData.int),.list [],.lst (SqL.of (s4 _ _ B)) (GV _),.lst (SqL.of Gb) .nil,Ja _,Ot,_,rfl,?_⟩;rw [Wo];rw [show (false != (List.map PyData.int (List.filter (λx=>decide (x∈one)) z.2)).isEmpty)=Xk one z by unfold Xk;cases (List.map PyData.int (List.filter (λx=>decide (x∈one)) z.2)).isEmpty <;> rfl];show if Xk one z=true then _ else _
   have s5:=O.trans s4;generalize upd H9 n2 (.lst [])=an at s5 ⊢;have s6:=Y.trans s5;refine Ug (λU=>?_) (λU=>?_)
   ·exact ⟨_,rfl,s5 _ _ eD,ol,s6.put hD,Gb,by rw [tk,if_pos U,Yak];rfl⟩
   ·exact ⟨s6,s5 _ _ eD,by rw [tk,if_neg U,Ybt]⟩
  rintro ys H1 ⟨s1,eD,rfl⟩;rw [Yab,Ybk] at eD;refine ⟨Yan _,λn1 ah=>?_⟩;have s2:Same H1 (upd H1 n1 (.lst [])):=Same.new ah;have ai:Lz (upd H1 n1 (.lst [])) (zs.filter (Xk one)):=λz L=>s2 _ _ (s1 _ _ (lz z (Ybq.mp L).1));refine ⟨.list (OI ((zs.filter (Xk one)).map (·.2))),.list [],.lst (SqL.of (s2 _ _ eD)) (UU ai),.lst (SqL.of Gb) .nil,UT _,Ot,?_⟩;rw [Wo];have e:UY one (zs.map (·.2))=(false != (OI ((zs.filter (Xk one)).map (·.2))).isEmpty):=by
   unfold UY OI;cases h:zs.filter (Xk one) with
   | nil=>
    refine Ybh λl hl=>?_;obtain ⟨z,L,rfl⟩:=Yam.mp hl;have:=List.filter_eq_nil_iff.mp h z L;rw [mis_iff] at this;exact Decidable.not_not.mp this
   | cons z xs=>
    have hx:z∈zs.filter (Xk one):=by rw [h];exact Yaw ..
    obtain ⟨h1,h2⟩:=Ybq.mp hx;exact Ybv λq=>mis_iff.mp h2 (q _ (Yam.mpr ⟨z,h1,rfl⟩))
  rw [e] at q;exact q _ (s1.trans s2)
theorem Vq (a:Int)(ks:List Tri)(rs j:List Int):SeqAt.shaped (.list [.tuple [.int a,.list (ks.map trD)],.list (rs.map PyData.int),.list (j.map PyData.int)])=true:=by
 unfold SeqAt.shaped;rw [Yby];have h1:=OT ks;have h2:=Jo rs;have B:=Jo j;refine ⟨by simp only [PyData.canLay0,PyData.canLayAll0,VO ks,Om rs,Om j,Bool.and_self],Ybh ?_⟩;simp only [PyData.depth,PyData.depthAll]
 lia
theorem Zd6 (a:Int)(ks:List Tri)(rs j:List Int):PyData.eqv (.list [.tuple [.int a,.list (ks.map trD)],.list (rs.map PyData.int),.list (j.map PyData.int)]) (.list [.tuple [.int a,.list (ks.map trD)],.list (rs.map PyData.int),.list (j.map PyData.int)])=true:=by
 have h1:=Zag a a ks ks;have h2:=JY rs rs;have B:=JY j j;simp only [PyData.eqv,PyData.eqvAll,VN,Bool.and_true] at h1 h2 B ⊢;simp [h2,B]
theorem Vr (a:Int)(ks:List Tri)(j:List (List Int)):SeqAt.shaped (.list [.tuple [.int a,.list (ks.map trD)],.list (OI j)])=true:=by
 unfold SeqAt.shaped;rw [Yby];have h1:=OT ks;have h2:=V9 j;refine ⟨by simp only [PyData.canLay0,PyData.canLayAll0,VO ks,ZaY j,Bool.and_self],Ybh ?_⟩;simp only [PyData.depth,PyData.depthAll]
 lia
theorem Zd7 (a:Int)(ks:List Tri)(j:List (List Int)):PyData.eqv (.list [.tuple [.int a,.list (ks.map trD)],.list (OI j)]) (.list [.tuple [.int a,.list (ks.map trD)],.list (OI j)])=true:=by
 have h2:=ZcS j;simp only [PyData.eqv,PyData.eqvAll,VN,Bool.and_true,h2];simp
structure LdI (tbL tbS tbH tbT:Addr)(H0:Hp)(hd h1 m1 r1 o1:Addr)(a0:Int)(xs:List V)(ks:List Tri)(rs os:List Int)(H:Hp):Prop where
 kp:SameL4 tbL tbS tbH tbT H0 H
 tb:Tb4 tbL tbS tbH tbT H
 hh:H hd=some (.lst [.ref h1,.ref r1,.ref o1])
 x:TabAt H h1 m1 a0 xs ks
 r:H r1=some (.lst (rs.map V.int))
 o:H o1=some (.lst (os.map V.int))
theorem LdI.go {tbL tbS tbH tbT j h1 B D L:Addr}{H0 H H':Hp}{a0:Int}{xs:List V}{ks:List Tri}{rs O:List Int}(R:LdI tbL tbS tbH tbT H0 j h1 B D L a0 xs ks rs O H)(s:SameL4 tbL tbS tbH tbT H H')(tb:Tb4 tbL tbS tbH tbT H'):LdI tbL tbS tbH tbT H0 j h1 B D L a0 xs ks rs O H':=
 ⟨R.kp.trans s,tb,s.at_ R.tb R.hh λ_ z=>(by cases z),s.tab R.tb R.x,s.at_ R.tb R.r λ_ z=>(by cases z),s.at_ R.tb R.o λ_ z=>(by cases z)⟩
noncomputable def Zgh (tbL tbS tbH tbT:Addr):Sp:=λvs H Q _=>∃(tb l rl j td B:Addr)(a0 c0:Int)(xs zs:List V)(ks us':List Tri)(rs os:List Int),vs=[.ref tb,.ref rl,.ref j,.ref td]/\TabAt H tb l a0 xs ks/\SiftOk ks a0/\H rl=some (.lst (rs.map V.int))/\H j=some (.lst (os.map V.int))/\rs.length<1000/\TabAt H td B c0 zs us'/\us'.length<=900/\Ne4 tbL tbS tbH tbT/\Tb4 tbL tbS tbH tbT H /\
 (∀(us:List Tri)(b0:Int),Cn us b0->(∀s,Has us b0 s↔(Has ks a0 s/\okO (gdH (manyOf rs:Int)) (JB (afH os rs) s (some 0))=true))->us'=us/\c0=b0)/\∀H':Hp,SameL4 tbL tbS tbH tbT H H'->Tb4 tbL tbS tbH tbT H'->Q (.bl true) H'
theorem scLed:Gu ["table", "roads", "off", "due", "handed", "turn", "found"] ["table", "roads", "off", "due"] (Gg ZgD):=⟨rfl,rfl,rfl,by decide +kernel,rfl,by decide +kernel,by decide +kernel⟩
theorem Zgi {f ab ac ad tbL tbS tbH tbT:Addr}{fd D L O:FuncData}(F:Fun K "_law_led" "_law_led" ZgD f fd)(ao:Fun K "_law_copied" "_law_copied" Ze8 ab D)(ap:Binds K D ["table"] [])(aq:mg "_law_copied" = some (.ref ab))(ar:FnOk P w K mg base CX0 1 ab D ["table"] Zd4)(as:Fun K "_law_just" "_law_just" Ze9 ac L)(au:Binds K L ["found", "due"] [])(av:mg "_law_just" = some (.ref ac))(aw:FnOk P w K mg base CX0 1 ac L ["found", "due"] Zd5)(ax:Fun K "through_roads" "through_roads" Zgv ad O)(ay:Binds K O ["table", "roads", "off"] [])(az:mg "through_roads" = some (.ref ad))(a1:FnOk P w K mg base CX0 8 ad O ["table", "roads", "off"] (ZfX tbL tbS tbH tbT))(Z:mg "range" = none)(aa:mg "list" = none):FnOk P w K mg base CX0 9 f fd ["table", "roads", "off", "due"] (Zgh tbL tbS tbH tbT):=by
 refine F.ok scLed (λvs H Q E h=>?_) (λaA A outer s H vs Q E hr h=>?_)
 ·obtain ⟨_,_,_,_,_,_,_,_,_,_,_,_,_,_,rfl,_⟩:=h
  rfl
 ·obtain ⟨tb,l,rl,ol,td,ld,a0,c0,xs,zs,ks,a2,rs,os,rfl,T,SO,er,eo,a3,Td,ah,n,U,due,q⟩:=h;have aB:=Ybe.symm;have hu:=hr.units;refine ⟨_,(@Ge _ _ _ _ _ (@Gp _ _ 4 _ _ _ _ scLed.nd rfl (Or.inl rfl) (@Gr _ _ _ _ (@Ga _ _ _ _ _ (@Gk _ _ _ _ _ _ _ _ _ _ _ _ _ _ _ _ ar (hr.mono (by decide)) rfl aq ao.kp ap .nil Gz (@Ga _ _ _ _ _ (pv 0) Gc rfl) (by decide) rfl rfl) (@Ga _ _ _ _ _ (G0 (O4 K) rfl aa JG (@Ga _ _ _ _ _ (pv 1) Gc rfl)) (@Ga _ _ _ _ _ (G0 (O4 K) rfl aa JG (@Ga _ _ _ _ _ (pv 2) Gc rfl)) Gc rfl) rfl) rfl)) rfl (by first | exact .inl rfl | exact .inr rfl))
    (@Ge _ _ _ _ _ (@JK _ _ _ _ _ _ _ _ Yci rfl (Jt rfl Z (@Ga _ _ _ _ _ Gh Gc rfl)) (Gn (i:=5) scLed.nd rfl (Or.inl rfl))
    (@Ge _ _ _ _ _ (@Gp _ _ 6 _ _ _ _ scLed.nd rfl (Or.inl rfl) (@Gk _ _ _ _ _ _ _ _ _ _ _ _ _ _ _ _ a1 (hr.mono (by decide)) rfl az ax.kp ay .nil Gz (@Ga _ _ _ _ _ (@GN _ _ _ _ _ _ _ (Oz K) (pv 4) Gh (λ_ _=>rfl)) (@Ga _ _ _ _ _ (@GN _ _ _ _ _ _ _ (Oz K) (pv 4) Gh (λ_ _=>rfl)) (@Ga _ _ _ _ _ (@GN _ _ _ _ _ _ _ (Oz K) (pv 4) Gh (λ_ _=>rfl)) Gc rfl) rfl) rfl) (by decide) rfl rfl) rfl (by first | exact .inl rfl | exact .inr rfl))
    (@Ge _ _ _ _ _ (@Jl _ _ _ _ _ _ _ _ (PW.pt (U1 (Oa (Jh (@Gk _ _ _ _ _ _ _ _ _ _ _ _ _ _ _ _ aw (hr.mono (by decide)) rfl av as.kp au .nil Gz (@Ga _ _ _ _ _ (pv 6) (@Ga _ _ _ _ _ (pv 3) Gc rfl) rfl) (by decide) rfl rfl))) (OJ (Gs (ZcG K hu) (pv 4) (@Gr _ _ _ _ (@Ga _ _ _ _ _ (pv 0) (@Ga _ _ _ _ _ (pv 1) (@Ga _ _ _ _ _ (pv 2) Gc rfl) rfl) rfl)) (GH _))))) (@Gi _ _ _ (@Gv _ _ _ _ Ow)) GC)
    (@Gi _ _ _ (Jn (Um Yco Ycy Ycz G9 (@GN _ _ _ _ _ _ _ (Xr K) (pv 6) Gh (λ_ _=>rfl)) (@Ga _ _ _ _ _ (@Jf _ _ _ _ _ (@Ga _ _ _ _ _ Gh (@Ga _ _ _ _ _ Gh (@Ga _ _ _ _ _ Gh Gc rfl) rfl) rfl)) Gc rfl)))))) (by intro _;rfl))
    (@Gi _ _ _ (@Gv _ _ _ _ Ow)))),?_⟩
  refine ⟨_,rfl,tb,l,a0,xs,ks,rfl,T,λh1 m1 H1 s1 a4 a5 X1=>?_⟩;refine ⟨_,rfl,rl,_,rfl,.inl (SqL.of (s1 _ _ er)),λr1 ai=>?_⟩;obtain ⟨H2,q_,s2,e2⟩:=nwU (o:=.lst (rs.map V.int)) ai;rw [q_];refine ⟨_,rfl,ol,_,rfl,.inl (SqL.of (s2 _ _ (s1 _ _ eo))),λo1 aj=>?_⟩;obtain ⟨H3,q_,s3,e3⟩:=nwU (o:=.lst (os.map V.int)) aj;rw [q_];refine ⟨by show 3<=sizeLine;lia,λhd ak=>?_⟩;have s4:Same H3 (upd H3 hd (.lst [.ref h1,.ref r1,.ref o1])):=Same.new ak;have S:=(s1.trans s2).trans (s3.trans s4);have R0:LdI tbL tbS tbH tbT H hd h1 m1 r1 o1 a0 xs ks rs os (upd H3 hd (.lst [.ref h1,.ref r1,.ref o1])):=⟨SameL4.of S,U.same S,Gb,X1.same ((s2.trans s3).trans s4),(s3.trans s4) _ _ e2,s4 _ _ e3⟩;generalize upd H3 hd (.lst [.ref h1,.ref r1,.ref o1])=H4 at R0 ⊢;clear s4 S s3 e3 s2 e2 s1 X1 ak aj ai a4 a5;dsimp only [GY];refine ⟨_,rfl,by decide,by decide,?_⟩;refine Ob (lo:=0) (n:=2) (λj σ H'=>∃(v5 v6:Option V),σ=[some (.ref tb),some (.ref rl),some (.ref ol),some (.ref td),some (.ref hd),v5,v6]/\LdI tbL tbS tbH tbT H hd h1 m1 r1 o1 a0 xs ks rs os H') ⟨none,none,rfl,R0⟩ ?_ ?_
  ·rintro j σ Hx hj ⟨v5,v6,rfl,B⟩;dsimp only [GY];refine ⟨_,rfl,hd,_,_,_,rfl,rfl,SqL.of B.hh,Gq (j:=0) rfl,_,rfl,hd,_,_,_,rfl,rfl,SqL.of B.hh,Gq (j:=1) rfl,_,rfl,hd,_,_,_,rfl,rfl,SqL.of B.hh,Gq (j:=2) rfl,?_⟩;refine ⟨h1,m1,r1,o1,a0,xs,ks,rs,os,rfl,B.x,SO,B.r,B.o,a3,n,B.tb,λp lp c am us H6 s6 a6 hp a7 Tp C6 a8 aC=>?_⟩;obtain ⟨rfl,rfl⟩:=due us c C6 a8;have R6:=B.go s6 a6;dsimp only [GY];refine ⟨_,rfl,_,rfl,p,lp,td,ld,c0,am,zs,a2,rfl,Tp,R6.kp.tab U Td,ah,λH7 s7=>⟨_,rfl,J7 ?_⟩⟩;have R7:=R6.go (SameL4.of s7) (R6.tb.same s7);refine ⟨_,rfl,_,rfl,_,rfl,_,rfl,by show 3<=sizeLine;lia,λnl a9=>?_⟩;obtain ⟨H8,q_,s8,e8⟩:=nwU (o:=.lst [.ref tb,.ref rl,.ref ol]) a9;rw [q_];have Y:=R7.go (SameL4.of s8) (R7.tb.same s8);have ae:=Y.kp.tab U T;refine ⟨.list [.tuple [.int a0,.list (ks.map trD)],.list (rs.map PyData.int),.list (os.map PyData.int)],.list [.tuple [.int a0,.list (ks.map trD)],.list (rs.map PyData.int),.list (os.map PyData.int)],.lst (SqL.of Y.hh) (.cons (.tup (SqT.of Y.x.w) (.cons (.int _) (.cons (.lst (SqL.of Y.x.l) Y.x.t.dats) .nil))) (.cons (.lst (SqL.of Y.r) (GV _)) (.cons (.lst (SqL.of Y.o) (GV _)) .nil))),.lst (SqL.of e8) (.cons (.tup (SqT.of ae.w) (.cons (.int _) (.cons (.lst (SqL.of ae.l) ae.t.dats) .nil))) (.cons (.lst (SqL.of (Y.kp.at_ U er λ_ z=>(by cases z))) (GV _)) (.cons (.lst (SqL.of (Y.kp.at_ U eo λ_ z=>(by cases z))) (GV _)) .nil))),Vq _ _ _ _,Vq _ _ _ _,_,rfl,?_⟩;rw [Zd6];refine J7 ?_;dsimp only [JV];have ag:=Tp.same (s7.trans s8);refine ⟨_,rfl,p,_,_,_,rfl,rfl,SqT.of ag.w,Gq (j:=1) rfl,.inl ⟨rfl,_,SqL.of ag.l⟩,by show 3<=sizeLine;lia,λt ht=>?_⟩;obtain ⟨H9,q_,s9,_⟩:=nwU (o:=.tup [.int 0,.int 0,.int 1]) ht;rw [q_];have R9:=Y.go (SameL4.of s9) (Y.tb.same s9);have an:=s9 _ _ ag.l;have zl:=Tp.t.len;refine ⟨lp,_,_,rfl,rfl,an,by lia,?_⟩;have Ra:=B.go ((s6.trans (SameL4.of ((s7.trans s8).trans s9))).put (o:=.lst (am++[.ref t])) a7) (R9.tb.put an);exact ⟨_,_,rfl,Ra⟩
  ·rintro σ Hx ⟨v5,v6,rfl,B⟩;exact q _ B.kp B.tb
structure TuI (tbL tbS tbH tbT:Addr)(H0:Hp)(hd h1 m1 r1:Addr)(a0:Int)(xs:List V)(ks:List Tri)(ys:List (Addr×List Int))(H:Hp):Prop where
 kp:SameL4 tbL tbS tbH tbT H0 H
 tb:Tb4 tbL tbS tbH tbT H
 hh:H hd=some (.lst [.ref h1,.ref r1])
 x:TabAt H h1 m1 a0 xs ks
 r:H r1=some (.lst (ys.map λz=>V.ref z.1))
 z:Lz H ys
theorem TuI.go {tbL tbS tbH tbT j h1 B D:Addr}{H0 H H':Hp}{a0:Int}{xs:List V}{ks:List Tri}{ys:List (Addr×List Int)}(R:TuI tbL tbS tbH tbT H0 j h1 B D a0 xs ks ys H)(s:SameL4 tbL tbS tbH tbT H H')(tb:Tb4 tbL tbS tbH tbT H'):TuI tbL tbS tbH tbT H0 j h1 B D a0 xs ks ys H':=
 ⟨R.kp.trans s,tb,s.at_ R.tb R.hh λ_ z=>(by cases z),s.tab R.tb R.x,s.at_ R.tb R.r λ_ z=>(by cases z),s.lz R.tb R.z⟩
noncomputable def Zgj (tbL tbS tbH tbT:Addr):Sp:=λvs H Q _=>∃(tb l j td B:Addr)(a0 c0:Int)(xs zs:List V)(ks us':List Tri)(ys:List (Addr×List Int)),vs=[.ref tb,.ref j,.ref td]/\TabAt H tb l a0 xs ks/\SiftOk ks a0/\Cn ks a0/\ks.length<=800/\H j=some (.lst (ys.map λz=>V.ref z.1))/\Lz H ys/\ys.length<=1000/\TabAt H td B c0 zs us'/\us'.length<=900/\Ne4 tbL tbS tbH tbT/\Tb4 tbL tbS tbH tbT H /\
 (∀(us:List Tri)(b0:Int),Cn us b0->(∀s,Has us b0 s↔(Has ks a0 s/\∀l∈ys.map (·.2),∃r∈s,r∈l))->us'=us/\c0=b0)/\∀H':Hp,SameL4 tbL tbS tbH tbT H H'->Tb4 tbL tbS tbH tbT H'->Q (.bl true) H'
theorem scTou:Gu ["table", "lists", "due", "handed", "turn", "found"] ["table", "lists", "due"] (Gg ZgE):=⟨rfl,rfl,rfl,by decide +kernel,rfl,by decide +kernel,by decide +kernel⟩
theorem Zgk {f ac ad ae tbL tbS tbH tbT:Addr}{fd B L O:FuncData}(F:Fun K "_law_touched" "_law_touched" ZgE f fd)(aq:Fun K "_law_copied" "_law_copied" Ze8 ac B)(ar:Binds K B ["table"] [])(as:mg "_law_copied" = some (.ref ac))(au:FnOk P w K mg base CX0 1 ac B ["table"] Zd4)(av:Fun K "_law_just" "_law_just" Ze9 ad L)(aw:Binds K L ["found", "due"] [])(ax:mg "_law_just" = some (.ref ad))(ay:FnOk P w K mg base CX0 1 ad L ["found", "due"] Zd5)(az:Fun K "touching_all" "touching_all" Zgw ae O)(a1:Binds K O ["table", "lists"] [])(a2:mg "touching_all" = some (.ref ae))(a3:FnOk P w K mg base CX0 8 ae O ["table", "lists"] (Zf1 tbL tbS tbH tbT))(aa:mg "range" = none)(ai:mg "list" = none):FnOk P w K mg base CX0 9 f fd ["table", "lists", "due"] (Zgj tbL tbS tbH tbT):=by
 refine F.ok scTou (λvs H Q E h=>?_) (λaD A outer s H vs Q E hr h=>?_)
 ·obtain ⟨_,_,_,_,_,_,_,_,_,_,_,_,rfl,_⟩:=h
  rfl
 ·obtain ⟨tb,l,ll,td,ld,a0,c0,xs,zs,ks,a4,ys,rfl,T,SO,C0,a5,el,lz,aE,Td,aj,n,U,due,q⟩:=h;have aF:=Ybe.symm;have hu:=hr.units;refine ⟨_,(@Ge _ _ _ _ _ (@Gp _ _ 3 _ _ _ _ scTou.nd rfl (Or.inl rfl) (@Gr _ _ _ _ (@Ga _ _ _ _ _ (@Gk _ _ _ _ _ _ _ _ _ _ _ _ _ _ _ _ au (hr.mono (by decide)) rfl as aq.kp ar .nil Gz (@Ga _ _ _ _ _ (pv 0) Gc rfl) (by decide) rfl rfl) (@Ga _ _ _ _ _ (G7 (own:=["some"]) rfl (Ji (by decide +kernel) (by decide +kernel) rfl (by decide +kernel)) (Jv K (pv 1)) (λ_ _ _ _=>Gn (i:=0) (show List.Nodup (["some"]:List Str) by decide +kernel) rfl (Or.inl rfl)) (λ_ _ _ _=>JL) (λ_ _ _ _=>G0 (O4 K) rfl ai JG (@Ga _ _ _ _ _ (pv 0) Gc rfl))) Gc rfl) rfl)) rfl (by first | exact .inl rfl | exact .inr rfl))
    (@Ge _ _ _ _ _ (@JK _ _ _ _ _ _ _ _ Yci rfl (Jt rfl aa (@Ga _ _ _ _ _ Gh Gc rfl)) (Gn (i:=4) scTou.nd rfl (Or.inl rfl))
    (@Ge _ _ _ _ _ (@Gp _ _ 5 _ _ _ _ scTou.nd rfl (Or.inl rfl) (@Gk _ _ _ _ _ _ _ _ _ _ _ _ _ _ _ _ a3 (hr.mono (by decide)) rfl a2 az.kp a1 .nil Gz (@Ga _ _ _ _ _ (@GN _ _ _ _ _ _ _ (Oz K) (pv 3) Gh (λ_ _=>rfl)) (@Ga _ _ _ _ _ (@GN _ _ _ _ _ _ _ (Oz K) (pv 3) Gh (λ_ _=>rfl)) Gc rfl) rfl) (by decide) rfl rfl) rfl (by first | exact .inl rfl | exact .inr rfl))
    (@Ge _ _ _ _ _ (@Jl _ _ _ _ _ _ _ _ (PW.pt (U1 (Oa (Jh (@Gk _ _ _ _ _ _ _ _ _ _ _ _ _ _ _ _ ay (hr.mono (by decide)) rfl ax av.kp aw .nil Gz (@Ga _ _ _ _ _ (pv 5) (@Ga _ _ _ _ _ (pv 2) Gc rfl) rfl) (by decide) rfl rfl))) (OJ (Gs (ZcG K hu) (pv 3) (@Gr _ _ _ _ (@Ga _ _ _ _ _ (pv 0) (@Ga _ _ _ _ _ (pv 1) Gc rfl) rfl)) (GH _))))) (@Gi _ _ _ (@Gv _ _ _ _ Ow)) GC)
    (@Gi _ _ _ (Jn (Um Yco Ycy Ycz G9 (@GN _ _ _ _ _ _ _ (Xr K) (pv 5) Gh (λ_ _=>rfl)) (@Ga _ _ _ _ _ (@Jf _ _ _ _ _ (@Ga _ _ _ _ _ Gh (@Ga _ _ _ _ _ Gh (@Ga _ _ _ _ _ Gh Gc rfl) rfl) rfl)) Gc rfl)))))) (by intro _;rfl))
    (@Gi _ _ _ (@Gv _ _ _ _ Ow)))),?_⟩
  refine ⟨_,rfl,tb,l,a0,xs,ks,rfl,T,λh1 m1 H1 s1 a6 a7 X1=>?_⟩;refine ⟨_,rfl,ll,rfl,⟨_,SqL.of (s1 _ _ el)⟩,λD hD=>?_⟩;refine GE (K:=K) (a:=ll) (xs:=ys.map λz=>V.ref z.1) (λj vs H'=>∃us:List (Addr×List Int),vs=(us.map λz=>V.ref z.1)/\Same H1 H'/\H' D=some (.lst vs)/\Lz H' us/\(∀u∈us,u.1≠D)/\us.map (·.2)=(ys.take j).map (·.2)) ⟨[],rfl,Same.new hD,Gb,λz Y=>(by cases Y),λz Y=>(by cases Y),rfl⟩ (by rintro j vs H' _ ⟨_,_,s8,_⟩;exact SqL.of (s8 _ _ (s1 _ _ el))) ?_ ?_
  ·rintro j y vs H8 ak ⟨us,rfl,s8,eD,lu,nu,eu⟩;rw [Yba] at ak;obtain ⟨z,Y,rfl⟩:=Ybn.mp ak;have a8:=Yau Y;have hj:=(Yaj.mp Y).1;have ul:us.length<=j:=by
    have:=Ybi List.length eu;rw [Yab,Yab,Ybj] at this
    lia
   refine ⟨trivial,?_⟩;unfold Zbr;refine Ox ?_;refine ⟨_,rfl,z.1,_,rfl,.inl (SqL.of (s8 _ _ (s1 _ _ (lz z a8)))),λc hc=>?_⟩;obtain ⟨H9,q_,s9,e9⟩:=nwU (o:=.lst (z.2.map V.int)) hc;rw [q_];have am:c≠D:=λy=>by rw [y,eD] at hc;cases hc
   refine ⟨s9 _ _ eD,by rw [Yab];lia,us++[(c,z.2)],by rw [Yak];rfl,(s8.trans s9).put hD,Gb,λu hu=>?_,λu hu=>?_,?_⟩
   ·rcases Yah.mp hu with h | h
    ·exact Gj (s9 _ _ (lu u h)) (nu u h)
    ·rw [Yai.mp h];exact Gj e9 am
   ·rcases Yah.mp hu with h | h
    ·exact nu u h
    ·rw [Yai.mp h];exact am
   ·rw [Yak,eu,Ybs,Y,Yak]
    rfl
  rintro vs H3 ⟨ab,rfl,s3,eD,lu,_,eu⟩;rw [Yab,Ybk] at eu;refine ⟨JS,λhd an=>?_⟩;have s4:Same H3 (upd H3 hd (.lst [.ref h1,.ref D])):=Same.new an;have S:=(s1.trans s3).trans s4;have R0:TuI tbL tbS tbH tbT H hd h1 m1 D a0 xs ks ab (upd H3 hd (.lst [.ref h1,.ref D])):=⟨SameL4.of S,U.same S,Gb,X1.same (s3.trans s4),s4 _ _ eD,lu.same s4⟩;generalize upd H3 hd (.lst [.ref h1,.ref D])=H4 at R0 ⊢;clear s4 S s3 eD lu s1 X1 an hD a6 a7;dsimp only [GY];refine ⟨_,rfl,by decide,by decide,?_⟩;refine Ob (lo:=0) (n:=2) (λj σ H'=>∃(v4 v5:Option V),σ=[some (.ref tb),some (.ref ll),some (.ref td),some (.ref hd),v4,v5]/\TuI tbL tbS tbH tbT H hd h1 m1 D a0 xs ks ab H') ⟨none,none,rfl,R0⟩ ?_ ?_
  ·rintro j σ Hx hj ⟨v4,v5,rfl,Z⟩;dsimp only [GY];refine ⟨_,rfl,hd,_,_,_,rfl,rfl,SqL.of Z.hh,Gq (j:=0) rfl,_,rfl,hd,_,_,_,rfl,rfl,SqL.of Z.hh,Gq (j:=1) rfl,?_⟩;refine ⟨h1,m1,D,a0,xs,ks,ab,rfl,Z.x,SO,C0,a5,Z.r,Z.z,n,Z.tb,λp lp c ao us H6 s6 a9 hp aA Tp C6 aB aG=>?_⟩;obtain ⟨rfl,rfl⟩:=due us c C6 (λs=>by
    rw [aB,<-eu];constructor
    ·rintro ⟨g1,g2⟩;refine ⟨g1,λl hl=>?_⟩;obtain ⟨z,Y,rfl⟩:=Yam.mp hl;exact g2 z Y
    ·rintro ⟨g1,g2⟩;exact ⟨g1,λz Y=>g2 _ (Yam.mpr ⟨z,Y,rfl⟩)⟩)
   have R6:=Z.go s6 a9;dsimp only [GY];refine ⟨_,rfl,_,rfl,p,lp,td,ld,c0,ao,zs,a4,rfl,Tp,R6.kp.tab U Td,aj,λH7 s7=>⟨_,rfl,J7 ?_⟩⟩;have R7:=R6.go (SameL4.of s7) (R6.tb.same s7);refine ⟨_,rfl,_,rfl,_,rfl,JS,λnl aC=>?_⟩;obtain ⟨H8,q_,s8,e8⟩:=nwU (o:=.lst [.ref tb,.ref ll]) aC;rw [q_];have R8:=R7.go (SameL4.of s8) (R7.tb.same s8);have ag:=R8.kp.tab U T;refine ⟨.list [.tuple [.int a0,.list (ks.map trD)],.list (OI (ab.map (·.2)))],.list [.tuple [.int a0,.list (ks.map trD)],.list (OI (ys.map (·.2)))],.lst (SqL.of R8.hh) (.cons (.tup (SqT.of R8.x.w) (.cons (.int _) (.cons (.lst (SqL.of R8.x.l) R8.x.t.dats) .nil))) (.cons (.lst (SqL.of R8.r) (UU R8.z)) .nil)),.lst (SqL.of e8) (.cons (.tup (SqT.of ag.w) (.cons (.int _) (.cons (.lst (SqL.of ag.l) ag.t.dats) .nil))) (.cons (.lst (SqL.of (R8.kp.at_ U el λ_ z=>(by cases z))) (UU (R8.kp.lz U lz))) .nil)),Vr _ _ _,Vr _ _ _,_,rfl,?_⟩;rw [eu,Zd7];refine J7 ?_;dsimp only [JV];have ah:=Tp.same (s7.trans s8);refine ⟨_,rfl,p,_,_,_,rfl,rfl,SqT.of ah.w,Gq (j:=1) rfl,.inl ⟨rfl,_,SqL.of ah.l⟩,by show 3<=sizeLine;lia,λt ht=>?_⟩;obtain ⟨H9,q_,s9,_⟩:=nwU (o:=.tup [.int 0,.int 0,.int 1]) ht;rw [q_];have R9:=R8.go (SameL4.of s9) (R8.tb.same s9);have ap:=s9 _ _ ah.l;have zl:=Tp.t.len;refine ⟨lp,_,_,rfl,rfl,ap,by lia,?_⟩;have Ra:=Z.go ((s6.trans (SameL4.of ((s7.trans s8).trans s9))).put (o:=.lst (ao++[.ref t])) aA) (R9.tb.put ap);exact ⟨_,_,rfl,Ra⟩
  ·rintro σ Hx ⟨v4,v5,rfl,Z⟩;exact q _ Z.kp Z.tb
end
theorem Za5 {ks:List Tri}{root:Int}{j:List Int}(h:Rch ks root j):j.Nodup:=by
 induction h with
 | nil=>exact Ycv
 | snoc _ e ih=>
  obtain ⟨_,_,_,n,_⟩:=e;exact Yca.mpr ⟨ih,by simp,λa ha b B=>by rw [Yai.mp B];exact λz=>n.2.2 (z▸ha)⟩
theorem UZ {ts:List Tri}{root:Int}(S:ShOk ts)(F:ZgK ts root)(a:At ts root (-1)):Cn ts root:=by
 obtain ⟨j,R,Fi,B,D,h0⟩:=F;exact ⟨ts,root,j,S,a,R,Fi,Za5 R,B,D,h0⟩
theorem Ov {p:Addr×List Int->Bool}{ws:List (Addr×List Int)}{j:Nat}{z:Addr×List Int}(h:ws[j]?=some z):(ws.take (j+1)).filter p=(ws.take j).filter p++(if p z=true then [z] else []):=by
 rw [Ybs,h,Ydm]
 congr 1
 by_cases q:p z=true
 ·simp [q]
 ·simp [q]
theorem XT {p:Addr×List Int->Bool}{ws:List (Addr×List Int)}{j:Nat}(h:ws.length<=1000):(((ws.take j).filter p).map λz=>V.ref z.1).length<sizeLine:=by
 have B:=Ybe.symm;have:=Ycr p (ws.take j);rw [Ybj] at this;rw [Yab]
 lia
theorem XU {p:List Int->Bool}{ws:List (Addr×List Int)}{s:List Int}:s∈(ws.filter λz=>p z.2).map (·.2)↔(s∈ws.map (·.2)/\p s=true):=by
 constructor
 ·intro h;obtain ⟨z,j,rfl⟩:=Yam.mp h;obtain ⟨h1,h2⟩:=Ybq.mp j;exact ⟨Yam.mpr ⟨z,h1,rfl⟩,h2⟩
 ·rintro ⟨h1,h2⟩;obtain ⟨z,j,rfl⟩:=Yam.mp h1;exact Yam.mpr ⟨z,Ybq.mpr ⟨j,h2⟩,rfl⟩
theorem XV {ts j:List Tri}{root B:Int}{ws:List (Addr×List Int)}{rs L:List Int}(U:∀s,Has ts root s↔s∈ws.map (·.2))(O:∀z∈ws,z.2.Pairwise (· < ·))(Y:Cn j B)(Z:∀s,Has j B s↔(s∈ws.map (·.2)/\Xl s rs L=true)) :
  ∀(us:List Tri)(b0:Int),Cn us b0->(∀s,Has us b0 s↔(Has ts root s/\okO (gdH (manyOf rs:Int)) (JB (afH L rs) s (some 0))=true))->j=us/\B=b0:=by
 intro us b0 C h;refine Y.eq C λs=>?_;rw [Z,h,U];constructor
 ·rintro ⟨h1,h2⟩;obtain ⟨z,D,rfl⟩:=Yam.mp h1;exact ⟨h1,(YA (O z D)).mpr (Ych h2)⟩
 ·rintro ⟨h1,h2⟩;obtain ⟨z,D,rfl⟩:=Yam.mp h1;exact ⟨h1,Ybh ((YA (O z D)).mp h2)⟩
theorem XW {ts j:List Tri}{root B:Int}{ws:List (Addr×List Int)}{D:List (List Int)}(L:∀s,Has ts root s↔s∈ws.map (·.2))(O:Cn j B)(U:∀s,Has j B s↔(s∈ws.map (·.2)/\UY s D=true)) :
  ∀(us:List Tri)(b0:Int),Cn us b0->(∀s,Has us b0 s↔(Has ts root s/\∀l∈D,∃r∈s,r∈l))->j=us/\B=b0:=by
 intro us b0 C h;refine O.eq C λs=>?_;rw [U,h,L];unfold UY;rw [decide_eq_true_eq]
structure Dn (d rl sl l:Addr)(ws:List (Addr×List Int)):Prop where
 r:rl≠d
 s:sl≠d
 z:∀z∈ws,z.1≠d
 l:l≠d
structure W7 (tbL tbS tbH tbT d rl sl tp l:Addr)(rs:List Int)(ws:List (Addr×List Int))(root:Int)(xs:List V)(ts:List Tri)(c:Nat)(H0 H:Hp):Prop where
 f:H0 d=none
 kp:SameL4 tbL tbS tbH tbT H0 H
 tb:Tb4 tbL tbS tbH tbT H
 po:Pool H d c
 r:H rl=some (.lst (rs.map V.int))
 s:H sl=some (.lst (ws.map λz=>V.ref z.1))
 z:Lz H ws
 t:TabAt H tp l root xs ts
section
variable {tbL tbS tbH tbT d rl sl tp l:Addr}{rs:List Int}{ws:List (Addr×List Int)}{root:Int}{xs:List V}{ts:List Tri}{c c':Nat}{H0 H H':Hp}
theorem W7.go (W:W7 tbL tbS tbH tbT d rl sl tp l rs ws root xs ts c H0 H)(D:Dn d rl sl l ws)(k:∀b o,b≠d->b≠tbL->b≠tbS->b≠tbH->b≠tbT->H b=some o->H' b=some o)(tb:Tb4 tbL tbS tbH tbT H')(po:Pool H' d c'):W7 tbL tbS tbH tbT d rl sl tp l rs ws root xs ts c' H0 H':=by
 have j:∀{b:Addr}{ys:List V},b≠d->H b=some (.lst ys)->H' b=some (.lst ys):=λn e=>by
  obtain ⟨a,b,c,d⟩:=W.tb.ne e λ_ z=>by cases z
  exact k _ _ n a b c d e
 have B:∀p ys,H p=some (.tup ys)->H' p=some (.tup ys):=λp ys e=>by
  obtain ⟨a,b,c,d⟩:=W.tb.ne e λ_ z=>by cases z
  obtain ⟨_,_,_,e2,_⟩:=W.po;exact k _ _ (λz=>by rw [z,e2] at e;cases e) a b c d e
 exact ⟨W.f,λb o L O U Y e=>k b o (Gf e W.f) L O U Y (W.kp b o L O U Y e),tb,po,j D.r W.r,j D.s W.s,λz Z=>j (D.z z Z) (W.z z Z),⟨B _ _ W.t.w,j D.l W.t.l,W.t.t.keep B⟩⟩
theorem W7.same (W:W7 tbL tbS tbH tbT d rl sl tp l rs ws root xs ts c H0 H)(D:Dn d rl sl l ws)(s:Same H H'):W7 tbL tbS tbH tbT d rl sl tp l rs ws root xs ts c H0 H':=W.go D (λb o _ _ _ _ _ e=>s b o e) (W.tb.same s) (W.po.same s)
theorem W7.pk (W:W7 tbL tbS tbH tbT d rl sl tp l rs ws root xs ts c H0 H)(D:Dn d rl sl l ws)(k:Pk H H' d c'):W7 tbL tbS tbH tbT d rl sl tp l rs ws root xs ts c' H0 H':=W.go D (λb o n _ _ _ _ e=>k.keep b o n e) (W.tb.pk k W.po) k.at_
theorem W7.far (W:W7 tbL tbS tbH tbT d rl sl tp l rs ws root xs ts c H0 H)(D:Dn d rl sl l ws)(s:SameL4 tbL tbS tbH tbT H H')(tb:Tb4 tbL tbS tbH tbT H'):W7 tbL tbS tbH tbT d rl sl tp l rs ws root xs ts c H0 H':=W.go D (λb o _ j B L O e=>s b o j B L O e) tb (by
 obtain ⟨n,b,k,e,h⟩:=W.po;exact ⟨n,b,k,s.at_ W.tb e λ_ z=>(by cases z),h⟩)
end
section
variable {P:Program}{w:World}{K:W.Frag}{mg:Str->Option Value}{base:Heap}
theorem SqL.sameL4 {H H':Hp}{a tbL tbS tbH tbT:Addr}{xs:List V}(h:SqL K H a xs)(s:SameL4 tbL tbS tbH tbT H H')(t:Tb4 tbL tbS tbH tbT H):SqL K H' a xs:=by
 rcases h with (h | ⟨o,h⟩) | h
 ·exact .inl (.inl (s.at_ t h λ_ z=>by cases z))
 ·exact .inl (.inr ⟨o,s.at_ t h λ_ z=>by cases z⟩)
 ·exact .inr h
noncomputable def Zcx (K:W.Frag)(tbL tbS tbH tbT:Addr):Sp:=λvs H Q _=>∃(a:Addr)(ns:List Int),vs=[.ref a]/\SqL K H a (ns.map V.int)/\ns.length<=63/\(tbL≠tbS/\tbL≠tbH/\tbL≠tbT/\tbS≠tbH/\tbS≠tbT/\tbH≠tbT)/\H tbL=some (.tbl #[])/\H tbS=some (.tbl #[])/\H tbH=some (.tbl #[])/\H tbT=some (.tbl #[])/\∀H',Q (.bl true) H'
theorem scLaw:Gu ["script", "k", "pool", "roads", "sets", "table", "turn", "some", "off", "due", "lists", "last"] ["script"] (Gg Zb7):=⟨rfl,rfl,rfl,by decide +kernel,rfl,by decide +kernel,by decide +kernel⟩
theorem Zgl {f fP fR aE aF fT aG aH aI aJ aK tbL tbS tbH tbT:Addr}{fd aL aM ah ai aN aj ak am an ao:FuncData}(F:Fun K "law" "law" Zb7 f fd)(FP:Fun K "_law_pool" "_law_pool" Zgx fP aL)(bP:Binds K aL ["script", "k"] [])(mP:mg "_law_pool" = some (.ref fP))(GP:FnOk P w K mg base CX0 1 fP aL ["script", "k"] (Zfz (K:=K)))(FR:Fun K "_law_roads" "_law_roads" Zgy fR aM)(bR:Binds K aM ["pool"] [])(mR:mg "_law_roads" = some (.ref fR))(GR:FnOk P w K mg base CX0 2 fR aM ["pool"] ZfC)(bS:Fun K "_law_family" "_law_family" ZgB aE ah)(bU:Binds K ah ["pool", "roads"] [])(bV:mg "_law_family" = some (.ref aE))(bW:FnOk P w K mg base CX0 3 aE ah ["pool", "roads"] Zf3)(ay:Fun K "_law_table" "_law_table" Ze7 aF ai)(az:Binds K ai ["sets"] [])(a1:mg "_law_table" = some (.ref aF))(a2:FnOk P w K mg base CX0 2 aF ai ["sets"] Zf7)(FT:Fun K "_law_take" "_law_take" Zb6 fT aN)(bT:Binds K aN ["pool", "many"] [])(mT:mg "_law_take" = some (.ref fT))(GT:FnOk P w K mg base CX0 1 fT aN ["pool", "many"] XO)(aO:Fun K "_law_list" "_law_list" ZgC aG aj)(aP:Binds K aj ["pool", "roads", "most"] [])(aQ:mg "_law_list" = some (.ref aG))(aR:FnOk P w K mg base CX0 2 aG aj ["pool", "roads", "most"] Zgb)(br:Fun K "_law_has_all" "_law_has_all" ZgF aH ak)(bt:Binds K ak ["one", "roads", "off"] [])(bu:mg "_law_has_all" = some (.ref aH))(bv:FnOk P w K mg base CX0 1 aH ak ["one", "roads", "off"] Zgd)(bX:Fun K "_law_meets" "_law_meets" ZgG aI am)(bY:Binds K am ["one", "lists"] [])(bZ:mg "_law_meets" = some (.ref aI))(cc:FnOk P w K mg base CX0 1 aI am ["one", "lists"] Zgf)(aS:Fun K "_law_led" "_law_led" ZgD aJ an)(aT:Binds K an ["table", "roads", "off", "due"] [])(aU:mg "_law_led" = some (.ref aJ))(aV:FnOk P w K mg base CX0 9 aJ an ["table", "roads", "off", "due"] (Zgh tbL tbS tbH tbT))(aW:Fun K "_law_touched" "_law_touched" ZgE aK ao)(aX:Binds K ao ["table", "lists", "due"] [])(aY:mg "_law_touched" = some (.ref aK))(aZ:FnOk P w K mg base CX0 9 aK ao ["table", "lists", "due"] (Zgj tbL tbS tbH tbT))(ac:mg "range" = none)(aC:mg "len" = none)(bw:mg "max" = none)(bx:mg "min" = none):FnOk P w K mg base CX0 10 f fd ["script"] (Zcx K tbL tbS tbH tbT):=by
 refine F.ok scLaw (λvs H Q E h=>?_) (λc6 A outer s H vs Q E hr h=>?_)
 ·obtain ⟨_,_,rfl,_⟩:=h
  rfl
 ·obtain ⟨a,ns,rfl,hS,c7,⟨q1,q2,q3,q4,q5,q6⟩,ce,cf,cg,ch,q⟩:=h;have n4:Ne4 tbL tbS tbH tbT:=⟨q1,q2,q3,q4,q5,q6⟩;have c8:=Ybe.symm;have bz:Tb4 tbL tbS tbH tbT H:=⟨.inl ce,⟨[],⟨cf,λe he=>by cases he⟩,.inl rfl⟩,⟨[],⟨cg,λe he=>by cases he⟩,.inl rfl⟩,⟨[],⟨ch,λe he=>by cases he⟩,.inl rfl⟩⟩;refine ⟨_,(@Ge _ _ _ _ _ (@JK _ _ _ _ _ _ _ _ Yci rfl (Jt rfl ac (@Ga _ _ _ _ _ (Gw (Zx rfl) rfl bw Zcd (@Ga _ _ _ _ _ Gh (@Ga _ _ _ _ _ (Gw (Zy rfl) rfl bx Yd (@Ga _ _ _ _ _ Gh (@Ga _ _ _ _ _ (Gw (YU K) rfl aC Yck (@Ga _ _ _ _ _ (pv 0) Gc rfl)) Gc rfl) rfl)) Gc rfl) rfl)) Gc rfl)) (Gn (i:=1) scLaw.nd rfl (Or.inl rfl))
    (@Ge _ _ _ _ _ (@Gp _ _ 2 _ _ _ _ scLaw.nd rfl (Or.inr rfl) (@Gk _ _ _ _ _ _ _ _ _ _ _ _ _ _ _ _ GP (hr.mono (by decide)) rfl mP FP.kp bP .nil Gz (@Ga _ _ _ _ _ (pv 0) (@Ga _ _ _ _ _ (pv 1) Gc rfl) rfl) (by decide) rfl rfl) rfl (by first | exact .inl rfl | exact .inr rfl))
    (@Ge _ _ _ _ _ (@Gp _ _ 3 _ _ _ _ scLaw.nd rfl (Or.inr rfl) (@Gk _ _ _ _ _ _ _ _ _ _ _ _ _ _ _ _ GR (hr.mono (by decide)) rfl mR FR.kp bR .nil Gz (@Ga _ _ _ _ _ (pv 2) Gc rfl) (by decide) rfl rfl) rfl (by first | exact .inl rfl | exact .inr rfl))
    (@Ge _ _ _ _ _ (@Gp _ _ 4 _ _ _ _ scLaw.nd rfl (Or.inl rfl) (@Gk _ _ _ _ _ _ _ _ _ _ _ _ _ _ _ _ bW (hr.mono (by decide)) rfl bV bS.kp bU .nil Gz (@Ga _ _ _ _ _ (pv 2) (@Ga _ _ _ _ _ (pv 3) Gc rfl) rfl) (by decide) rfl rfl) rfl (by first | exact .inl rfl | exact .inr rfl))
    (@Ge _ _ _ _ _ (@Gp _ _ 5 _ _ _ _ scLaw.nd rfl (Or.inl rfl) (@Gk _ _ _ _ _ _ _ _ _ _ _ _ _ _ _ _ a2 (hr.mono (by decide)) rfl a1 ay.kp az .nil Gz (@Ga _ _ _ _ _ (pv 4) Gc rfl) (by decide) rfl rfl) rfl (by first | exact .inl rfl | exact .inr rfl))
    (@Ge _ _ _ _ _ (@JK _ _ _ _ _ _ _ _ Yci rfl (Jt rfl ac (@Ga _ _ _ _ _ Gh Gc rfl)) (Gn (i:=6) scLaw.nd rfl (Or.inl rfl))
    (@Ge _ _ _ _ _ (@Gp _ _ 7 _ _ _ _ scLaw.nd rfl (Or.inr rfl) (@Gk _ _ _ _ _ _ _ _ _ _ _ _ _ _ _ _ aR (hr.mono (by decide)) rfl aQ aO.kp aP .nil Gz (@Ga _ _ _ _ _ (pv 2) (@Ga _ _ _ _ _ (pv 3) (@Ga _ _ _ _ _ Gh Gc rfl) rfl) rfl) (by decide) rfl rfl) rfl (by first | exact .inl rfl | exact .inr rfl))
    (@Ge _ _ _ _ _ (@Gp _ _ 8 _ _ _ _ scLaw.nd rfl (Or.inr rfl) (@Gk _ _ _ _ _ _ _ _ _ _ _ _ _ _ _ _ aR (hr.mono (by decide)) rfl aQ aO.kp aP .nil Gz (@Ga _ _ _ _ _ (pv 2) (@Ga _ _ _ _ _ (pv 3) (@Ga _ _ _ _ _ Gh Gc rfl) rfl) rfl) (by decide) rfl rfl) rfl (by first | exact .inl rfl | exact .inr rfl))
    (@Ge _ _ _ _ _ (@Gp _ _ 9 _ _ _ _ scLaw.nd rfl (Or.inl rfl) (@Gk _ _ _ _ _ _ _ _ _ _ _ _ _ _ _ _ a2 (hr.mono (by decide)) rfl a1 ay.kp az .nil Gz (@Ga _ _ _ _ _ (G7 (own:=["one"]) rfl (Gm (fr:=[("some", 7),("off", 8)]) [(".0", .local),("one", .local),("_law_has_all", .globalImplicit),("off", .cell),("some", .cell)] rfl rfl (by decide +kernel) rfl (by decide +kernel) ⟨rfl,rfl,trivial⟩ ⟨λh=>GQ h,λh=>GQ h,λh=>GQ h,λ_=>⟨_,rfl⟩,λ_=>⟨_,rfl⟩,trivial⟩ ⟨⟨rfl,.inl rfl,.inl rfl⟩,⟨rfl,.inl rfl,.inl rfl⟩,trivial⟩) (Jv K (pv 4)) (λ_ _ _ _=>Gn (i:=0) (show List.Nodup (["one", "some", "off"]:List Str) by decide +kernel) rfl (Or.inl rfl)) (λ_ _ _ _=>G8 (Jh (@Gk _ _ _ _ _ _ _ _ _ _ _ _ _ _ _ _ bv (hr.mono (by decide)) rfl bu br.kp bt .nil Gz (@Ga _ _ _ _ _ (pv 0) (@Ga _ _ _ _ _ (pv 1) (@Ga _ _ _ _ _ (pv 2) Gc rfl) rfl) rfl) (by decide) rfl rfl))) (λ_ _ _ _=>pv 0)) Gc rfl) (by decide) rfl rfl) rfl (by first | exact .inl rfl | exact .inr rfl))
    (@Ge _ _ _ _ _ (@Jl _ _ _ _ _ _ _ _ (Oa (Jh (@Gk _ _ _ _ _ _ _ _ _ _ _ _ _ _ _ _ aV (hr.mono (by decide)) rfl aU aS.kp aT .nil Gz (@Ga _ _ _ _ _ (pv 5) (@Ga _ _ _ _ _ (pv 7) (@Ga _ _ _ _ _ (pv 8) (@Ga _ _ _ _ _ (pv 9) Gc rfl) rfl) rfl) rfl) (by decide) rfl rfl))) (@Gi _ _ _ (@Gv _ _ _ _ Ow)) GC)
    (@Ge _ _ _ _ _ (@Gp _ _ 10 _ _ _ _ scLaw.nd rfl (Or.inr rfl) (G7 (own:=["place"]) rfl (Gm (fr:=[("pool", 2),("roads", 3)]) [(".0", .local),("place", .local),("_law_list", .globalImplicit),("pool", .cell),("roads", .cell)] rfl rfl (by decide +kernel) rfl (by decide +kernel) ⟨rfl,rfl,trivial⟩ ⟨λh=>GQ h,λh=>GQ h,λh=>GQ h,λ_=>⟨_,rfl⟩,λ_=>⟨_,rfl⟩,trivial⟩ ⟨⟨rfl,.inl rfl,.inl rfl⟩,⟨rfl,.inl rfl,.inl rfl⟩,trivial⟩) (Jt rfl ac (@Ga _ _ _ _ _ (@Gk _ _ _ _ _ _ _ _ _ _ _ _ _ _ _ _ GT (hr.mono (by decide)) rfl mT FT.kp bT .nil Gz (@Ga _ _ _ _ _ (pv 2) (@Ga _ _ _ _ _ Gh Gc rfl) rfl) (by decide) rfl rfl) Gc rfl)) (λ_ _ _ _=>Gn (i:=0) (show List.Nodup (["place", "pool", "roads"]:List Str) by decide +kernel) rfl (Or.inl rfl)) (λ_ _ _ _=>JL) (λ_ _ _ _=>Gk aR (hr.mono (by decide)) rfl aQ aO.kp aP .nil Gz (@Ga _ _ _ _ _ (pv 1) (@Ga _ _ _ _ _ (pv 2) (@Ga _ _ _ _ _ Gh Gc rfl) rfl) rfl))) rfl (by first | exact .inl rfl | exact .inr rfl))
    (@Ge _ _ _ _ _ (@Gp _ _ 9 _ _ _ _ scLaw.nd rfl (Or.inl rfl) (@Gk _ _ _ _ _ _ _ _ _ _ _ _ _ _ _ _ a2 (hr.mono (by decide)) rfl a1 ay.kp az .nil Gz (@Ga _ _ _ _ _ (G7 (own:=["one"]) rfl (Gm (fr:=[("lists", 10)]) [(".0", .local),("one", .local),("_law_meets", .globalImplicit),("lists", .cell)] rfl rfl (by decide +kernel) rfl (by decide +kernel) ⟨rfl,trivial⟩ ⟨λh=>GQ h,λh=>GQ h,λh=>GQ h,λ_=>⟨_,rfl⟩,trivial⟩ ⟨⟨rfl,.inl rfl,.inl rfl⟩,trivial⟩) (Jv K (pv 4)) (λ_ _ _ _=>Gn (i:=0) (show List.Nodup (["one", "lists"]:List Str) by decide +kernel) rfl (Or.inl rfl)) (λ_ _ _ _=>G8 (Jh (@Gk _ _ _ _ _ _ _ _ _ _ _ _ _ _ _ _ cc (hr.mono (by decide)) rfl bZ bX.kp bY .nil Gz (@Ga _ _ _ _ _ (pv 0) (@Ga _ _ _ _ _ (pv 1) Gc rfl) rfl) (by decide) rfl rfl))) (λ_ _ _ _=>pv 0)) Gc rfl) (by decide) rfl rfl) rfl (by first | exact .inl rfl | exact .inr rfl))
    (@Gi _ _ _ (@Jl _ _ _ _ _ _ _ _ (Oa (Jh (@Gk _ _ _ _ _ _ _ _ _ _ _ _ _ _ _ _ aZ (hr.mono (by decide)) rfl aY aW.kp aX .nil Gz (@Ga _ _ _ _ _ (pv 5) (@Ga _ _ _ _ _ (pv 10) (@Ga _ _ _ _ _ (pv 9) Gc rfl) rfl) rfl) (by decide) rfl rfl))) (@Gi _ _ _ (@Gv _ _ _ _ Ow)) GC)))))))) (by intro _;rfl))
    (@Ge _ _ _ _ _ (@Gp _ _ 11 _ _ _ _ scLaw.nd rfl (Or.inr rfl) (@GN _ _ _ _ _ _ _ (Oz K) (@GW _ _ _ _ _ _ _ _ U9 (pv 4) (@Gr _ _ _ _ (@Ga _ _ _ _ _ (@Gr _ _ _ _ Gc) Gc rfl))) (@GW _ _ _ _ _ _ _ _ WA (Gw (YU K) rfl aC Yck (@Ga _ _ _ _ _ (pv 4) Gc rfl)) Gh) (λ_ _=>rfl)) rfl (by first | exact .inl rfl | exact .inr rfl))
    (@Ge _ _ _ _ _ (@Jl _ _ _ _ _ _ _ _ (Oa (Jh (@Gk _ _ _ _ _ _ _ _ _ _ _ _ _ _ _ _ aV (hr.mono (by decide)) rfl aU aS.kp aT .nil Gz (@Ga _ _ _ _ _ (pv 5) (@Ga _ _ _ _ _ (pv 11) (@Ga _ _ _ _ _ (@Gr _ _ _ _ Gc) (@Ga _ _ _ _ _ (@Gk _ _ _ _ _ _ _ _ _ _ _ _ _ _ _ _ a2 (hr.mono (by decide)) rfl a1 ay.kp az .nil Gz (@Ga _ _ _ _ _ (G7 (own:=["one"]) rfl (Gm (fr:=[("last", 11)]) [(".0", .local),("one", .local),("_law_has_all", .globalImplicit),("last", .cell)] rfl rfl (by decide +kernel) rfl (by decide +kernel) ⟨rfl,trivial⟩ ⟨λh=>GQ h,λh=>GQ h,λh=>GQ h,λ_=>⟨_,rfl⟩,trivial⟩ ⟨⟨rfl,.inl rfl,.inl rfl⟩,trivial⟩) (Jv K (pv 4)) (λ_ _ _ _=>Gn (i:=0) (show List.Nodup (["one", "last"]:List Str) by decide +kernel) rfl (Or.inl rfl)) (λ_ _ _ _=>G8 (Jh (@Gk _ _ _ _ _ _ _ _ _ _ _ _ _ _ _ _ bv (hr.mono (by decide)) rfl bu br.kp bt .nil Gz (@Ga _ _ _ _ _ (pv 0) (@Ga _ _ _ _ _ (pv 1) (@Ga _ _ _ _ _ (@Gr _ _ _ _ Gc) Gc rfl) rfl) rfl) (by decide) rfl rfl))) (λ_ _ _ _=>pv 0)) Gc rfl) (by decide) rfl rfl) Gc rfl) rfl) rfl) rfl) (by decide) rfl rfl))) (@Gi _ _ _ (@Gv _ _ _ _ Ow)) GC)
    (@Ge _ _ _ _ _ (@Jl _ _ _ _ _ _ _ _ (PW.pt (U1 (Oa (Jh (@Gk _ _ _ _ _ _ _ _ _ _ _ _ _ _ _ _ aV (hr.mono (by decide)) rfl aU aS.kp aT .nil Gz (@Ga _ _ _ _ _ (pv 5) (@Ga _ _ _ _ _ (@Gr _ _ _ _ Gc) (@Ga _ _ _ _ _ (@Gr _ _ _ _ Gc) (@Ga _ _ _ _ _ (pv 5) Gc rfl) rfl) rfl) rfl) (by decide) rfl rfl))) (OJ (Oa (Jh (@Gk _ _ _ _ _ _ _ _ _ _ _ _ _ _ _ _ aZ (hr.mono (by decide)) rfl aY aW.kp aX .nil Gz (@Ga _ _ _ _ _ (pv 5) (@Ga _ _ _ _ _ (@Gr _ _ _ _ Gc) (@Ga _ _ _ _ _ (pv 5) Gc rfl) rfl) rfl) (by decide) rfl rfl)))))) (@Gi _ _ _ (@Gv _ _ _ _ Ow)) GC)
    (@Gi _ _ _ (@Jl _ _ _ _ _ _ _ _ (Oa (Jh (@Gk _ _ _ _ _ _ _ _ _ _ _ _ _ _ _ _ aZ (hr.mono (by decide)) rfl aY aW.kp aX .nil Gz (@Ga _ _ _ _ _ (pv 5) (@Ga _ _ _ _ _ (@Gr _ _ _ _ (@Ga _ _ _ _ _ (@Gr _ _ _ _ Gc) Gc rfl)) (@Ga _ _ _ _ _ (@Jf _ _ _ _ _ (@Ga _ _ _ _ _ Gh (@Ga _ _ _ _ _ (@Gr _ _ _ _ Gc) Gc rfl) rfl)) Gc rfl) rfl) rfl) (by decide) rfl rfl))) (@Gi _ _ _ (@Gv _ _ _ _ Ow)) GC)))))))))) (by intro _;rfl))
    (@Gi _ _ _ (@Gv _ _ _ _ Ow))),?_⟩
  refine ⟨_,rfl,a,_,rfl,.inl hS,_,_,rfl,_,_,rfl,?_⟩;rw [Yab];refine ⟨_,rfl,by split <;> split <;> lia,by split <;> split <;> lia,?_⟩;refine Ob (lo:=0) (λi σ H'=>∃v1 v2 v3 v4 v5 v6 v7 v8 v9 aa ap:Option V,σ=[some (.ref a),v1,v2,v3,v4,v5,v6,v7,v8,v9,aa,ap]/\SameL4 tbL tbS tbH tbT H H'/\Tb4 tbL tbS tbH tbT H') ⟨none,none,none,none,none,none,none,none,none,none,none,rfl,λ_ _ _ _ _ _ e=>e,bz⟩ ?_ ?_
  ·rintro i σ Hs hi ⟨v1,v2,v3,v4,v5,v6,v7,v8,v9,aa,ap,rfl,b0,ci⟩;have c9:i<100:=by
    have:i<6:=by
     refine Yax hi ?_;split <;> split <;> lia
    lia
   rw [Int.zero_add];dsimp only [GY];refine ⟨_,rfl,_,rfl,a,ns,i,rfl,SqL.sameL4 hS b0 bz,by lia,λd H1 s1 b1 a4=>?_⟩;dsimp only [GY];refine ⟨_,rfl,d,2000,rfl,a4,by decide,λrl rs H2 k2 b2 ba bb=>?_⟩;have bc:=Ne.symm (a4.ne b2);dsimp only [GY];refine ⟨_,rfl,_,rfl,d,rl,2006,rs,rfl,k2.at_,by decide,bc,ba,bb,λsl ws H3 k3 b4 bd be b5 bf b6 cA=>?_⟩;have as:=bb.2.2.2;have Z:∀z∈ws,z.2.Pairwise (· < ·)/\z.2.length<=12/\∀x∈z.2,0<=x/\x<30:=λz B=>⟨(bf z B).1,by have:=(bf z B).len;lia,λx hx=>by have:=bb.2.1 x ((bf z B).2 x hx);lia⟩;dsimp only [GY];refine ⟨_,rfl,sl,ws,rfl,bd,be,by lia,Z,λtp l root xs ts H4 s4 cj hl T4 S4 F4 ar cB O=>?_⟩;dsimp only [GY];have K4:Pk H1 H4 d 2306:=(k2.trans k3).grow s4;have U:Dn d rl sl l ws:=⟨bc,Ne.symm (k2.at_.ne b4),λz B=>Ne.symm (k2.at_.ne (b5 z B)),Ne.symm (k3.at_.ne hl)⟩;have W0:W7 tbL tbS tbH tbT d rl sl tp l rs ws root xs ts 2306 Hs H4:=⟨b1,λb o _ _ _ _ e=>K4.keep b o (Gf e b1) (s1 _ _ e),(ci.same s1).pk K4 a4,K4.at_,s4 _ _ (k3.keep _ _ bc ba),s4 _ _ bd,be.same s4,T4⟩;have up:∀z∈ws,z.2.Pairwise (· < ·):=λz B=>(Z z B).1;have C4:=UZ S4 F4 ar;have SO:SiftOk ts root:=⟨S4,ar,ws.map (·.2),λs hs=>(O s).mp hs,λs hs=>by
    obtain ⟨z,B,rfl⟩:=Yam.mp hs;exact (Z z B).2.1,by rw [Yab];lia⟩
   clear K4 T4 s4 be bd k3 ba k2 a4 s1 cj hl b4 b2 b5 F4;refine GD (λσ' H'=>∃(v6 v7 v8 v9 aa:Option V)(c:Nat),c<=100000/\σ'=[some (.ref a),some (.int (i:Int)),some (.ref d),some (.ref rl),some (.ref sl),some (.ref tp),v6,v7,v8,v9,aa,ap]/\W7 tbL tbS tbH tbT d rl sl tp l rs ws root xs ts c Hs H') ?rest ?turns
   case turns=>
    intro hk;refine ⟨_,rfl,by decide,by decide,?_⟩;refine Ob (lo:=0) (n:=3) (λj σ H'=>∃(v6 v7 v8 v9 aa:Option V),σ=[some (.ref a),some (.int (i:Int)),some (.ref d),some (.ref rl),some (.ref sl),some (.ref tp),v6,v7,v8,v9,aa,ap]/\W7 tbL tbS tbH tbT d rl sl tp l rs ws root xs ts (2306+100 * j) Hs H') ⟨_,_,_,_,_,rfl,W0⟩ ?_ ?_
    ·clear W0;rintro j σ Hx hj ⟨v6,v7,v8,v9,aa,rfl,Wx⟩;dsimp only [GY];refine ⟨_,rfl,_,rfl,d,rl,_,rs,4,rfl,Wx.po,by lia,U.r,Wx.r,as,by decide,by decide,λso ss Ha ka b6 a5 c4=>?_⟩;have Wa:=Wx.pk U ka;have ck:=Ne.symm (Wx.po.ne b6);dsimp only [GY];refine ⟨_,rfl,_,rfl,d,rl,_,rs,4,rfl,Wa.po,by lia,U.r,Wa.r,as,by decide,by decide,λfo fs Hb kb cC b7 c5=>?_⟩;have Wb:=Wa.pk U kb
     replace a5:=kb.keep _ _ ck a5
     dsimp only [GY];refine ⟨_,rfl,sl,rfl,⟨_,SqL.of Wb.s⟩,λD hD=>?_⟩;refine GE (K:=K) (a:=sl) (xs:=ws.map λz=>V.ref z.1) (λj ys H'=>Same Hb H'/\H' D=some (.lst ys)/\ys=((ws.take j).filter (λz=>Xl z.2 ss fs)).map λz=>V.ref z.1) ⟨Same.new hD,Gb,rfl⟩ (by rintro j ys H' _ ⟨Y,_⟩;exact SqL.of (Y _ _ Wb.s)) ?_ ?_
     ·rintro j y ys H8 ad ⟨Y,eD,rfl⟩;rw [Yba] at ad;obtain ⟨z,B,rfl⟩:=Ybn.mp ad;have ae:=Yau B;have b8:=(Yaj.mp B).1;have ez:=Y _ _ (Wb.z z ae);refine ⟨⟨rfl,rfl,trivial⟩,?_⟩;refine ⟨_,rfl,_,rfl,_,rfl,z.1,so,fo,z.2,ss,fs,rfl,ez,Y _ _ a5,Y _ _ b7,by lia,by lia,λH9 s9=>⟨_,rfl,Ug (λe=>?_) (λe=>?_)⟩⟩
      ·exact ⟨_,rfl,s9 _ _ eD,XT (by lia),(Y.trans s9).put hD,Gb,by rw [Ov B,if_pos e,Yak];rfl⟩
      ·exact ⟨Y.trans s9,s9 _ _ eD,by rw [Ov B,if_neg e,Ybt]⟩
     rintro ys Hc ⟨sc,eD,rfl⟩;rw [Yab,Ybk] at eD;have Wc:=Wb.same U sc;have a6:(ws.filter (λz=>Xl z.2 ss fs)).length<=ws.length:=Ycr _ _;have L:∀z∈ws.filter (λz=>Xl z.2 ss fs),z∈ws:=λz B=>(Ybq.mp B).1;refine ⟨D,ws.filter (λz=>Xl z.2 ss fs),rfl,eD,λz B=>Wc.z z (L z B),by lia,λz B=>Z z (L z B),λtq lq rq xq au Hd sd a7 a8 Tq Sq Fq aq a9 ag=>?_⟩;have Wd:=Wc.same U sd;have Cq:=UZ Sq Fq aq;dsimp only [GY];refine ⟨_,rfl,_,rfl,_,rfl,_,rfl,tp,l,so,fo,tq,lq,root,rq,xs,xq,ts,au,ss,fs,rfl,Wd.t,SO,(sc.trans sd) _ _ a5,(sc.trans sd) _ _ b7,by lia,Tq,by lia,n4,Wd.tb,XV O up Cq (λs=>by rw [ag,XU (p:=λs=>Xl s ss fs)]),λHe se cm=>⟨_,rfl,J7 ?_⟩⟩;dsimp only [JV];have We:=Wd.far U se cm;clear Tq Sq Fq aq a9 ag Cq a7 a8 eD a6 L hD;refine ⟨_,rfl,d,_,5,rfl,We.po,by lia,by decide,Je,λr Hf a3 b3 kf=>⟨_,rfl,by lia,by lia,λll bg=>?_⟩⟩;have Wf:=We.pk U kf;have b9:=Wf.po.ne bg;refine O3 (lo:=0) (n:=r.toNat) (λi2 ys H'=>∃ls:List (Addr×List Int),ys=(ls.map λz=>V.ref z.1)/\Pk Hf H' d (2306+100 * j+13+6 * i2)/\H' ll=some (.lst ys)/\Lz H' ls/\(∀z∈ls,z.1≠d/\z.1≠ll)/\(∀z∈ls,z.2.length<=5)/\ls.length=i2) ⟨[],rfl,((Pk.start Wf.po).new bg).mono (by lia),Gb,λz B=>(by cases B),λz B=>(by cases B),λz B=>(by cases B),rfl⟩ ?_ ?_
     ·rintro i2 ys H' cD ⟨ls,rfl,kk,av,aA,aB,aw,bA⟩;have cE:i2<5:=by lia
      refine ⟨⟨rfl,rfl,trivial⟩,?_⟩;unfold Zbr;refine Ox ?_;refine ⟨_,rfl,_,rfl,d,rl,_,rs,5,rfl,kk.at_,by lia,U.r,kk.keep _ _ U.r Wf.r,as,by decide,by decide,λc0 cs cF bh ax bi cn=>?_⟩;have nc:c0≠d/\c0≠ll:=⟨Ne.symm (kk.at_.ne ax),λz=>by rw [z,av] at ax;cases ax⟩;refine ⟨bh.keep _ _ (Ne.symm b9) av,by rw [Yab];lia,ls++[(c0,cs)],by rw [Yak];rfl,((kk.trans bh).put bg b9).mono (by lia),Gb,λz B=>?_,λz B=>?_,λz B=>?_,by rw [Yag,bA];rfl⟩
      ·rcases Yah.mp B with h | h
       ·exact Gj (bh.keep _ _ (aB z h).1 (aA z h)) (aB z h).2
       ·rw [Yai.mp h];exact Gj bi nc.2
      ·rcases Yah.mp B with h | h
       ·exact aB z h
       ·rw [Yai.mp h];exact nc
      ·rcases Yah.mp B with h | h
       ·exact aw z h
       ·rw [Yai.mp h];exact cn
     rintro ys Hg ⟨ls,rfl,kg,av,aA,aB,aw,bA⟩;have Wg:=Wf.pk U kg;dsimp only [GY];refine ⟨_,rfl,sl,rfl,⟨_,SqL.of Wg.s⟩,λD hD=>?_⟩;refine GE (K:=K) (a:=sl) (xs:=ws.map λz=>V.ref z.1) (λj ys H'=>Same Hg H'/\H' D=some (.lst ys)/\ys=((ws.take j).filter (λz=>UY z.2 (ls.map (·.2)))).map λz=>V.ref z.1) ⟨Same.new hD,Gb,rfl⟩ (by rintro j ys H' _ ⟨Y,_⟩;exact SqL.of (Y _ _ Wg.s)) ?_ ?_
     ·rintro j y ys H8 ad ⟨Y,eD,rfl⟩;rw [Yba] at ad;obtain ⟨z,B,rfl⟩:=Ybn.mp ad;have ae:=Yau B;have b8:=(Yaj.mp B).1;have ez:=Y _ _ (Wg.z z ae);refine ⟨⟨rfl,trivial⟩,?_⟩;refine ⟨_,rfl,_,rfl,z.1,ll,z.2,ls,rfl,ez,Y _ _ av,aA.same Y,by lia,λy hy=>by have:=aw y hy;lia,λH9 s9=>⟨_,rfl,Ug (λe=>?_) (λe=>?_)⟩⟩
      ·exact ⟨_,rfl,s9 _ _ eD,XT (by lia),(Y.trans s9).put hD,Gb,by rw [Ov B,if_pos e,Yak];rfl⟩
      ·exact ⟨Y.trans s9,s9 _ _ eD,by rw [Ov B,if_neg e,Ybt]⟩
     rintro ys Hh ⟨sh,eD,rfl⟩;rw [Yab,Ybk] at eD;have Wh:=Wg.same U sh;have a6:(ws.filter (λz=>UY z.2 (ls.map (·.2)))).length<=ws.length:=Ycr _ _;have L:∀z∈ws.filter (λz=>UY z.2 (ls.map (·.2))),z∈ws:=λz B=>(Ybq.mp B).1;refine ⟨D,ws.filter (λz=>UY z.2 (ls.map (·.2))),rfl,eD,λz B=>Wh.z z (L z B),by lia,λz B=>Z z (L z B),λtq lq rq xq au Hi si a7 a8 Tq Sq Fq aq a9 ag=>?_⟩;have Wi:=Wh.same U si;have Cq:=UZ Sq Fq aq;dsimp only [GY];refine ⟨_,rfl,_,rfl,_,rfl,tp,l,ll,tq,lq,root,rq,xs,xq,ts,au,ls,rfl,Wi.t,SO,C4,by lia,(sh.trans si) _ _ av,aA.same (sh.trans si),by lia,Tq,by lia,n4,Wi.tb,XW O Cq (λs=>by rw [ag,XU (p:=λs=>UY s (ls.map (·.2)))]),λHj sj co=>⟨_,rfl,J7 ?_⟩⟩;dsimp only [JV];have Wj:=Wi.far U sj co;exact ⟨_,_,_,_,_,rfl,Wj.go U (λb o _ _ _ _ _ e=>e) Wj.tb (Wj.po.mono (by lia))⟩
    ·rintro σ Hy ⟨v6,v7,v8,v9,aa,rfl,Wy⟩;exact hk _ _ ⟨_,_,_,_,_,_,by decide,rfl,Wy⟩
   clear W0;rintro σ' Hk ⟨v6,v7,v8,v9,aa,c,hc,rfl,Wk⟩;refine ⟨_,rfl,Yan _,λe0 bB=>⟨(by show 1<=sizeLine;decide),λp0 bC=>?_⟩⟩;have sk:Same Hk (upd (upd Hk e0 (.lst [])) p0 (.lst [.ref e0])):=(Same.new bB).put ((Same.new bB).free bC);have bD:upd (upd Hk e0 (.lst [])) p0 (.lst [.ref e0]) e0=some (.lst (([]:List Int).map V.int)):=Gj Gb (Gf Gb bC);have bE:upd (upd Hk e0 (.lst [])) p0 (.lst [.ref e0]) p0=some (.lst [.ref e0]):=Gb;generalize upd (upd Hk e0 (.lst [])) p0 (.lst [.ref e0])=Hl at sk bD bE ⊢;have Wl:=Wk.same U sk;refine ⟨sl,p0,_,_,rfl,rfl,Wl.s,bE,by rw [Yab];show _+1<=_;lia,λc0 ax=>?_⟩;obtain ⟨Hm,q_,bF,bi⟩:=nwU (o:=.lst ((ws.map λz=>V.ref z.1)++[.ref e0])) ax;rw [q_];have Wm:=Wl.same U bF;have bG:∃(la:Addr)(ab:List Int),atI ((ws.map λz=>V.ref z.1)++[V.ref e0]) (((ws.map λz=>V.ref z.1).length:Int)-1)=some (.ref la)/\Hm la=some (.lst (ab.map V.int))/\ab.length<=12:=by
    by_cases hw:ws=[]
    ·subst hw;exact ⟨e0,[],rfl,bF _ _ bD,by decide⟩
    ·have h0:0<ws.length:=List.length_pos_iff.mpr hw;have hg:ws[ws.length-1]?=some ws[ws.length-1]:=Yap (by lia);have ae:=Yau hg;refine ⟨ws[ws.length-1].1,ws[ws.length-1].2,?_,Wm.z _ ae,(Z _ ae).2.1⟩;rw [Yab,show ((ws.length:Int)-1)=((ws.length-1:Nat):Int) by lia];exact Gq (by rw [Ybp (by rw [Yab];lia),Yba,hg];rfl)
   obtain ⟨la,ab,cp,bH,cG⟩:=bG;refine ⟨_,rfl,sl,_,rfl,.inl (SqL.of Wm.s),_,_,rfl,rfl,c0,_,_,_,rfl,rfl,SqL.of bi,cp,?_⟩;dsimp only [GY];refine ⟨_,rfl,_,rfl,Yan _,λn1 cq=>?_⟩;obtain ⟨Hq,q_,sq,bj⟩:=nwU (o:=.lst []) cq;have bj:Hq n1=some (.lst (([]:List Int).map V.int)):=bj;rw [q_];have Wq:=Wm.same U sq;have aD:=sq _ _ bH;refine ⟨_,rfl,sl,rfl,⟨_,SqL.of Wq.s⟩,λD hD=>?_⟩;refine GE (K:=K) (a:=sl) (xs:=ws.map λz=>V.ref z.1) (λj ys H'=>Same Hq H'/\H' D=some (.lst ys)/\ys=((ws.take j).filter (λz=>Xl z.2 ab [])).map λz=>V.ref z.1) ⟨Same.new hD,Gb,rfl⟩ (by rintro j ys H' _ ⟨Y,_⟩;exact SqL.of (Y _ _ Wq.s)) ?_ ?_
   ·rintro j y ys H8 ad ⟨Y,eD,rfl⟩;rw [Yba] at ad;obtain ⟨z,B,rfl⟩:=Ybn.mp ad;have ae:=Yau B;have b8:=(Yaj.mp B).1;have ez:=Y _ _ (Wq.z z ae);refine ⟨⟨rfl,trivial⟩,?_⟩;refine ⟨_,rfl,_,rfl,Yan _,λn0 cr=>?_⟩;obtain ⟨cu,q_,bl,bm⟩:=nwU (o:=.lst []) cr;have bm:cu n0=some (.lst (([]:List Int).map V.int)):=bm;rw [q_];refine ⟨z.1,la,n0,z.2,ab,[],rfl,bl _ _ ez,bl _ _ (Y _ _ aD),bm,by lia,by decide,λH9 cv=>?_⟩;have s9:=bl.trans cv;refine ⟨_,rfl,Ug (λe=>?_) (λe=>?_)⟩
    ·exact ⟨_,rfl,s9 _ _ eD,XT (by lia),(Y.trans s9).put hD,Gb,by rw [Ov B,if_pos e,Yak];rfl⟩
    ·exact ⟨Y.trans s9,s9 _ _ eD,by rw [Ov B,if_neg e,Ybt]⟩
   rintro ys Hr ⟨sr,eD,rfl⟩;rw [Yab,Ybk] at eD;have Wr:=Wq.same U sr;have a6:(ws.filter (λz=>Xl z.2 ab [])).length<=ws.length:=Ycr _ _;have L:∀z∈ws.filter (λz=>Xl z.2 ab []),z∈ws:=λz B=>(Ybq.mp B).1;refine ⟨D,ws.filter (λz=>Xl z.2 ab []),rfl,eD,λz B=>Wr.z z (L z B),by lia,λz B=>Z z (L z B),λtq lq rq xq au Ht st a7 a8 Tq Sq Fq aq a9 ag=>?_⟩;have Wt:=Wr.same U st;have Cq:=UZ Sq Fq aq;refine ⟨tp,l,la,n1,tq,lq,root,rq,xs,xq,ts,au,ab,[],rfl,Wt.t,SO,(sr.trans st) _ _ aD,(sr.trans st) _ _ bj,by lia,Tq,by lia,n4,Wt.tb,XV O up Cq (λs=>by rw [ag,XU (p:=λs=>Xl s ab [])]),λHu su cw=>⟨_,rfl,J7 ?_⟩⟩;dsimp only [JV];have Wu:=Wt.far U su cw;clear Tq Sq Fq aq a9 ag Cq a7 a8 eD a6 L hD;refine ⟨_,rfl,Yan _,λn2 cx=>?_⟩;obtain ⟨Hv,q_,z1,bn⟩:=nwU (o:=.lst []) cx;have bn:Hv n2=some (.lst (([]:List Int).map V.int)):=bn;rw [q_];refine ⟨Yan _,λn3 cy=>?_⟩;obtain ⟨Hw,q_,z2,bo⟩:=nwU (o:=.lst []) cy;have bo:Hw n3=some (.lst (([]:List Int).map V.int)):=bo;rw [q_];have Ww:=Wu.same U (z1.trans z2);refine ⟨_,rfl,tp,l,n2,n3,tp,l,root,root,xs,xs,ts,ts,[],[],rfl,Ww.t,SO,z2 _ _ bn,bo,by decide,Ww.t,by lia,n4,Ww.tb,XV O up C4 (λs=>by rw [O];simp [Xl]),λHy sy cz=>⟨_,rfl,J7 ?_⟩⟩;have Wy:=Ww.far U sy cz;refine ⟨_,rfl,Yan _,λn5 c1=>?_⟩;obtain ⟨Hz,q_,z3,bp⟩:=nwU (o:=.lst []) c1;have bp:Hz n5=some (.lst (([]:List (Addr×List Int)).map λz=>V.ref z.1)):=bp;rw [q_];have Wz:=Wy.same U z3;refine ⟨_,rfl,tp,l,n5,tp,l,root,root,xs,xs,ts,ts,[],rfl,Wz.t,SO,C4,by lia,bp,λz B=>(by cases B),by decide,Wz.t,by lia,n4,Wz.tb,XW O C4 (λs=>by rw [O];simp [UY]),λH5 s5 c2=>⟨_,rfl,J7 ?_⟩⟩;dsimp only [JV];have W5:=Wz.far U s5 c2;refine ⟨_,rfl,Yan _,λn6 bJ=>⟨(by show 1<=sizeLine;decide),λn7 bK=>?_⟩⟩;have z4:Same H5 (upd (upd H5 n6 (.lst [])) n7 (.lst [.ref n6])):=(Same.new bJ).put ((Same.new bJ).free bK);have bL:upd (upd H5 n6 (.lst [])) n7 (.lst [.ref n6]) n6=some (.lst (([]:List Int).map V.int)):=Gj Gb (Gf Gb bK);have bM:upd (upd H5 n6 (.lst [])) n7 (.lst [.ref n6]) n7=some (.lst ([(n6,([]:List Int))].map λz=>V.ref z.1)):=Gb;generalize upd (upd H5 n6 (.lst [])) n7 (.lst [.ref n6])=H6 at z4 bL bM ⊢;have W6:=W5.same U z4;refine ⟨Yan _,λn8 bN=>⟨JS,λn9 bO=>?_⟩⟩;have z5:Same H6 (upd (upd H6 n8 (.lst [])) n9 (.tup [.int 0,.ref n8])):=(Same.new bN).put ((Same.new bN).free bO);have To:TabAt (upd (upd H6 n8 (.lst [])) n9 (.tup [.int 0,.ref n8])) n9 n8 0 [] []:=⟨Gb,Gj Gb (Gf Gb bO),.nil⟩;generalize upd (upd H6 n8 (.lst [])) n9 (.tup [.int 0,.ref n8])=H7 at z5 To ⊢;have bq:=W6.same U z5;have bQ:At [] 0 (-1):=.inl rfl;refine ⟨tp,l,n7,n9,n8,root,0,xs,[],ts,[],[(n6,[])],rfl,bq.t,SO,C4,by lia,z5 _ _ bM,λz B=>by rw [Yai.mp B];exact z5 _ _ bL,by simp,To,by decide,n4,bq.tb,XW O (UZ ShOk.nil (YB bQ) bQ) (λs=>⟨λh=>absurd h Has.zero,λh=>by
    have h2:=Ych h.2;obtain ⟨_,_,h3⟩:=h2 [] (by simp);cases h3⟩),λH8 Y c3=>⟨_,rfl,J7 ?_⟩⟩
   have W8:=bq.far U Y c3;dsimp only [JV];exact ⟨_,_,_,_,_,_,_,_,_,_,_,rfl,b0.trans W8.kp,W8.tb⟩
  ·rintro σ H' ⟨v1,v2,v3,v4,v5,v6,v7,v8,v9,aa,ap,rfl,_,_⟩;exact q _
end
end M
section
open PySem PySem.W PyProof.Rows
noncomputable def M.rowP:Program:=PySem.Challenge.rw_onceways_k47_through_and_touching.prog
noncomputable def M.seenP:Program:={ M.rowP with main:={ M.rowP.main with body:=[1,2,4,5,6,7,8,9,10,12,13,14,15,16,17,18,20,21,22,23,24,25,26,27,28,29,30,31,32,33,34,35,36].filterMap (λi=>M.rowP.main.body[i]?) } }
noncomputable def M.loosely:List Str:=[]
noncomputable def M.hookX (s:Shared):Bool:=xlAt M.seenP [] s && recOk (RowW.records (OpenRow.toRowW PySem.Challenge.rw_onceways_k47_through_and_touching.row)) s
noncomputable def M.atBoot (w:World)(j:OsState):Shared:=⟨boot_heap w.params,Array.mk [],boot_drawn,boot_toks,j⟩
noncomputable def M.topOf (p:Program)(N:Nat)(w:World)(j:OsState):Option Shared:=topRun treeTable p w (M.atBoot w j).heap.objs.size ((M.atBoot w j).heap.nsMap mainGlobals "__annotations__") N (M.atBoot w j) (topStub p)
theorem M.top_run {p:Program}{N:Nat}{w:World}{j:OsState}{s:Shared}(h:topFrom treeTable p w N (M.atBoot w j)=some s):M.topOf p N w j=some s:=by
 unfold topFrom at h;split at h
 ·obtain ⟨B,h1,h2⟩:=Option.bind_eq_some_iff.mp h;split at h2
  ·cases h2;exact h1
  ·cases h2
 ·cases h
theorem M.left_boot {p q:Program}{j:List Str}{B:Shared->Bool}{α:Type}{D:Shared->α}{L:World->α}{N:Nat}(e:opening p=plainProg p.main.scope.names)(U:Nat.ble 600 N=true)(f:∀s,fenceModules? p s=some s)(Y:∀(w:World)(os:OsState),(topFrom treeTable p w N (M.atBoot w os)).isSome=true)(ha:∀(w:World)(os:OsState),(M.topOf p N w os).map (openSeen q j (importedModules p.main.body) B true)=some (openGood q j))(Z:∀(w:World)(os:OsState),(M.topOf p N w os).map D=some (L w)) :
  LeftO p q j B D L N:=λw=>by
 obtain ⟨⟨a,b,c,d,os⟩,e1,e2⟩:=Ybn.mp (boot_open e U f w);obtain ⟨rfl,rfl,rfl,rfl⟩:a=boot_heap w.params/\b=Array.mk []/\c=boot_drawn/\d=boot_toks:=by simpa using e2
 obtain ⟨s,O⟩:=Option.isSome_iff_exists.mp (Y w os);have h1:=ha w os;have h2:=Z w os;rw [M.top_run O] at h1 h2;unfold openEnds;rw [e1];show (topFrom treeTable p w N (M.atBoot w os)).map _=_;rw [O];simp only [Option.map_some,Option.some.injEq] at h1 h2 ⊢;rw [h1,h2]
set_option maxHeartbeats 0 in
theorem M.topA (w:World)(j:OsState):(M.topOf M.rowP 3194 w j).map (openSeen M.seenP M.loosely (importedModules M.rowP.main.body) M.hookX true)=some (openGood M.seenP M.loosely):=by
 unfold M.topOf;rw [W.Fast.te14082659384304107361,W.Fast.te14364793385576792824,W.Fast.te4187177175401517315];kernel_rfl
set_option maxHeartbeats 0 in
theorem M.topC (w:World)(j:OsState):(topFrom treeTable M.rowP w 3194 (M.atBoot w j)).isSome=true:=by
 unfold topFrom;rw [W.Fast.te14082659384304107361,W.Fast.te14364793385576792824];kernel_rfl
end
namespace M
open PySem L2
structure DefIs (K:W.Frag)(x:Str)(st:Stmt)(f:Addr)(cd:Value):Prop where
 a:W.nsIn K mainGlobals x=some (some (.ref f))
 l:∃(oc:Value)(od:Option Addr)(kV dc pm:Value)(an:Option Addr)(ct:Value)(sl:Array (Option Value)),K.lookup f=some ⟨oc,od,.func (W.fnOf x x (GX st) (Gx st) (Gg st) .none kV dc pm an cd ct),sl⟩
 c:W.codeIn K cd x=true
 k:W.keepIn K (.ref f)=true
theorem DefIs.fn {K:W.Frag}{x:Str}{st:Stmt}{f:Addr}{cd:Value}(d:DefIs K x st f cd):∃fd,Fun K x x st f fd/\fd.code=cd:=by
 obtain ⟨_,_,_,_,_,_,_,_,j⟩:=d.l;exact ⟨_,ZQ (st:=st) j d.c d.k,rfl⟩
theorem all_mk {l:W.OpenLaw}{w:World}{K:W.Frag}{h:Heap}{mg:Str->Option Value}{fa f1 f2 f3 f4 f5 f6 f7 f8 f9 f10 f11 f12 f13 f14 f15 f16 f17 f18 f19 f20 f21 f22 f23 f24 f25 f26 fL no C fI fU dT cD tD cS tS cO tO cT tT:Addr}{ocI kVI dcI pmI cdI ctI ocU kVU dcU pmU cdU ctU dtc ocL kVL dcL pmL cdL ctL g1 g3 g4 g5 g9 g10 g11 g12 g13 g14 g15 g16 g17 g18 g19 g20 g21 g22 g23 g24 g25 g26:Value}{odI anI odU anU dtd odL anL:Option Addr}{slI slU dts slL:Array (Option Value)}{dtn:Nat}{tN tW:Tok}{occD:Value}{odcD:Option Addr}{vsD:Array Value}{slcD:Array (Option Value)}{occS:Value}{odcS:Option Addr}{vsS:Array Value}{slcS:Array (Option Value)}{occO:Value}{odcO:Option Addr}{vsO:Array Value}{slcO:Array (Option Value)}{occT:Value}{odcT:Option Addr}{vsT:Array Value}{slcT:Array (Option Value)}(X:K.In h)(G:h.Ns mainGlobals mg)(hfa:mg "law" = some (.ref fa))(d1:DefIs K "parts_below" Ze2 f1 g1)(d2:DefIs K "laid_down" Zd9 f2 (.ref cD))(d3:DefIs K "found_from" Ze3 f3 g3)(d4:DefIs K "numbered" Ze4 f4 g4)(d5:DefIs K "least_table" Ze5 f5 g5)(d6:DefIs K "sifted" Zea f6 (.ref cS))(d7:DefIs K "having" Zeb f7 (.ref cO))(d8:DefIs K "touching" Zec f8 (.ref cT))(d9:DefIs K "check_size" Zgu f9 g9)(d10:DefIs K "through_roads" Zgv f10 g10)(d11:DefIs K "touching_all" Zgw f11 g11)(d12:DefIs K "_law_pool" Zgx f12 g12)(d13:DefIs K "_law_take" Zb6 f13 g13)(d14:DefIs K "_law_roads" Zgy f14 g14)(d15:DefIs K "_law_set" Zgz f15 g15)(d16:DefIs K "_law_turned" ZgA f16 g16)(d17:DefIs K "_law_once" Ze6 f17 g17)(d18:DefIs K "_law_family" ZgB f18 g18)(d19:DefIs K "_law_table" Ze7 f19 g19)(d20:DefIs K "_law_copied" Ze8 f20 g20)(d21:DefIs K "_law_just" Ze9 f21 g21)(d22:DefIs K "_law_list" ZgC f22 g22)(d23:DefIs K "_law_led" ZgD f23 g23)(d24:DefIs K "_law_touched" ZgE f24 g24)(d25:DefIs K "_law_has_all" ZgF f25 g25)(d26:DefIs K "_law_meets" ZgG f26 g26)(aL:W.nsIn K mainGlobals "law" = some (some (.ref fL)))(lL:K.lookup fL=some ⟨ocL,odL,.func (W.fnOf "law" "law" (GX Zb7) (Gx Zb7) (Gg Zb7) .none kVL dcL pmL anL cdL ctL),slL⟩)(cL:W.codeIn K cdL "law" = true)(kL:W.keepIn K (.ref fL)=true)(gno:W.nsIn K mainGlobals "TooMany" = some (some (.ref no)))(xex:ExcC K no)(kit:W.kitOne K (.type "int") (.type "tuple")=some false)(kit2:W.kitOne K (.type "tuple") (.type "int")=some false)(kib:W.kitOne K (.type "int") (.type "bool")=some false)(gMN:W.nsIn K mainGlobals "MOST_NODES" = some (some (.int 800 tN)))(gMW:W.nsIn K mainGlobals "MOST_ON_THE_WAY" = some (some (.int 8000 tW)))(aC:W.nsIn K mainGlobals "Shelf" = some (some (.ref C)))(aI:W.findIn K (.ref C) "__init__" = some (some (.ref fI)))(iI:W.isFn K (.ref fI)=true)(lI:K.lookup fI=some ⟨ocI,odI,.func (W.fnOf "__init__" "Shelf.__init__" (GX Zb8) (Gx Zb8) (Gg Zb8) (.ref dT) kVI dcI pmI anI cdI ctI),slI⟩)(cI:W.codeIn K cdI "Shelf.__init__" = true)(kI:W.keepIn K (.ref fI)=true)(aU:W.findIn K (.ref C) "put" = some (some (.ref fU)))(iU:W.isFn K (.ref fU)=true)(lU:K.lookup fU=some ⟨ocU,odU,.func (W.fnOf "put" "Shelf.put" (GX ZdK) (Gx ZdK) (Gg ZdK) .none kVU dcU pmU anU cdU ctU),slU⟩)(cU:W.codeIn K cdU "Shelf.put" = true)(kU:W.keepIn K (.ref fU)=true)(dTl:K.lookup dT=some ⟨dtc,dtd,.seq #[.none] dtn,dts⟩)(pg:W.plainGet K C Str.empty=true)(hd:W.hasDictIn K C=true)(po:W.plainOver K C=true)(sa:W.findIn K (.ref C) "__setattr__" = some (some (.builtin "object.__setattr__")))(mk:W.makesIn K C=true)(kc:W.keepIn K (.ref C)=true)(nM:W.findIn K (.ref C) "most" = some none)(nN:W.findIn K (.ref C) "nodes" = some none)(nP:W.findIn K (.ref C) "places" = some none)(lcD:K.lookup cD=some ⟨occD,odcD,.fields vsD,slcD⟩)(v11D:(vsD[11]?:Option Value)=some (.ref tD))(nTabD:K.lookup tD=none)(lcS:K.lookup cS=some ⟨occS,odcS,.fields vsS,slcS⟩)(v11S:(vsS[11]?:Option Value)=some (.ref tS))(nTabS:K.lookup tS=none)(lcO:K.lookup cO=some ⟨occO,odcO,.fields vsO,slcO⟩)(v11O:(vsO[11]?:Option Value)=some (.ref tO))(nTabO:K.lookup tO=none)(lcT:K.lookup cT=some ⟨occT,odcT,.fields vsT,slcT⟩)(v11T:(vsT[11]?:Option Value)=some (.ref tT))(nTabT:K.lookup tT=none)(n12:tD≠tS)(n13:tD≠tO)(n14:tD≠tT)(n23:tS≠tO)(n24:tS≠tT)(n34:tO≠tT)(nrange:W.nsIn K mainGlobals "range" = some none)(nlist:W.nsIn K mainGlobals "list" = some none)(nlen:W.nsIn K mainGlobals "len" = some none)(nint:W.nsIn K mainGlobals "int" = some none)(nmin:W.nsIn K mainGlobals "min" = some none)(nmax:W.nsIn K mainGlobals "max" = some none)(nsorted:W.nsIn K mainGlobals "sorted" = some none)(nbool:W.nsIn K mainGlobals "bool" = some none)(ntuple:W.nsIn K mainGlobals "tuple" = some none)(nisinstance:W.nsIn K mainGlobals "isinstance" = some none)(nenumerate:W.nsIn K mainGlobals "enumerate" = some none)(nset:W.nsIn K mainGlobals "set" = some none)
  : ∃(fd:FuncData)(c P c2 P2 c3 P3 c4 P4:Addr),W.tabIn K "laid_down" = some (c,P)/\K.lookup P=none/\W.tabIn K "sifted" = some (c2,P2)/\K.lookup P2=none/\W.tabIn K "having" = some (c3,P3)/\K.lookup P3=none/\W.tabIn K "touching" = some (c4,P4)/\K.lookup P4=none/\(P≠P2/\P≠P3/\P≠P4/\P2≠P3/\P2≠P4/\P3≠P4)/\(∀(s:Shared)(v:Value),BindsTo s fd ⟨[v],[]⟩ [("script", v)])/\∀base:Heap,K.In base->base.Ns mainGlobals mg->W.CodeHd base c P->base.BuiltinsAt mg P->W.CodeHd base c2 P2->base.BuiltinsAt mg P2->W.CodeHd base c3 P3->base.BuiltinsAt mg P3->W.CodeHd base c4 P4->base.BuiltinsAt mg P4->FnOk l.prog w K mg base CX0 10 fa fd ["script"] (Zcx K P P2 P3 P4):=by
 have e:=hfa.symm.trans (Ybb X G aL);cases e;obtain ⟨_,FPb,_⟩:=d1.fn;have bPb:=FPb.binds (ps:=["start", "parts"]) λ_ _ _ _ _ _ us hl=>by obtain ⟨_,_,rfl⟩:=YT hl;rfl
 have mPb:=Ybb X G d1.a;obtain ⟨_,FLd,cLd⟩:=d2.fn;have bLd:=FLd.binds (ps:=["start", "parts", "shelf"]) λ_ _ _ _ _ _ us hl=>by obtain ⟨_,_,_,rfl⟩:=Zbq hl;rfl
 have mLd:=Ybb X G d2.a;obtain ⟨_,FF,_⟩:=d3.fn;have bF:=FF.binds (ps:=["root", "nodes"]) λ_ _ _ _ _ _ us hl=>by obtain ⟨_,_,rfl⟩:=YT hl;rfl
 have mF:=Ybb X G d3.a;obtain ⟨_,FNu,_⟩:=d4.fn;have bNu:=FNu.binds (ps:=["root", "nodes"]) λ_ _ _ _ _ _ us hl=>by obtain ⟨_,_,rfl⟩:=YT hl;rfl
 have mNu:=Ybb X G d4.a;obtain ⟨_,FLt,_⟩:=d5.fn;have bLt:=FLt.binds (ps:=["start", "parts", "most"]) λ_ _ _ _ _ _ us hl=>by obtain ⟨_,_,_,rfl⟩:=Zbq hl;rfl
 have mLt:=Ybb X G d5.a;obtain ⟨_,FSi,cSi⟩:=d6.fn;have bSi:=FSi.binds (ps:=["table", "start", "after", "good", "most"]) λ_ _ _ _ _ _ us hl=>by obtain ⟨_,_,_,_,_,rfl⟩:=ZhN hl;rfl
 have mSi:=Ybb X G d6.a;obtain ⟨_,FHv,cHv⟩:=d7.fn;have bHv:=FHv.binds (ps:=["table", "roads", "off", "most"]) λ_ _ _ _ _ _ us hl=>by obtain ⟨_,_,_,_,rfl⟩:=Zgo hl;rfl
 have mHv:=Ybb X G d7.a;obtain ⟨_,FTc,cTc⟩:=d8.fn;have bTc:=FTc.binds (ps:=["table", "roads", "most"]) λ_ _ _ _ _ _ us hl=>by obtain ⟨_,_,_,rfl⟩:=Zbq hl;rfl
 have mTc:=Ybb X G d8.a;obtain ⟨_,FCk,_⟩:=d9.fn;have bCk:=FCk.binds (ps:=["table"]) λ_ _ _ _ _ _ us hl=>by obtain ⟨_,rfl⟩:=Zbp hl;rfl
 have mCk:=Ybb X G d9.a;obtain ⟨_,FTh,_⟩:=d10.fn;have bTh:=FTh.binds (ps:=["table", "roads", "off"]) λ_ _ _ _ _ _ us hl=>by obtain ⟨_,_,_,rfl⟩:=Zbq hl;rfl
 have mTh:=Ybb X G d10.a;obtain ⟨_,FTa,_⟩:=d11.fn;have bTa:=FTa.binds (ps:=["table", "lists"]) λ_ _ _ _ _ _ us hl=>by obtain ⟨_,_,rfl⟩:=YT hl;rfl
 have mTa:=Ybb X G d11.a;obtain ⟨_,FPo,_⟩:=d12.fn;have bPo:=FPo.binds (ps:=["script", "k"]) λ_ _ _ _ _ _ us hl=>by obtain ⟨_,_,rfl⟩:=YT hl;rfl
 have mPo:=Ybb X G d12.a;obtain ⟨_,FTk,_⟩:=d13.fn;have bTk:=FTk.binds (ps:=["pool", "many"]) λ_ _ _ _ _ _ us hl=>by obtain ⟨_,_,rfl⟩:=YT hl;rfl
 have mTk:=Ybb X G d13.a;obtain ⟨_,FRo,_⟩:=d14.fn;have bRo:=FRo.binds (ps:=["pool"]) λ_ _ _ _ _ _ us hl=>by obtain ⟨_,rfl⟩:=Zbp hl;rfl
 have mRo:=Ybb X G d14.a;obtain ⟨_,FSt,_⟩:=d15.fn;have bSt:=FSt.binds (ps:=["pool", "roads"]) λ_ _ _ _ _ _ us hl=>by obtain ⟨_,_,rfl⟩:=YT hl;rfl
 have mSt:=Ybb X G d15.a;obtain ⟨_,FTu,_⟩:=d16.fn;have bTu:=FTu.binds (ps:=["pool", "one", "roads"]) λ_ _ _ _ _ _ us hl=>by obtain ⟨_,_,_,rfl⟩:=Zbq hl;rfl
 have mTu:=Ybb X G d16.a;obtain ⟨_,FOc,_⟩:=d17.fn;have bOc:=FOc.binds (ps:=["sets"]) λ_ _ _ _ _ _ us hl=>by obtain ⟨_,rfl⟩:=Zbp hl;rfl
 have mOc:=Ybb X G d17.a;obtain ⟨_,FFa,_⟩:=d18.fn;have bFa:=FFa.binds (ps:=["pool", "roads"]) λ_ _ _ _ _ _ us hl=>by obtain ⟨_,_,rfl⟩:=YT hl;rfl
 have mFa:=Ybb X G d18.a;obtain ⟨_,FTb,_⟩:=d19.fn;have bTb:=FTb.binds (ps:=["sets"]) λ_ _ _ _ _ _ us hl=>by obtain ⟨_,rfl⟩:=Zbp hl;rfl
 have mTb:=Ybb X G d19.a;obtain ⟨_,FCp,_⟩:=d20.fn;have bCp:=FCp.binds (ps:=["table"]) λ_ _ _ _ _ _ us hl=>by obtain ⟨_,rfl⟩:=Zbp hl;rfl
 have mCp:=Ybb X G d20.a;obtain ⟨_,FJu,_⟩:=d21.fn;have bJu:=FJu.binds (ps:=["found", "due"]) λ_ _ _ _ _ _ us hl=>by obtain ⟨_,_,rfl⟩:=YT hl;rfl
 have mJu:=Ybb X G d21.a;obtain ⟨_,FLi,_⟩:=d22.fn;have bLi:=FLi.binds (ps:=["pool", "roads", "most"]) λ_ _ _ _ _ _ us hl=>by obtain ⟨_,_,_,rfl⟩:=Zbq hl;rfl
 have mLi:=Ybb X G d22.a;obtain ⟨_,FLe,_⟩:=d23.fn;have bLe:=FLe.binds (ps:=["table", "roads", "off", "due"]) λ_ _ _ _ _ _ us hl=>by obtain ⟨_,_,_,_,rfl⟩:=Zgo hl;rfl
 have mLe:=Ybb X G d23.a;obtain ⟨_,FTo,_⟩:=d24.fn;have bTo:=FTo.binds (ps:=["table", "lists", "due"]) λ_ _ _ _ _ _ us hl=>by obtain ⟨_,_,_,rfl⟩:=Zbq hl;rfl
 have mTo:=Ybb X G d24.a;obtain ⟨_,FHa,_⟩:=d25.fn;have bHa:=FHa.binds (ps:=["one", "roads", "off"]) λ_ _ _ _ _ _ us hl=>by obtain ⟨_,_,_,rfl⟩:=Zbq hl;rfl
 have mHa:=Ybb X G d25.a;obtain ⟨_,FMe,_⟩:=d26.fn;have bMe:=FMe.binds (ps:=["one", "lists"]) λ_ _ _ _ _ _ us hl=>by obtain ⟨_,_,rfl⟩:=YT hl;rfl
 have mMe:=Ybb X G d26.a;have FL:=ZQ (st:=Zb7) lL cL kL;have tTabD:W.tabIn K "laid_down" = some (cD,tD):=by
  obtain ⟨_,_,_,_,_,_,_,_,hl⟩:=d2.l;unfold W.tabIn;simp only [d2.a,hl,W.fnOf,lcD,v11D]
 have tTabS:W.tabIn K "sifted" = some (cS,tS):=by
  obtain ⟨_,_,_,_,_,_,_,_,hl⟩:=d6.l;unfold W.tabIn;simp only [d6.a,hl,W.fnOf,lcS,v11S]
 have tTabO:W.tabIn K "having" = some (cO,tO):=by
  obtain ⟨_,_,_,_,_,_,_,_,hl⟩:=d7.l;unfold W.tabIn;simp only [d7.a,hl,W.fnOf,lcO,v11O]
 have tTabT:W.tabIn K "touching" = some (cT,tT):=by
  obtain ⟨_,_,_,_,_,_,_,_,hl⟩:=d8.l;unfold W.tabIn;simp only [d8.a,hl,W.fnOf,lcT,v11T]
 refine ⟨W.fnOf "law" "law" (GX Zb7) (Gx Zb7) (Gg Zb7) .none kVL dcL pmL anL cdL ctL,cD,tD,cS,tS,cO,tO,cT,tT,tTabD,nTabD,tTabS,nTabS,tTabO,nTabO,tTabT,nTabT,⟨n12,n13,n14,n23,n24,n34⟩,λs v=>.of_eq rfl,λbase _ _ hCD hBlD hCS hBlS hCO hBlO hCT hBlT=>?_⟩;have TS:Zfa K mg C no:=⟨⟨pg,hd,po,sa⟩,nM,nN,nP,(Ybb X G aC)⟩;have FI:=Zdm (st:=Zb8) lI cI kI;have bI:Binds K _ ["self", "most"] []:=λs us X' hl=>match us,hl with | [_,_],_=>W.binds_K (fd:=W.fnOf "__init__" "Shelf.__init__" (GX Zb8) (Gx Zb8) (Gg Zb8) (.ref dT) kVI dcI pmI anI cdI ctI) X' rfl dTl rfl rfl rfl
 have FU:=ZQ (st:=ZdK) lU cU kU;have bU:=FU.binds (ps:=["self", "road", "low", "high"]) λ_ _ _ _ _ _ us hl=>by obtain ⟨_,_,_,_,rfl⟩:=Zgo hl;rfl
 have GI:=Zfc (P:=l.prog) (w:=w) (base:=base) FI TS;have GU:=Zfe (P:=l.prog) (w:=w) (base:=base) FU TS (Ybb X G gno) xex (Yav X G nlen);have GF:=Zfl (mg:=mg) (P:=l.prog) (w:=w) (base:=base) FF;have GNu:=Zfn (P:=l.prog) (w:=w) (base:=base) FNu FF bF mF GF (Yav X G nenumerate);have GLt:FnOk l.prog w K mg base (CXr l.prog w) 5 _ _ ["start", "parts", "most"] (Zft l.prog w K mg base 2 no tD):=FnOk.all (C:=CLt l.prog w K mg base 2) (sp:=λi=>ZdO (gkP l.prog w i.kd) i.pf i.Dom i.HF i.f no tD) λi ci=>Zfo (P:=l.prog) (w:=w) (base:=base) FLt ci.st TS ⟨mk,aI,iI,kc⟩ bI GI FLd bLd mLd (Zfj (P:=l.prog) (w:=w) (base:=base) FLd cLd hCD hBlD FPb bPb mPb (Zfg (P:=l.prog) (w:=w) (base:=base) FPb ci.st ci.fin ci.bi ci.ok ci.dom kit (Yav X G nisinstance) (Yav X G ntuple)) ZdH TS ⟨aU,iU,kU⟩ bU GU kit kit2 (Yav X G nisinstance) (Yav X G ntuple) (Yav X G nint) (Yav X G nsorted)) FNu bNu mNu GNu;have GSi:=Zfw (P:=l.prog) (w:=w) (base:=base) FSi cSi hCS hBlS FLt bLt mLt GLt;have GHv:=ZfU (P:=l.prog) (w:=w) (base:=base) FHv cHv hCO hBlO FSi bSi mSi GSi (Yav X G nlen) (Yav X G nset);have GTc:=ZfW (P:=l.prog) (w:=w) (base:=base) FTc cTc hCT hBlT FSi bSi mSi GSi;have GCk:=Zf0 (P:=l.prog) (w:=w) (base:=base) FCk (Ybb X G gMN) (Yav X G nlen);have GTh:=ZfY (P:=l.prog) (w:=w) (base:=base) (tbT:=tT) FTh (Ybb X G gMN) FHv bHv mHv GHv;have GTa:=Zf2 (P:=l.prog) (w:=w) (base:=base) (tbH:=tO) FTa (Ybb X G gMW) FTc bTc mTc GTc FCk bCk mCk GCk (Yav X G nlist);have GPo:=ZfA (P:=l.prog) (w:=w) (base:=base) FPo (Yav X G nlen);have GTk:=Vp (mg:=mg) (P:=l.prog) (w:=w) (base:=base) FTk;have GRo:=ZfD (P:=l.prog) (w:=w) (base:=base) FRo FTk bTk mTk (Yav X G nrange);have GFa:=Zf4 (P:=l.prog) (w:=w) (base:=base) FFa FTk bTk mTk FSt bSt mSt FTu bTu mTu FOc bOc mOc (Yav X G nrange) (Yav X G nlen) (Yav X G nint) (Yav X G nsorted);have GTb:=Zf8 (P:=l.prog) (w:=w) (base:=base) FTb FOc bOc mOc (Yav X G nlen) (Yav X G nmin) (Yav X G ntuple) (Yav X G nsorted);have GCp:=Zf9 (P:=l.prog) (w:=w) (base:=base) FCp (Yav X G nlist);have GJu:=Zga (P:=l.prog) (w:=w) (base:=base) FJu kib (Yav X G nisinstance) (Yav X G nlist) (Yav X G ntuple) (Yav X G nint) (Yav X G nbool);have GLi:=Zgc (P:=l.prog) (w:=w) (base:=base) FLi FTk bTk mTk (Yav X G nrange) (Yav X G nlen);have GHa:=Zge (mg:=mg) (P:=l.prog) (w:=w) (base:=base) FHa;have GMe:=Zgg (mg:=mg) (P:=l.prog) (w:=w) (base:=base) FMe;have GLe:=Zgi (P:=l.prog) (w:=w) (base:=base) FLe FCp bCp mCp GCp FJu bJu mJu GJu FTh bTh mTh GTh (Yav X G nrange) (Yav X G nlist);have GTo:=Zgk (P:=l.prog) (w:=w) (base:=base) FTo FCp bCp mCp GCp FJu bJu mJu GJu FTa bTa mTa GTa (Yav X G nrange) (Yav X G nlist);exact Zgl FL FPo bPo mPo GPo FRo bRo mRo GRo FFa bFa mFa GFa FTb bTb mTb GTb FTk bTk mTk GTk FLi bLi mLi GLi FHa bHa mHa GHa FMe bMe mMe GMe FLe bLe mLe GLe FTo bTo mTo GTo (Yav X G nrange) (Yav X G nlen) (Yav X G nmax) (Yav X G nmin)
theorem walk {l:W.OpenLaw}{q:Program}{j:List Str}{XP:(Str->Option Value)->Heap->Prop}{Z:World->Heap->Prop}{d dd de dg dh:DefRec}{K:Params->W.Frag}(hn:l.most=some 63)(U:d.params.defaults=[])(hY:∀(w:World)(h:Heap),Z w h->(K w.params).In h)(O:(PyProof.Rows.recsOf q).find? (λe=>e.name == Str.ofString "laid_down")=some dd)(B:(PyProof.Rows.recsOf q).find? (λe=>e.name == Str.ofString "sifted")=some de)(D:(PyProof.Rows.recsOf q).find? (λe=>e.name == Str.ofString "having")=some dg)(L:(PyProof.Rows.recsOf q).find? (λe=>e.name == Str.ofString "touching")=some dh)(F:∀(w:World)(mg:Str->Option Value)(fa:Addr)(h:Heap),(K w.params).In h->h.Ns mainGlobals mg->mg d.name=some (.ref fa)->∃(fd:FuncData)(c P c2 P2 c3 P3 c4 P4:Addr),W.tabIn (K w.params) "laid_down" = some (c,P)/\(K w.params).lookup P=none/\W.tabIn (K w.params) "sifted" = some (c2,P2)/\(K w.params).lookup P2=none/\W.tabIn (K w.params) "having" = some (c3,P3)/\(K w.params).lookup P3=none/\W.tabIn (K w.params) "touching" = some (c4,P4)/\(K w.params).lookup P4=none/\(P≠P2/\P≠P3/\P≠P4/\P2≠P3/\P2≠P4/\P3≠P4)/\(∀(s:Shared)(v:Value),BindsTo s fd ⟨[v],[]⟩ [("script", v)])/\∀base:Heap,(K w.params).In base->base.Ns mainGlobals mg->W.CodeHd base c P->base.BuiltinsAt mg P->W.CodeHd base c2 P2->base.BuiltinsAt mg P2->W.CodeHd base c3 P3->base.BuiltinsAt mg P3->W.CodeHd base c4 P4->base.BuiltinsAt mg P4->FnOk l.prog w (K w.params) mg base CX0 10 fa fd ["script"] (Zcx (K w.params) P P2 P3 P4)) :
  W.WalkO q j XP Z l.row.toRowW d [] (λf vs=>PySem.call f vs):=
 L2.walk_of4 (n:=63) (k:=10) (x := "script") (tn:=Str.ofString "laid_down") (tm:=Str.ofString "sifted") (to:=Str.ofString "having") (tp:=Str.ofString "touching") (CX:=λ_=>CX0) (sp:=λw P P2 P3 P4=>Zcx (K w.params) P P2 P3 P4) hn (by decide) U ⟨rfl,by decide,by decide⟩ hY O B D L F (λ_ P P2 P3 P4 _ a ns hl h1 h2 h3 h4 Y hS=>⟨a,ns,rfl,hS,hl,Y,h1,h2,h3,h4,λ_=>rfl⟩) λ_ _ _ _ _ z=>z
end M
open PySem PySem.W PyProof.Rows
local macro_rules
 | `(tactic| o_head $H)=>`(tactic| (
  refine @holds_open _ M.seenP M.loosely M.hookX (XL M.seenP []) _ (Hook.obs $H) (Hook.val $H) (Hook.says $H) _ _ 3194
   (@M.left_boot M.rowP M.seenP M.loosely M.hookX _ (Hook.obs $H) (Hook.val $H) 3194 ?b1 ?b2 ?b3 M.topC M.topA ?hl)
   (Hook.of $H) (Hook.keeps $H) ?h1 XL.keeps (by rfl) (by rfl) (by rfl) ?h5 ?h6 ?h7 ?h8 ?h9 ?hw ?hc
  (case h1=>exact λs e=>xl_of s (Bool.and_eq_true_iff.mp e).1)
  (case h5=>exact λs e=>recFacts_of (Bool.and_eq_true_iff.mp e).2)
  (case h6=>rfl)
  (case h7=>first | assumption | decide +kernel)
  (case h8=>decide +kernel)
  (case h9=>exact ⟨rfl,rfl,rfl,rfl,rfl,by decide +kernel⟩)
  (case b1=>kernel_rfl)
  (case b2=>decide)
  (case b3=>(intro s;kernel_rfl))
  (case hl=>(intro w os;unfold M.topOf;rw [W.Fast.te14082659384304107361,W.Fast.te14364793385576792824];kernel_rfl))))
set_option maxRecDepth 100000 in
set_option maxHeartbeats 0 in
theorem PySem.Challenge.cw_onceways_k47_through_and_touching_holds : PySem.Challenge.rw_onceways_k47_through_and_touching.Holds := by
 w_on;o_law;k_head;(case hw=>w_witness2)
 k_fill
 refine M.walk (l:=PySem.Challenge.rw_onceways_k47_through_and_touching) rfl rfl (λw h Y=>W.km_in_of Y) (by rfl) (by rfl) (by rfl) (by rfl) ?F
 case F=>
  intro w mg fa h KX G hmg
  refine' M.all_mk KX G hmg ?d1 ?d2 ?d3 ?d4 ?d5 ?d6 ?d7 ?d8 ?d9 ?d10 ?d11 ?d12 ?d13 ?d14 ?d15 ?d16 ?d17 ?d18 ?d19 ?d20 ?d21 ?d22 ?d23 ?d24 ?d25 ?d26 ?aL ?lL ?cL ?kL ?gno ?xex ?kit ?kit2 ?kib ?gMN ?gMW ?aC ?aI ?iI ?lI ?cI ?kI ?aU ?iU ?lU ?cU ?kU ?dTl ?pg ?hd ?po ?sa ?mk ?kc ?nM ?nN ?nP ?lcD ?v11D ?nTabD ?lcS ?v11S ?nTabS ?lcO ?v11O ?nTabO ?lcT ?v11T ?nTabT ?n12 ?n13 ?n14 ?n23 ?n24 ?n34 ?nrange ?nlist ?nlen ?nint ?nmin ?nmax ?nsorted ?nbool ?ntuple ?nisinstance ?nenumerate ?nset
  (case d1 | d2 | d3 | d4 | d5 | d6 | d7 | d8 | d9 | d10 | d11 | d12 | d13 | d14 | d15 | d16 | d17 | d18 | d19 | d20 | d21 | d22 | d23 | d24 | d25 | d26=>exact ⟨by k_is,⟨_,_,_,_,_,_,_,_,by k_is⟩,by k_is,by k_is⟩)
  (case aL | lL | cL | kL | gno=>k_is)
  (case xex=>(unfold L2.ExcC;k_exc))
  (case kit | kit2 | kib=>kit_is)
  (case gMN | gMW | aC | aI | iI | lI | cI | kI | aU | iU | lU | cU | kU | dTl | pg | hd | po | sa | mk | kc | nM | nN | nP | lcD=>k_is)
  (case v11D=>exact rfl)
  (case nTabD=>kernel_rfl)
  (case lcS=>k_is)
  (case v11S=>exact rfl)
  (case nTabS=>kernel_rfl)
  (case lcO=>k_is)
  (case v11O=>exact rfl)
  (case nTabO=>kernel_rfl)
  (case lcT=>k_is)
  (case v11T=>exact rfl)
  (case nTabT=>kernel_rfl)
  (case n12 | n13 | n14 | n23 | n24 | n34=>decide)
  (case nrange | nlist | nlen | nint | nmin | nmax | nsorted | nbool | ntuple | nisinstance | nenumerate | nset=>k_is)
#print axioms PySem.Challenge.cw_onceways_k47_through_and_touching_holds
