import PyProof.Rows.All
import Wide.All
import OpenK.AllK
import Wide.FinOn
import Lean
import PyProof.EqAt
import PyProof.EqKinds
import PyProof.TupleCall
import PyProof.SumAny
import PySem.Challenge.RW_onceways_k58_papers_told
set_option Elab.async false
set_option linter.all false
set_option maxRecDepth 100000
set_option maxHeartbeats 4000000
noncomputable abbrev LI:=List Int
noncomputable abbrev LW:=List PySem.Value
noncomputable abbrev Aa:=PySem.Value
noncomputable abbrev SS:=PySem.Shared
noncomputable abbrev PP:=PySem.Program
noncomputable abbrev Ab:=PySem.World
abbrev FG:=PySem.W.Frag
abbrev AD:=PySem.Addr
abbrev EX:=PySem.Value->PySem.Shared->Prop
section
open PySem PySem.Spec PyProof.Rows
theorem Yaa:type_of% @wpAny_bind:=@wpAny_bind
theorem Yab:type_of% @wpAny_pure:=@wpAny_pure
theorem Yac:type_of% @List.length_map:=@List.length_map
theorem Yad:type_of% @wpS_bind:=@wpS_bind
theorem Yae:type_of% @Nat.le_refl:=@Nat.le_refl
theorem Yaf:type_of% @wpS_pure:=@wpS_pure
theorem Yag:type_of% @Heap.lt_size:=@Heap.lt_size
theorem Yah:type_of% @Heap.get?_push_of_some:=@Heap.get?_push_of_some
theorem Yai:type_of% @List.mem_map:=@List.mem_map
theorem Yaj:type_of% @List.mem_singleton:=@List.mem_singleton
theorem Yak:type_of% @List.mem_append:=@List.mem_append
theorem Yal:type_of% @List.getElem?_eq_some_iff:=@List.getElem?_eq_some_iff
theorem Yam:type_of% @List.length_append:=@List.length_append
theorem Yan:type_of% @Array.length_toList:=@Array.length_toList
theorem Yao:type_of% @List.map_append:=@List.map_append
theorem Yap:type_of% @List.map_cons:=@List.map_cons
theorem Yaq:type_of% @Bool.false_ne_true:=@Bool.false_ne_true
theorem Yar:type_of% @Nat.ne_of_lt:=@Nat.ne_of_lt
theorem Yas:type_of% @List.size_toArray:=@List.size_toArray
theorem Yat:type_of% @W.mg_none_of:=@W.mg_none_of
theorem Yau:type_of% @decide_eq_true:=@decide_eq_true
theorem Yav:type_of% @List.mem_cons:=@List.mem_cons
theorem Yaw:type_of% @List.getElem?_eq_getElem:=@List.getElem?_eq_getElem
theorem Yax:type_of% @Nat.zero_le:=@Nat.zero_le
theorem Yay:type_of% @List.getElem?_map:=@List.getElem?_map
theorem Yaz:type_of% @List.mem_of_getElem?:=@List.mem_of_getElem?
theorem Yba:type_of% @Array.getElem?_toList:=@Array.getElem?_toList
theorem Ybb:type_of% @Heap.get?_push_size:=@Heap.get?_push_size
theorem Ybc:type_of% @List.length_singleton:=@List.length_singleton
theorem Ybd:type_of% @sizeLine_eq:=@sizeLine_eq
theorem Ybe:type_of% @Array.getElem?_eq_getElem:=@Array.getElem?_eq_getElem
theorem Ybf:type_of% @List.mem_cons_of_mem:=@List.mem_cons_of_mem
theorem Ybg:type_of% @congrArg:=@congrArg
theorem Ybh:type_of% @beq_iff_eq:=@beq_iff_eq
theorem Ybi:type_of% @W.mg_of:=@W.mg_of
theorem Ybj:type_of% @List.mem_cons_self:=@List.mem_cons_self
theorem Ybk:type_of% @Option.some.inj:=@Option.some.inj
theorem Ybl:type_of% @decide_eq_false:=@decide_eq_false
theorem Ybm:type_of% @Nat.lt_of_lt_of_le:=@Nat.lt_of_lt_of_le
theorem Ybn:type_of% @List.length_take:=@List.length_take
theorem Ybo:type_of% @List.length_cons:=@List.length_cons
theorem Ybp:type_of% @List.pairwise_map:=@List.pairwise_map
theorem Ybq:type_of% @PySem.boot_len:=@PySem.boot_len
theorem Ybr:type_of% @Nat.le_trans:=@Nat.le_trans
theorem Ybs:type_of% @wpAny_mono:=@wpAny_mono
theorem Ybt:type_of% @Option.map_eq_some_iff:=@Option.map_eq_some_iff
theorem Ybu:type_of% @List.take_length:=@List.take_length
theorem Ybv:type_of% @of_decide_eq_true:=@of_decide_eq_true
theorem Ybw:type_of% @List.append_assoc:=@List.append_assoc
theorem Ybx:type_of% @List.take_add_one:=@List.take_add_one
theorem Yby:type_of% @List.mem_append_right:=@List.mem_append_right
theorem Ybz:type_of% @Heap.size_push:=@Heap.size_push
theorem Yca:type_of% @List.getD_eq_getElem?_getD:=@List.getD_eq_getElem?_getD
theorem Ycb:type_of% @List.pairwise_append:=@List.pairwise_append
theorem Ycc:type_of% @List.mem_range:=@List.mem_range
theorem Ycd:type_of% @wpAny_holding:=@wpAny_holding
theorem Yce:type_of% @wpS_forRange:=@wpS_forRange
theorem Ycf:type_of% @PySem.F.plainAttrs_list:=@PySem.F.plainAttrs_list
theorem Ycg:type_of% @PassesOwn.never:=@PassesOwn.never
theorem Ych:type_of% @Nat.lt_irrefl:=@Nat.lt_irrefl
theorem Yci:type_of% @List.mem_filter:=@List.mem_filter
theorem Ycj:type_of% @if_false:=@if_false
theorem Yck:type_of% @List.getElem_of_mem:=@List.getElem_of_mem
theorem Ycl:type_of% @Bool.and_eq_true:=@Bool.and_eq_true
theorem Ycm:type_of% @Int.emod_nonneg:=@Int.emod_nonneg
theorem Ycn:type_of% @Int.emod_lt_of_pos:=@Int.emod_lt_of_pos
theorem Yco:type_of% @List.nodup_append:=@List.nodup_append
theorem Ycp:type_of% @Heap.get?_update_other:=@Heap.get?_update_other
theorem Ycq:type_of% @Array.size_push:=@Array.size_push
theorem Ycr:type_of% @wpS_modify:=@wpS_modify
theorem Ycs:type_of% @listItems_at:=@listItems_at
theorem Yct:type_of% @PySem.F.slot_list_append:=@PySem.F.slot_list_append
theorem Ycu:type_of% @PySem.F.type_list_append:=@PySem.F.type_list_append
theorem Ycv:type_of% @Paired.length:=@Paired.length
theorem Ycw:type_of% @Nat.le_of_lt:=@Nat.le_of_lt
theorem Ycx:type_of% @List.getElem?_append_left:=@List.getElem?_append_left
theorem Ycy:type_of% @wpAny_call_entry:=@wpAny_call_entry
theorem Ycz:type_of% @codeAny_builtin:=@codeAny_builtin
theorem Yda:type_of% @Nat.not_lt_zero:=@Nat.not_lt_zero
theorem Ydb:type_of% @List.Nodup.length_le_of_subset:=@List.Nodup.length_le_of_subset
theorem Ydc:type_of% @Array.toList_append:=@Array.toList_append
theorem Ydd:type_of% @W.kia_one:=@W.kia_one
theorem Yde:type_of% @Nat.le_succ:=@Nat.le_succ
theorem Ydf:type_of% @Int.toNat_natCast:=@Int.toNat_natCast
theorem Ydg:type_of% @List.length_range:=@List.length_range
theorem Ydh:type_of% @List.map_map:=@List.map_map
theorem Ydi:type_of% @wpAny_rule:=@wpAny_rule
theorem Ydj:type_of% @Nat.ne_of_gt:=@Nat.ne_of_gt
theorem Ydk:type_of% @List.mem_filterMap:=@List.mem_filterMap
theorem Ydl:type_of% @Bool.false_eq_true:=@Bool.false_eq_true
theorem Ydm:type_of% @Around.in1_units:=@Around.in1_units
theorem Ydn:type_of% @List.find?_cons:=@List.find?_cons
theorem Ydo:type_of% @Nat.zero_add:=@Nat.zero_add
theorem Ydp:type_of% @Nat.add_sub_cancel':=@Nat.add_sub_cancel'
theorem Ydq:type_of% @List.take_append_drop:=@List.take_append_drop
theorem Ydr:type_of% @List.mem_append_left:=@List.mem_append_left
theorem Yds:type_of% @wpAny_truthy_bool:=@wpAny_truthy_bool
theorem Ydt:type_of% @wpAny_newObj_type:=@wpAny_newObj_type
theorem Ydu:type_of% @PySem.mem_of_lookup:=@PySem.mem_of_lookup
theorem Ydv:type_of% @List.getElem?_append_right:=@List.getElem?_append_right
theorem Ydw:type_of% @Nat.lt_succ_of_lt:=@Nat.lt_succ_of_lt
theorem Ydx:type_of% @Around.under_plainId:=@Around.under_plainId
theorem Ydy:type_of% @beq_eq_false_iff_ne:=@beq_eq_false_iff_ne
theorem Ydz:type_of% @wpAny_typeOf:=@wpAny_typeOf
theorem Yea:type_of% @wpAny_attempt:=@wpAny_attempt
theorem Yeb:type_of% @List.nodup_nil:=@List.nodup_nil
theorem Yec:type_of% @List.pairwise_iff_getElem:=@List.pairwise_iff_getElem
theorem Yed:type_of% @plainId_quiet:=@plainId_quiet
theorem Yee:type_of% @Sum.inl.inj:=@Sum.inl.inj
theorem Yef:type_of% @List.append_nil:=@List.append_nil
theorem Yeg:type_of% @wpAny_Call_Name_kw:=@wpAny_Call_Name_kw
theorem Yeh:type_of% @Option.isSome_iff_exists:=@Option.isSome_iff_exists
theorem Yei:type_of% @List.length_drop:=@List.length_drop
theorem Yej:type_of% @List.pairwise_cons:=@List.pairwise_cons
theorem Yek:type_of% @Array.toList_push:=@Array.toList_push
theorem Yel:type_of% @wpAny_setState_of:=@wpAny_setState_of
theorem Yem:type_of% @Array.toList_reverse:=@Array.toList_reverse
theorem Yen:type_of% @List.filter_append:=@List.filter_append
theorem Yeo:type_of% @wpAny_passesOwn:=@wpAny_passesOwn
theorem Yep:type_of% @Bool.eq_false_iff:=@Bool.eq_false_iff
theorem Yeq:type_of% @Array.getD_eq_getD_getElem?:=@Array.getD_eq_getD_getElem?
theorem Yer:type_of% @List.getElem?_take:=@List.getElem?_take
theorem Yes:type_of% @List.getElem?_drop:=@List.getElem?_drop
theorem Yet:type_of% @Heap.SameBut.update:=@Heap.SameBut.update
theorem Yeu:type_of% @F.plain_min_loop:=@F.plain_min_loop
theorem Yev:type_of% @Nat.min_eq_left:=@Nat.min_eq_left
theorem Yew:type_of% @getElem?_mirror_all:=@getElem?_mirror_all
theorem Yex:type_of% @listUpdate_at:=@listUpdate_at
theorem Yey:type_of% @wpAny_newList:=@wpAny_newList
theorem Yez:type_of% @of_decide_eq_false:=@of_decide_eq_false
theorem Yfa:type_of% @PyProof.Rows.boot_sorted:=@PyProof.Rows.boot_sorted
theorem Yfb:type_of% @List.length_filter_le:=@List.length_filter_le
theorem Yfc:type_of% @List.filter_cons_of_pos:=@List.filter_cons_of_pos
theorem Yfd:type_of% @wpAny_callSpecial?_slot:=@wpAny_callSpecial?_slot
theorem Yfe:type_of% @beq_self_eq_true:=@beq_self_eq_true
theorem Yff:type_of% @Nat.lt_trichotomy:=@Nat.lt_trichotomy
theorem Yfg:type_of% @List.getElem?_cons_succ:=@List.getElem?_cons_succ
theorem Yfh:type_of% @Heap.get?_update_self:=@Heap.get?_update_self
theorem Yfi:type_of% @wpAny_isInstance:=@wpAny_isInstance
theorem Yfj:type_of% @Option.map_eq_none_iff:=@Option.map_eq_none_iff
theorem Yfk:type_of% @Array.toList_extract:=@Array.toList_extract
theorem Yfl:type_of% @List.extract_eq_take_drop:=@List.extract_eq_take_drop
theorem Yfm:type_of% @List.mem_iff_getElem?:=@List.mem_iff_getElem?
theorem Yfn:type_of% @Array.size_extract:=@Array.size_extract
theorem Yfo:type_of% @Array.toList_map:=@Array.toList_map
theorem Yfp:type_of% @List.filter_cons_of_neg:=@List.filter_cons_of_neg
theorem Yfq:type_of% @PyProof.Rows.callWith_type1:=@PyProof.Rows.callWith_type1
theorem Yfr:type_of% @List.Perm.append_left:=@List.Perm.append_left
theorem Yfs:type_of% @List.drop_eq_getElem_cons:=@List.drop_eq_getElem_cons
theorem Yft:type_of% @Array.getElem?_eq_none:=@Array.getElem?_eq_none
theorem Yfu:type_of% @Array.getElem?_eq_some_iff:=@Array.getElem?_eq_some_iff
theorem Yfv:type_of% @List.mem_of_mem_take:=@List.mem_of_mem_take
theorem Yfw:type_of% @List.take_of_length_le:=@List.take_of_length_le
theorem Yfx:type_of% @List.drop_of_length_le:=@List.drop_of_length_le
theorem Yfy:type_of% @PyProof.Rows.slot_tuple_getitem:=@PyProof.Rows.slot_tuple_getitem
theorem Yfz:type_of% @wpAny_typeNameOfWhole_keyiter:=@wpAny_typeNameOfWhole_keyiter
theorem Yga:type_of% @F.slot_dict_keyiterator_next:=@F.slot_dict_keyiterator_next
end
namespace L2
open PySem PySem.Spec PyProof.Rows
noncomputable abbrev Key:=Sum Int Str
noncomputable def YC:Key->Aa->Bool
 | .inl k,v=>Value.isInt k v
 | .inr x,v=>Value.isStrOf x v
noncomputable def Zh9 (w:Ab):Key->Int
 | .inl k=>hashInt k
 | .inr x=>hashStr w x
theorem GL:∀{k:Key}{v:Aa},YC k v=true->(∃i t,k=Sum.inl i/\v=Value.int i t)\/(∃x t,k=Sum.inr x/\v=Value.str x t)
 | .inl i,v,h=>by
  obtain ⟨t,e⟩:=Value.isInt_shape (k:=i) (v:=v) h;exact .inl ⟨i,t,rfl,e⟩
 | .inr x,v,h=>by
  obtain ⟨t,e⟩:=Value.isStrOf_shape (x:=x) (v:=v) h;exact .inr ⟨x,t,rfl,e⟩
theorem Zr (i:Int)(t:Tok):YC (.inl i) (.int i t)=true:=by simp [YC,Value.isInt]
theorem Zs (x:Str)(t:Tok):YC (.inr x) (.str x t)=true:=by simp [YC,Value.isStrOf]
theorem ZeJ (a b:Int):decide ((Sum.inl a:Key)=Sum.inl b)=(a == b):=by
 by_cases e:a=b
 ·subst e;simp
 ·have h:¬ (Sum.inl a:Key)=Sum.inl b:=λq=>e (Yee q);rw [Ybl h];exact (Ydy.mpr e).symm
theorem ZeK (a b:Str):decide ((Sum.inr a:Key)=Sum.inr b)=decide (a=b):=by
 by_cases e:a=b
 ·subst e;simp
 ·have h:¬ (Sum.inr a:Key)=Sum.inr b:=λq=>e (Sum.inr.inj q);rw [Ybl h,Ybl e]
theorem ZeL (a:Int)(b:Str):decide ((Sum.inl a:Key)=Sum.inr b)=false:=Ybl (λq=>nomatch q)
theorem ZeM (a:Str)(b:Int):decide ((Sum.inr a:Key)=Sum.inl b)=false:=Ybl (λq=>nomatch q)
noncomputable def G7 (prog:PP)(w:Ab):PySem.KeyKind prog w Key where
 is:=YC
 hash:=Zh9 w
 inj:=λv a b ha hb=>by
  rcases GL ha with ⟨i,t,rfl,rfl⟩ | ⟨x,t,rfl,rfl⟩
  ·rcases GL hb with ⟨j,u,rfl,e⟩ | ⟨y,u,rfl,e⟩
   ·injection e with e1 _;rw [e1]
   ·exact nomatch e
  ·rcases GL hb with ⟨j,u,rfl,e⟩ | ⟨y,u,rfl,e⟩
   ·exact nomatch e
   ·injection e with e1 _;rw [e1]
 byValue:=λk v h=>by
  rcases GL h with ⟨i,t,rfl,rfl⟩ | ⟨x,t,rfl,rfl⟩ <;> rfl
 pyHash:=λhv h=>by
  rcases GL hv with ⟨i,t,rfl,rfl⟩ | ⟨x,t,rfl,rfl⟩
  ·exact wpAny_pyHash_int h
  ·exact wpAny_pyHash_str h
 eqBool:=λhu hv h=>by
  rcases GL hu with ⟨i,t,rfl,rfl⟩ | ⟨x,t,rfl,rfl⟩
  ·rcases GL hv with ⟨j,u,rfl,rfl⟩ | ⟨y,u,rfl,rfl⟩
   ·rw [ZeJ] at h;exact wpAny_eqBool_int h
   ·rw [ZeL] at h;exact SeqAt.EqAt.int_str i t y u _ _ _ _ h
  ·rcases GL hv with ⟨j,u,rfl,rfl⟩ | ⟨y,u,rfl,rfl⟩
   ·rw [ZeM] at h;exact SeqAt.EqAt.str_int x t j u _ _ _ _ h
   ·rw [ZeK] at h;exact wpAny_eqBool_str h
 «strs»:=λk x t v h=>by
  rcases GL h with ⟨i,u,rfl,e⟩ | ⟨y,u,rfl,e⟩
  ·exact nomatch e
  ·injection e with e1 _
   subst e1;cases v <;> rfl
theorem Xe (prog:PP)(w:Ab)(i:Int)(t:Tok):(G7 prog w).is (.inl i) (.int i t)=true:=Zr i t
theorem Xf (prog:PP)(w:Ab)(x:Str)(t:Tok):(G7 prog w).is (.inr x) (.str x t)=true:=Zs x t
inductive V where
 | non | bl (b:Bool) | int (i:Int) | str (x:Str) | byt (b:Array UInt8) | flt (b:UInt64) | ref (a:AD) | ty (n:String)
 deriving DecidableEq
noncomputable def RelV:V->Aa->Prop
 | .non,u=>u=Value.none
 | .bl b,u=>u=Value.bool b
 | .int i,u=>∃t,u=Value.int i t
 | .str x,u=>∃t,u=Value.str x t
 | .byt b,u=>∃t,u=Value.bytes b t
 | .flt b,u=>∃t,u=Value.float b t
 | .ref a,u=>u=Value.ref a
 | .ty n,u=>u=Value.type n
noncomputable abbrev Vals:List V->LW->Prop:=Paired RelV
theorem Vals.length {xs:List V}{us:LW}(r:Vals xs us):xs.length=us.length:=Ycv r
theorem Vals.get:∀{xs:List V}{us:LW}{i:Nat}{x:V},Vals xs us->xs[i]?=some x->∃u,us[i]?=some u/\RelV x u
 | _,_,_,_,.nil,e=>by simp at e
 | _,_,0,_,.cons r _,e=>by simp at e;subst e;exact ⟨_,rfl,r⟩
 | _,_,i+1,x,.cons _ t,e=>by
  obtain ⟨u,h1,h2⟩:=Vals.get (i:=i) (x:=x) t (by simpa using e);exact ⟨u,by simpa using h1,h2⟩
theorem Vals.append (h:Vals xs us)(s:Vals ys j):Vals (xs++ys) (us++j):=by
 induction h with
 | nil=>exact s
 | cons r _ ih=>exact .cons r ih
theorem Vals.take:∀{xs:List V}{us:LW}(n:Nat),Vals xs us->Vals (xs.take n) (us.take n)
 | _,_,0,_=>.nil
 | _,_,_+1,.nil=>.nil
 | _,_,n+1,.cons r t=>.cons r (Vals.take n t)
theorem Vals.drop:∀{xs:List V}{us:LW}(n:Nat),Vals xs us->Vals (xs.drop n) (us.drop n)
 | _,_,0,r=>r
 | _,_,_+1,.nil=>.nil
 | _,_,n+1,.cons _ t=>Vals.drop n t
noncomputable def RelO:Option V->Option Aa->Prop
 | some v,some u=>RelV v u
 | none,none=>True
 | _,_=>False
noncomputable def KV {κ:Type}:List (κ×V)->List (κ×Aa)->Prop:=Paired λ(p:κ×V) (q:κ×Aa)=>p.1=q.1/\RelV p.2 q.2
noncomputable def kV:Key->V
 | .inl i=>.int i
 | .inr x=>.str x
inductive HO where
  | lst (xs:List V)
  | tup (xs:List V)
  | dK (kvs:List (Key×V)) | dT (kvs:List (List Key×V))
  | set (S:Int->Bool) (n:Nat)
  | ins (C dx:AD) (fs:List (Str×V))
  | own (x:AD)
  | xd (fs:List (Str×V))
  | met (f x:AD)
  | rng (lo hi:Int)
  | frz (o:Obj) (u:HO)
  | tbl (ps:Array Aa)
  | ext (φ:Heap->Prop)
noncomputable abbrev Hp:=AD->Option HO
noncomputable def upd (H:Hp)(a:AD)(o:HO):Hp:=λb=>if b=a then some o else H b
theorem Gb :upd H a o a=some o:=by unfold upd;rw [if_pos rfl]
theorem Gi (h:b≠a):upd H a o b=H b:=by unfold upd;rw [if_neg h]
theorem Ja {H:Hp}(h:H a=some o)(h':H b=some u)(d:o≠u):a≠b:=by
 intro e;subst e;rw [h] at h';exact d (Ybk h')
theorem Gh {H:Hp}(h:H a=some o)(h':H b=none):a≠b:=by
 intro e;subst e;rw [h] at h';cases h'
section
variable (P:PP)(w:Ab)
noncomputable def ObjOk (H:Hp)(h:Heap)(a:AD):HO->Prop
 | .lst xs=>xs.length<=sizeLine/\∃(its:LW)(n:Nat),Vals xs its/\h.get? a=some { cls:=.type "list", data:=.seq its.toArray n }
 | .tup xs=>xs.length<=sizeLine/\∃its:LW,Vals xs its/\IsTup h a its.toArray
 | .dK kvs=>kvs.length<=sizeLine/\(a == sysModules)=false/\∃vs,KV kvs vs/\h.DictOf (G7 P w) a vs
 | .dT kvs=>kvs.length<=sizeLine/\(a == sysModules)=false/\∃xs:List (List Key×AD×Aa),
   Paired (λ(p:List Key×V) (q:List Key×AD×Aa)=>p.1=q.1/\H q.2.1=some (.tup (p.1.map kV))/\RelV p.2 q.2.2) kvs xs /\
   ∃o es ep,h.get? a=some o/\o.ExactDict/\o.data=.dict es ep/\es.toList=xs.map (entryOfKey (tupleKind (G7 P w)))/\(xs.map (·.1)).Nodup
 | .set S n=>h.SetOf (intKind P w) a S n
 | .ins C dx fs=>H dx=some (.own a)/\fs.length<=1000/\dx≠a/\h.get? a=some (W.instObj C dx) /\
   ∃mA,h.Ns1 dx mA/\(∀f,RelO (fs.lookup f) (mA f))/\PySem.Within mA (fs.map (·.1))
 | .own _=>∃o,h.get? a=some o
 | .xd fs=>∃mA,h.Ns1 a mA/\∀f,RelO (fs.lookup f) (mA f)
 | .rng lo hi=>∃t u v,h.get? a=some { cls:=.type "range", data:=.fields #[.int lo t,.int hi u,.int 1 v] }
 | .frz o u=>h.get? a=some o/\ObjOk H h a u
 | .tbl ps=>h.get? a=some { cls:=.none,data:=.fields ps }
 | .met f x=>h.get? a=some (W.methodObj (.ref f) (.ref x))
 | .ext φ=>φ h/\(∃o,h.get? a=some o)/\∀h1 h2:Heap,φ h1->(∀o,h1.get? a=some o->h2.get? a=some o)->φ h2
noncomputable def HOk (H:Hp)(h:Heap):Prop:=∀a o,H a=some o->ObjOk P w H h a o
end
section
variable {P:PP}{w:Ab}{H H':Hp}{h h':Heap}{a:AD}{o:HO}
theorem ObjOk.lt (x:ObjOk P w H h a o):a<h.objs.size:=by
 cases o with
 | lst xs=>obtain ⟨_,_,_,_,e⟩:=x;exact Yag e
 | tup xs=>obtain ⟨_,_,_,p⟩:=x;exact p.lt
 | dK kvs=>obtain ⟨_,_,_,_,o,_,_,e,_⟩:=x;exact Yag e
 | dT kvs=>obtain ⟨_,_,_,_,o,_,_,e,_⟩:=x;exact Yag e
 | set S n=>obtain ⟨o,_,_,_,e,_⟩:=x;exact Yag e
 | ins C dx fs=>obtain ⟨_,_,_,e,_⟩:=x;exact Yag e
 | own y=>obtain ⟨_,e⟩:=x;exact Yag e
 | xd fs=>obtain ⟨_,⟨_,_,_,e,_⟩,_⟩:=x;exact Yag e
 | rng lo hi=>obtain ⟨_,_,_,e⟩:=x;exact Yag e
 | frz ob u=>obtain ⟨e,_⟩:=x;exact Yag e
 | tbl ps=>exact Yag (show h.get? a=some _ from x)
 | met f y=>exact Yag (show h.get? a=some _ from x)
 | ext φ=>obtain ⟨_,⟨_,e⟩,_⟩:=x;exact Yag e
theorem Paired.mapP {α β:Type}{F G:α->β->Prop}{l₁:List α}{l₂:List β}(h:Paired F l₁ l₂)(f:∀a b,F a b->G a b):Paired G l₁ l₂:=by
 induction h with
 | nil=>exact .nil
 | cons r _ ih=>exact .cons (f _ _ r) ih
theorem ObjOk.stay (x:ObjOk P w H h a o)(k:∀b u,(b=a\/H b=some (.own a))->h.get? b=some u->h'.get? b=some u)(D:∀b,H b=some (.own a)->H' b=some (.own a))(L:∀b xs,H b=some (.tup xs)->H' b=some (.tup xs)):ObjOk P w H' h' a o:=by
 induction o with
 | lst xs=>obtain ⟨z,its,n,r,e⟩:=x;exact ⟨z,its,n,r,k _ _ (.inl rfl) e⟩
 | tup xs=>obtain ⟨z,its,r,j,e,c⟩:=x;exact ⟨z,its,r,j,k _ _ (.inl rfl) e,c⟩
 | dK kvs=>obtain ⟨z,y,vs,r,j,es,ep,e,c⟩:=x;exact ⟨z,y,vs,r,j,es,ep,k _ _ (.inl rfl) e,c⟩
 | dT kvs=>
  obtain ⟨z,y,xs,r,j,es,ep,e,c⟩:=x;exact ⟨z,y,xs,Paired.mapP r λp q z=>⟨z.1,L _ _ z.2.1,z.2.2⟩,j,es,ep,k _ _ (.inl rfl) e,c⟩
 | set S n=>obtain ⟨j,es,ep,t,e,c⟩:=x;exact ⟨j,es,ep,t,k _ _ (.inl rfl) e,c⟩
 | ins C dx fs=>
  obtain ⟨d,z,N,e,mA,⟨B,es,ep,O,c⟩,r⟩:=x;exact ⟨D _ d,z,N,k _ _ (.inl rfl) e,mA,⟨B,es,ep,k _ _ (.inr d) O,c⟩,r⟩
 | own y=>obtain ⟨j,e⟩:=x;exact ⟨j,k _ _ (.inl rfl) e⟩
 | xd fs=>obtain ⟨mA,⟨B,es,ep,e,c⟩,r⟩:=x;exact ⟨mA,⟨B,es,ep,k _ _ (.inl rfl) e,c⟩,r⟩
 | rng lo hi=>obtain ⟨t,u,v,e⟩:=x;exact ⟨t,u,v,k _ _ (.inl rfl) e⟩
 | frz j u ih=>obtain ⟨e,q⟩:=x;exact ⟨k _ _ (.inl rfl) e,ih q⟩
 | tbl ps=>
  have e:h.get? a=some { cls:=.none,data:=.fields ps }:=x;show h'.get? a=some { cls:=.none,data:=.fields ps };exact k a _ (.inl rfl) e
 | met f y=>
  have e:h.get? a=some (W.methodObj (.ref f) (.ref y)):=x;show h'.get? a=some (W.methodObj (.ref f) (.ref y));exact k a _ (.inl rfl) e
 | ext φ=>obtain ⟨p,⟨o,e⟩,st⟩:=x;exact ⟨st _ _ p λo q=>k _ _ (.inl rfl) q,⟨o,k _ _ (.inl rfl) e⟩,st⟩
theorem HOk.lt (x:HOk P w H h)(e:H a=some o):a<h.objs.size:=(x a o e).lt
theorem HOk.fresh (x:HOk P w H h)(e:h.objs.size<=a):H a=none:=by
 cases q:H a with
 | none=>rfl
 | some u=>exact absurd (Ybm (x.lt q) e) (Ych _)
theorem HOk.kept (x:HOk P w H h)(k:∀b u,h.get? b=some u->h'.get? b=some u):HOk P w H h':=λa o e=>
 (x a o e).stay (λb u _ q=>k b u q) (λ_ q=>q) λ_ _ q=>q
theorem HOk.laid (x:HOk P w H h)(k:∀b u,h.get? b=some u->h'.get? b=some u)(D:h.objs.size<=a)(new:ObjOk P w (upd H a o) h' a o):HOk P w (upd H a o) h':=λb u e=>by
 have j:=x.fresh D;by_cases B:b=a
 ·subst B;rw [Gb] at e;cases e;exact new
 ·rw [Gi B] at e;exact (x b u e).stay (λc v _ q=>k c v q) (λc q=>by rw [Gi (Gh q j)];exact q) λc xs q=>by rw [Gi (Gh q j)];exact q
end
noncomputable def Rd (H:Hp)(a:AD)(u:HO):Prop:=H a=some u\/∃o,H a=some (.frz o u)
theorem Rd.ok (r:Rd H a u)(x:HOk P w H h):ObjOk P w H h a u:=by
 rcases r with r | ⟨o,r⟩
 ·exact x a u r
 ·obtain ⟨_,q⟩:=x a _ r;exact q
noncomputable def Mut:Option HO->Prop
 | some (.lst _)=>True
 | some (.dK _)=>True
 | some (.dT _)=>True
 | some (.set _ _)=>True
 | some (.ins _ _ _)=>True
 | some (.ext _)=>True
 | _=>False
section
variable {P:PP}{w:Ab}{H:Hp}{h h':Heap}{x e:AD}{o':HO}
theorem HOk.write (ok:HOk P w H h)(L:Mut (H x))(Y:e=x\/H e=some (.own x))(k:∀b u,b≠e->h.get? b=some u->h'.get? b=some u)(U:∃u,h'.get? e=some u)(new:ObjOk P w (upd H x o') h' x o'):HOk P w (upd H x o') h':=λb u q=>by
 have B:∀c y,H c=some (.own y)->c≠x:=λc y r z=>by subst z;rw [r] at L;exact L
 have D:∀c xs,H c=some (.tup xs)->c≠x:=λc xs r z=>by subst z;rw [r] at L;exact L
 by_cases N:b=x
 ·subst N;rw [Gb] at q;cases q;exact new
 ·rw [Gi N] at q;by_cases j:b=e
  ·have Z:H b=some (.own x):=by
    rcases Y with z | z
    ·exact absurd (j.trans z) N
    ·rw [j];exact z
   rw [q] at Z;cases Z;obtain ⟨v,hv⟩:=U;exact ⟨v,by rw [j];exact hv⟩
  ·refine (ok b u q).stay (λc v O r=>k c v ?_ r) (λc r=>by rw [Gi (B c b r)];exact r) λc xs r=>by rw [Gi (D c xs r)];exact r
   rcases O with rfl | O
   ·exact j
   ·rintro rfl;rcases Y with z | z
    ·exact B c b O z
    ·rw [O] at z;cases z;exact N rfl
end
structure Un (fs ex:List AD)(H H':Hp)(h h':Heap):Prop where
 keep:∀b o,h.get? b=some o->H b=none->b ∉ fs->b ∉ ex->h'.get? b=some o
 slot:∀b o,h.get? b=some o->H b=none->b∈fs->b ∉ ex->∃sl,h'.get? b=some { o with slots:=sl }
 free:∀b o,h.get? b=some o->H b=none->b ∉ ex->H' b=none
 there:∀b o,h.get? b=some o->b ∉ ex->∃o',h'.get? b=some o'
 tups:∀b xs,H b=some (.tup xs)->H' b=some (.tup xs)
 frzs:∀b o u,H b=some (.frz o u)->H' b=some (.frz o u)
 tbls:∀b ps,H b=some (.tbl ps)->∃more,H' b=some (.tbl (ps++more))
section
variable {fs fs' ex ex':List AD}{H H1 H2:Hp}{h h1 h2 h':Heap}{a x e:AD}{o:HO}
theorem Un.any (u:Un fs ex H H1 h h1)(q:h.get? b=some j)(n:H b=none)(B:b ∉ ex):∃sl,h1.get? b=some { j with slots:=sl }:=by
 by_cases D:b∈fs
 ·exact u.slot b j q n D B
 ·exact ⟨j.slots,u.keep b j q n D B⟩
theorem Un.trans (a:Un fs ex H H1 h h1)(b:Un fs ex H1 H2 h1 h2):Un fs ex H H2 h h2 where
 keep:=λc ob q n hc hx=>b.keep c ob (a.keep c ob q n hc hx) (a.free c ob q n hx) hc hx
 slot:=λc ob q n hc hx=>by
  obtain ⟨sl,e1⟩:=a.slot c ob q n hc hx;obtain ⟨sl',e2⟩:=b.slot c _ e1 (a.free c ob q n hx) hc hx;exact ⟨sl',e2⟩
 free:=λc ob q n hx=>by
  obtain ⟨o',e1⟩:=a.there c ob q hx;exact b.free c o' e1 (a.free c ob q n hx) hx
 there:=λc ob q hx=>by
  obtain ⟨o',e1⟩:=a.there c ob q hx;exact b.there c o' e1 hx
 tups:=λc xs q=>b.tups c xs (a.tups c xs q)
 frzs:=λc ob xs q=>b.frzs c ob xs (a.frzs c ob xs q)
 tbls:=λc ps q=>by
  obtain ⟨m1,e1⟩:=a.tbls c ps q;obtain ⟨m2,e2⟩:=b.tbls c _ e1;exact ⟨m1++m2,by rw [e2,Array.append_assoc]⟩
theorem Un.kept (k:∀b u,h.get? b=some u->h'.get? b=some u):Un fs ex H H h h':=
 ⟨λb j q _ _ _=>k b j q,λb j q _ _ _=>⟨j.slots,k b j q⟩,λ_ _ _ n _=>n,λb j q _=>⟨j,k b j q⟩,λ_ _ q=>q,λ_ _ _ q=>q,λ_ ps q=>⟨#[],by rw [q];simp⟩⟩
theorem Un.refl:Un fs ex H H h h:=Un.kept λ_ _ q=>q
theorem Un.laid (k:∀b u,h.get? b=some u->h'.get? b=some u)(hp:h.objs.size<=a)(hn:H a=none):Un fs ex H (upd H a o) h h' where
 keep:=λb u q _ _ _=>k b u q
 slot:=λb u q _ _ _=>⟨u.slots,k b u q⟩
 free:=λb u q n _=>by rw [Gi (Yar (Ybm (Yag q) hp))];exact n
 there:=λb u q _=>⟨u,k b u q⟩
 tups:=λb xs q=>by rw [Gi (Gh q hn)];exact q
 frzs:=λb u xs q=>by rw [Gi (Gh q hn)];exact q
 tbls:=λb ps q=>⟨#[],by rw [Gi (Gh q hn),q];simp⟩
theorem Un.write (B:Mut (H x))(U:e=x\/H e=some (.own x))(k:∀b u,b≠e->h.get? b=some u->h'.get? b=some u)(D:∃u,h'.get? e=some u):Un fs ex H (upd H x o) h h':=by
 have N:∀b,H b=none->b≠x:=λb n z=>by subst z;rw [n] at B;exact B
 have O:∀b,H b=none->b≠e:=λb n z=>by
  subst z;rcases U with r | r
  ·exact N b n r
  ·rw [n] at r;cases r
 have L:∀b u,H b=some u->¬ Mut (some u)->b≠x:=λb u q nm z=>by subst z;rw [q] at B;exact nm B
 refine ⟨λb u q n _ _=>k b u (O b n) q,λb u q n _ _=>⟨u.slots,k b u (O b n) q⟩,λb u q n _=>by rw [Gi (N b n)];exact n,λb u q _=>?_,
  λb xs q=>by rw [Gi (L b _ q λz=>z)];exact q,λb u xs q=>by rw [Gi (L b _ q λz=>z)];exact q,λb ps q=>⟨#[],by rw [Gi (L b _ q λz=>z),q];simp⟩⟩
 by_cases j:b=e
 ·subst j;exact D
 ·exact ⟨u,k b u j q⟩
theorem Un.mono (u:Un fs ex H H1 h h1)(L:∀b∈fs,b∈fs')(D:∀b∈ex,b∈ex'):Un fs' ex' H H1 h h1:=
 ⟨λb B q n N j=>u.keep b B q n (λz=>N (L b z)) λz=>j (D b z),λ_ _ q n _ j=>u.any q n λz=>j (D _ z),λb B q n j=>u.free b B q n λz=>j (D b z),λb B q j=>u.there b B q λz=>j (D b z),u.tups,u.frzs,u.tbls⟩
end
noncomputable def trk (h:Heap)(H:Hp):List AD:=(List.range h.objs.size).filter λa=>(H a).isSome
noncomputable def Zt (h:Heap)(H:Hp):Heap:=W.hideAll h (trk h H)
theorem Zu (h:Heap)(H:Hp):(Zt h H).objs.size=h.objs.size:=W.hideAll_size _ _
theorem ZbE (e:h.get? b=some o)(n:H b=none):(Zt h H).get? b=some o:=
 W.hideAll_get _ e λj=>by
  have q:(H b).isSome=true:=(Yci.mp j).2;rw [n] at q;simp at q
theorem Zdn (e:(Zt h H).get? b=some o):h.get? b=some o/\H b=none:=by
 have j:h.get? b=some o:=W.of_hideAll (trk h H) e;refine ⟨j,?_⟩;cases q:H b with
 | none=>rfl
 | some x=>
  have B:b∈trk h H:=Yci.mpr ⟨Ycc.mpr (Yag j),by simp [q]⟩;have z:(Zt h H).get? b=none:=W.hideAll_none (trk h H) B;rw [z] at e;cases e
structure Mod (K:FG)(mg:Str->Option Aa)(base:Heap):Prop where
 kin:K.In base
 glob:base.Ns mainGlobals mg
 blt:∃mb,base.Ns builtinsNs mb/\∀x:Str,x ≠ "__name__" -> mb x=bootBuiltins x
 nolimit:base.NoLimit
structure Cx where
 prog:PP
 w:Ab
 K:FG
 mg:Str->Option Aa
 base:Heap
 A:Around
 N:List Str
 s₀:SS
 H₀:Hp
 env:Env
 outer:List Env
 stack:List Env
 ex:List AD
 fn:Str->Bool
 calm:Bool
 pn:List (AD×Obj)
 xe:Aa->SS->Prop
noncomputable def frs (l:List Env):List AD:=l.filterMap (·.frame)
noncomputable abbrev Cx.fs (X:Cx):List AD:=frs X.outer
noncomputable def Vis (j:Scope)(x:Str):Prop:=j.names.lookup x=some .local\/j.names.lookup x=some .cell\/j.names.lookup x=some .free
noncomputable def Loc (j:Scope)(x:Str):Prop:=j.names.lookup x=some .local\/j.names.lookup x=some .cell
noncomputable def Zia (env:Env)(h:Heap)(m:Str->Option Aa)(x:Str)(u:Aa):Prop:=
 (env.kindOf x=some .local/\m x=some u)\/((env.kindOf x=some .cell\/env.kindOf x=some .free)/\∃c,env.cells.lookup x=some c/\h.IsCell c (some u))
structure Cx.Ok (X:Cx):Prop where
 mod:Mod X.K X.mg X.base
 kind:X.env.scope.kind=.function
 glob:X.env.globals=mainGlobals
 blt:X.env.builtins=builtinsNs
 above:X.s₀.heap.objs.size<=X.env.locals
 inj:∀x y c,X.env.cells.lookup x=some c->X.env.cells.lookup y=some c->x=y
 has:∀x,(X.env.kindOf x=some .cell\/X.env.kindOf x=some .free)->∃c,X.env.cells.lookup x=some c
 cab:∀x c,X.fn x=true->X.env.cells.lookup x=some c->X.s₀.heap.objs.size<=c
 hd:X.calm=true->X.A.handled=none
 frames:X.A.frames=some X.stack
 stk:X.stack=X.outer\/(X.stack=X.env::X.outer/\X.env.frame=some X.env.locals)
 exf:∀b∈X.ex,b≠X.env.locals/\∀x c,X.env.cells.lookup x=some c->c≠b
 bs:∀b o,X.base.get? b=some o->X.s₀.heap.get? b=some o/\X.H₀ b=none
 bsz:X.base.objs.size<=X.s₀.heap.objs.size
 noex:∀b o,X.base.get? b=some o->b ∉ X.ex
 exfs:∀b∈X.ex,b ∉ X.fs
 funs:X.s₀.heap.FunFrames X.base X.outer
 frf:∀b∈X.fs,X.H₀ b=none
structure Inv (X:Cx)(qQ:List (AD×Obj))(σ:List (Option V))(H:Hp)(s:SS):Prop where
 ok:X.Ok
 os:s.os=X.s₀.os
 bare:AllBare s.gens
 base:Un X.fs X.ex X.H₀ H X.s₀.heap s.heap
 loc:∃m,s.heap.Ns X.env.locals m/\∀(i:Nat)(x:Str)(v:V),X.N[i]?=some x->σ[i]?=some (some v)->Vis X.env.scope x->∃u,RelV v u/\Zia X.env s.heap m x u
 cell:∀x c,X.env.cells.lookup x=some c->∃v,s.heap.IsCell c v
 free:H X.env.locals=none
 freeC:∀x c,X.env.cells.lookup x=some c->H c=none
 pin:∀p∈X.pn++qQ,s.heap.get? p.1=some p.2/\H p.1=none/\p.1≠X.env.locals/\p.1 ∉ X.fs/\∀v,p.2.data≠.cell v
 hok:HOk X.prog X.w H s.heap
 len:σ.length=X.N.length
section
variable {X:Cx}{qQ:List (AD×Obj)}{σ:List (Option V)}{H H':Hp}{s:SS}{h':Heap}
theorem Cx.Ok.nofr (ok:X.Ok)(e:X.base.get? b=some o):b ∉ X.fs:=λj=>by
 have:=(ok.funs.mem j).1;rw [e] at this;cases this
theorem Inv.bs (I:Inv X qQ σ H s):∀b o,X.base.get? b=some o->s.heap.get? b=some o/\H b=none:=λb o e=>
 ⟨I.base.keep b o (I.ok.bs b o e).1 (I.ok.bs b o e).2 (I.ok.nofr e) (I.ok.noex b o e),I.base.free b o (I.ok.bs b o e).1 (I.ok.bs b o e).2 (I.ok.noex b o e)⟩
theorem Inv.bk (I:Inv X qQ σ H s):∀b o,X.base.get? b=some o->s.heap.get? b=some o:=λb o e=>(I.bs b o e).1
theorem Inv.mod (I:Inv X qQ σ H s):Mod X.K X.mg X.base:=I.ok.mod
theorem Inv.kIn (I:Inv X qQ σ H s):X.K.In s.heap:=I.ok.mod.kin.keeps I.bk
theorem Inv.lt (I:Inv X qQ σ H s):X.env.locals<s.heap.objs.size:=let ⟨_,hn,_⟩:=I.loc;hn.lt
theorem Inv.sz (I:Inv X qQ σ H s):X.s₀.heap.objs.size<=s.heap.objs.size:=Ybr I.ok.above (Ycw I.lt)
theorem Inv.nofs (I:Inv X qQ σ H s)(h:s.heap.objs.size<=a):a ∉ X.fs:=λj=>by
 obtain ⟨_,o,q,_⟩:=I.ok.funs.mem j;exact absurd (Ybm (Yag q) (Ybr I.sz h)) (Ych _)
theorem Inv.cne (I:Inv X qQ σ H s):∀x c,X.env.cells.lookup x=some c->c≠X.env.locals:=λx c e z=>by
 obtain ⟨v,o,B,D⟩:=I.cell x c e;obtain ⟨m,⟨o',es,ep,j,q,_⟩,_⟩:=I.loc;rw [z,j] at B;cases B;rw [q] at D;cases D
theorem Inv.funs (I:Inv X qQ σ H s):s.heap.FunFrames X.base X.outer:=by
 have all:∀(l:List Env),(∀b∈frs l,b∈X.fs)->X.s₀.heap.FunFrames X.base l->s.heap.FunFrames X.base l:=by
  intro l
  induction l with
  | nil=>intro _ _;trivial
  | cons env r ih=>
   intro D N;obtain ⟨O,⟨L,o,j,U,Y,Z⟩,hr⟩:=N;have q:L∈X.fs:=D L (by unfold frs;rw [List.filterMap_cons,j];exact Ybj);obtain ⟨sl,e⟩:=I.base.slot L o Y (I.ok.frf L q) q λz=>I.ok.exfs L z q;exact ⟨O,⟨L,_,j,U,e,Z⟩,ih (λb B=>D b (by unfold frs;rw [List.filterMap_cons,j];exact Ybf _ B)) hr⟩
 exact all X.outer (λ_ B=>B) I.ok.funs
theorem Inv.stack (I:Inv X qQ σ H s):s.heap.FunFrames X.base X.stack:=by
 rcases I.ok.stk with e | ⟨e,j⟩
 ·rw [e];exact I.funs
 ·rw [e];obtain ⟨m,q,_⟩:=I.loc;refine .cons (by rw [I.ok.kind];decide) j q ?_ I.funs;exact Heap.get?_none_of_le (Ybr I.ok.bsz I.ok.above)
theorem Inv.stkSub (I:Inv X qQ σ H s):∀b∈frs X.stack,b∈X.env.locals::X.fs:=λb j=>by
 rcases I.ok.stk with e | ⟨e,q⟩
 ·rw [e] at j;exact Ybf _ j
 ·rw [e] at j;unfold frs at j;rw [List.filterMap_cons,q] at j;exact j
theorem Inv.stkFree (I:Inv X qQ σ H s):∀b∈frs X.stack,H b=none:=λb j=>by
 rcases Yav.mp (I.stkSub b j) with e | j
 ·rw [e];exact I.free
 ·obtain ⟨_,o,q,_⟩:=I.ok.funs.mem j;exact I.base.free b o q (I.ok.frf b j) λz=>I.ok.exfs b z j
theorem Inv.step {ch:List AD}(I:Inv X qQ σ H s)(B:∀b∈ch,(b∈X.ex\/X.s₀.heap.objs.size<=b)/\b≠X.env.locals/\(∀x c,X.env.cells.lookup x=some c->c≠b)/\∀p∈X.pn++qQ,p.1≠b)(keep:∀b o,b≠X.env.locals->b ∉ X.fs->b ∉ ch->s.heap.get? b=some o->H b=none->h'.get? b=some o)(U:∀b o,b≠X.env.locals->b∈X.fs->b ∉ ch->s.heap.get? b=some o->H b=none->∃sl,h'.get? b=some { o with slots:=sl })(free:∀b o,b ∉ ch->s.heap.get? b=some o->H b=none->H' b=none)(there:∀b o,b ∉ ch->s.heap.get? b=some o->∃o',h'.get? b=some o')(aa:∀b xs,H b=some (.tup xs)->H' b=some (.tup xs))(ab:∀b o u,H b=some (.frz o u)->H' b=some (.frz o u))(ac:∀b ps,H b=some (.tbl ps)->∃more,H' b=some (.tbl (ps++more)))(ns:∀m,s.heap.Ns X.env.locals m->h'.Ns X.env.locals m)(ae:HOk X.prog X.w H' h')(hg:AllBare g') :
  Inv X qQ σ H' { s with heap:=h',gens:=g',drawn:=d',toks:=t' }:=by
 have ad:∀b o,X.s₀.heap.get? b=some o->b≠X.env.locals:=λb o e=>Yar (Ybm (Yag e) I.ok.above);have N:∀b o,X.s₀.heap.get? b=some o->b ∉ X.ex->b ∉ ch:=λb o e j Y=>by
  rcases (B b Y).1 with z | z
  ·exact j z
  ·exact absurd (Ybm (Yag e) z) (Ych _)
 have D:∀x c,X.env.cells.lookup x=some c->∀v,s.heap.IsCell c v->h'.IsCell c v:=λx c e v ⟨o,Z,hd⟩=>by
  have L:c ∉ ch:=λz=>(B c z).2.2.1 x c e rfl;by_cases hc:c∈X.fs
  ·obtain ⟨sl,q⟩:=U c o (I.cne x c e) hc L Z (I.freeC x c e);exact ⟨_,q,hd⟩
  ·exact ⟨o,keep c o (I.cne x c e) hc L Z (I.freeC x c e),hd⟩
 refine ⟨I.ok,I.os,hg,⟨λb o e n Y j=>?_,λb o e n Y j=>?_,λb o e n j=>?_,λb o e j=>?_,λb xs e=>aa b xs (I.base.tups b xs e),λb o xs e=>ab b o xs (I.base.frzs b o xs e),λb ps e=>?_⟩,?_,λx c e=>?_,?_,λx c e=>?_,λp hp=>?_,ae,I.len⟩
 ·exact keep b o (ad b o e) Y (N b o e j) (I.base.keep b o e n Y j) (I.base.free b o e n j)
 ·obtain ⟨sl,O⟩:=I.base.slot b o e n Y j;obtain ⟨af,e2⟩:=U b _ (ad b o e) Y (N b o e j) O (I.base.free b o e n j);exact ⟨af,e2⟩
 ·obtain ⟨o',O⟩:=I.base.there b o e j;exact free b o' (N b o e j) O (I.base.free b o e n j)
 ·obtain ⟨o',O⟩:=I.base.there b o e j;exact there b o' (N b o e j) O
 ·obtain ⟨m1,O⟩:=I.base.tbls b ps e;obtain ⟨m2,e2⟩:=ac b _ O;exact ⟨m1++m2,by rw [e2,Array.append_assoc]⟩
 ·obtain ⟨m,hn,hl⟩:=I.loc;refine ⟨m,ns m hn,λi x v O e2 e3=>?_⟩;obtain ⟨u,r,l⟩:=hl i x v O e2 e3;refine ⟨u,r,?_⟩;rcases l with l | ⟨k,c,e,z⟩
  ·exact .inl l
  ·exact .inr ⟨k,c,e,D x c e _ z⟩
 ·obtain ⟨v,z⟩:=I.cell x c e;exact ⟨v,D x c e v z⟩
 ·obtain ⟨m,⟨o,_,_,Z,_⟩,_⟩:=I.loc;exact free _ o (λz=>(B _ z).2.1 rfl) Z I.free
 ·obtain ⟨v,o,Z,hd⟩:=I.cell x c e;exact free c o (λz=>(B c z).2.2.1 x c e rfl) Z (I.freeC x c e)
 ·obtain ⟨e,n,ne,nf,d⟩:=I.pin p hp;have L:p.1 ∉ ch:=λz=>(B p.1 z).2.2.2 p hp rfl;exact ⟨keep p.1 p.2 ne nf L e n,free p.1 p.2 L e n,ne,nf,d⟩
theorem Inv.un (I:Inv X qQ σ H s)(u:Un X.fs [] H H' s.heap h')(q:HOk X.prog X.w H' h'):Inv X qQ σ H' { s with heap:=h',toks:=t' }:=by
 obtain ⟨m,⟨o,es,ep,N,r⟩,_⟩:=id I.loc;obtain ⟨sl,O⟩:=u.any N I.free (by simp);exact I.step (g':=s.gens) (d':=s.drawn) (ch:=[]) (λ_ z=>nomatch z) (λb o _ B _ e n=>u.keep b o e n B (by simp)) (λb o _ B _ e n=>u.slot b o e n B (by simp)) (λb o _ e n=>u.free b o e n (by simp)) (λb o _ e=>u.there b o e (by simp)) u.tups u.frzs u.tbls (λY U=>by
  obtain ⟨o',D,L,j,r'⟩:=U;rw [N] at j;cases j;exact ⟨_,D,L,O,r'⟩) q I.bare
theorem Inv.call (I:Inv X qQ σ H s)(u:Un (frs X.stack) ch H H' s.heap h')(D:HOk X.prog X.w H' h')(Y:AllBare g')(q:∀b∈ch,(b∈X.ex\/X.s₀.heap.objs.size<=b)/\b≠X.env.locals/\(∀x c,X.env.cells.lookup x=some c->c≠b)/\∀p∈X.pn++qQ,p.1≠b) :
  Inv X qQ σ H' { s with heap:=h',gens:=g',drawn:=d',toks:=t' }:=by
 obtain ⟨m,⟨o,es,ep,U,r⟩,_⟩:=id I.loc;obtain ⟨sl,L⟩:=u.any U I.free λz=>(q _ z).2.1 rfl;exact I.step (ch:=ch) q (λb o L Z j e n=>u.keep b o e n (λz=>(Yav.mp (I.stkSub b z)).elim L Z) j) (λb o _ _ j e n=>u.any e n j) (λb o j e n=>u.free b o e n j) (λb o j e=>u.there b o e j) u.tups u.frzs u.tbls (λm' hm=>by
  obtain ⟨o',N,O,B,r'⟩:=hm;rw [U] at B;cases B;exact ⟨_,N,O,L,r'⟩) D Y
theorem Inv.turned (I:Inv X qQ σ H s)(k:∀b o,b≠j->s.heap.get? b=some o->h'.get? b=some o)(N:H j=none)(L:j≠X.env.locals)(h1:j∈X.ex\/X.s₀.heap.objs.size<=j)(h2:∀x c,X.env.cells.lookup x=some c->c≠j)(O:∀p∈X.pn++qQ,p.1≠j):Inv X qQ σ H { s with heap:=h',toks:=t' }:=by
 have D:∀b u,H b=some u->b≠j:=λb u e z=>by rw [z,N] at e;cases e
 refine I.step (g':=s.gens) (d':=s.drawn) (ch:=[j]) (λb U=>?_) (λb o _ _ B e _=>k b o (λz=>B (by simp [z])) e) (λb o _ _ B e _=>⟨o.slots,k b o (λz=>B (by simp [z])) e⟩) (λ_ _ _ _ n=>n)
  (λb o B e=>⟨o,k b o (λz=>B (by simp [z])) e⟩) (λ_ _ e=>e) (λ_ _ _ e=>e) (λb ps e=>⟨#[],by rw [e];simp⟩) (λm Y=>?_) (λb u e=>?_) I.bare
 ·have e:b=j:=by simpa using U
  subst e;exact ⟨h1,L,h2,O⟩
 ·obtain ⟨o,es,ep,Z,r⟩:=Y;exact ⟨o,es,ep,k _ o (Ne.symm L) Z,r⟩
 ·refine (I.hok b u e).stay (λc v B q=>k c v ?_ q) (λ_ q=>q) λ_ _ q=>q;rcases B with z | z
  ·rw [z];exact D b u e
  ·exact D c _ z
theorem Inv.tok (I:Inv X qQ σ H s)(t:Nat):Inv X qQ σ H { s with toks:=t }:=I.un (h':=s.heap) (t':=t) Un.refl I.hok
theorem Inv.kept (I:Inv X qQ σ H s)(k:∀b u,s.heap.get? b=some u->h'.get? b=some u):Inv X qQ σ H { s with heap:=h',toks:=t' }:=I.un (Un.kept k) (I.hok.kept k)
theorem Inv.laid (I:Inv X qQ σ H s)(k:∀b u,s.heap.get? b=some u->h'.get? b=some u)(j:s.heap.objs.size<=a)(new:ObjOk X.prog X.w (upd H a o) h' a o) :
  Inv X qQ σ (upd H a o) { s with heap:=h',toks:=t' }:=I.un (Un.laid k j (I.hok.fresh j)) (I.hok.laid k j new)
theorem Inv.write (I:Inv X qQ σ H s)(q:Mut (H x))(B:e=x\/H e=some (.own x))(k:∀b u,b≠e->s.heap.get? b=some u->h'.get? b=some u)(j:∃u,h'.get? e=some u)(new:ObjOk X.prog X.w (upd H x o) h' x o):Inv X qQ σ (upd H x o) { s with heap:=h',toks:=t' }:=I.un (Un.write q B k j) (I.hok.write q B k j new)
theorem Inv.weak (I:Inv X qQ σ H s)(q:j.length=σ.length)(w:∀(i:Nat) v,j[i]?=some (some v)->σ[i]?=some (some v)):Inv X qQ j H s:=
 ⟨I.ok,I.os,I.bare,I.base,let ⟨m,hn,hl'⟩:=I.loc;⟨m,hn,λi x v B D L=>hl' i x v B (w i v D) L⟩,I.cell,I.free,I.freeC,I.pin,I.hok,q.trans I.len⟩
theorem Inv.pins_of (I:Inv X qQ σ H s)(h:∀p∈j,s.heap.get? p.1=some p.2/\H p.1=none/\p.1≠X.env.locals/\p.1 ∉ X.fs/\∀v,p.2.data≠.cell v):Inv X j σ H s:=
 ⟨I.ok,I.os,I.bare,I.base,I.loc,I.cell,I.free,I.freeC,λp q=>(Yak.mp q).elim (λz=>I.pin p (Ydr _ z)) (h p),I.hok,I.len⟩
theorem VF {N:List Str}(q:N.Nodup){i j:Nat}(a:N[i]?=some x)(b:N[j]?=some x):i=j:=by
 obtain ⟨h1,B⟩:=Yal.mp a;obtain ⟨h2,D⟩:=Yal.mp b;exact (List.getElem_inj q).mp (B.trans D.symm)
theorem Ws (I:Inv X qQ σ H s)(hN:X.N.Nodup)(hi:X.N[i]?=some x)(U:Loc X.env.scope x)(r:RelV v u)(h:∀s',Inv X qQ (σ.set i (some v)) H s'->(∃a,Heap.SameBut a s.heap s'.heap/\(a=X.env.locals\/X.env.cells.lookup x=some a))->Q () s')(hf:X.fn x=true\/X.env.scope.names.lookup x=some .local:=by first | exact .inl rfl | exact .inr rfl | assumption):wpAny M A (storeName X.env x u) Q E s:=by
 obtain ⟨m,hn,hl⟩:=id I.loc;have ab:(X.env.scope.kind == .class || (X.env.scope.kind == .module && X.env.locals != X.env.globals))=false:=by rw [I.ok.kind];rfl
 have ac:i<σ.length:=by rw [I.len];exact (Yal.mp hi).1
 have cne:=I.cne;have D:∀{a:AD}{h':Heap},(∃o,s.heap.get? a=some o/\H a=none)->Heap.SameBut a s.heap h'->HOk X.prog X.w H h':=λ{a h'} ha B b ob e=>by
  obtain ⟨_,_,Y⟩:=ha;refine (I.hok b ob e).stay (λc w' O q=>(B.2 c ?_).trans q) (λ_ q=>q) λ_ _ q=>q;rintro rfl;rcases O with rfl | O
  ·rw [Y] at e;cases e
  ·rw [Y] at O;cases O
 rcases U with hk | hk
 ·refine wpAny_storeName_local hk hn (λh' ah B=>?_) ab;obtain ⟨oL,_,_,ai,_⟩:=id hn;refine h _ ⟨I.ok,I.os,I.bare,⟨λb o e n hb U=>?_,λb o e n hb U=>?_,I.base.free,λb o e U=>?_,I.base.tups,I.base.frzs,I.base.tbls⟩,⟨_,ah,λj y v' L Z e3=>?_⟩,λy c e=>?_,I.free,I.freeC,λp hp=>?_,D ⟨oL,ai,I.free⟩ B,by simpa using I.len⟩ ⟨_,B,.inl rfl⟩
  ·exact (B.2 b (Yar (Ybm (Yag e) I.ok.above))).trans (I.base.keep b o e n hb U)
  ·obtain ⟨sl,L⟩:=I.base.slot b o e n hb U;exact ⟨sl,(B.2 b (Yar (Ybm (Yag e) I.ok.above))).trans L⟩
  ·obtain ⟨o',L⟩:=I.base.there b o e U;exact ⟨o',(B.2 b (Yar (Ybm (Yag e) I.ok.above))).trans L⟩
  ·by_cases hj:j=i
   ·subst hj;rw [hi] at L;cases L;rw [List.getElem?_set_self ac] at Z;cases Z;exact ⟨u,r,.inl ⟨hk,by simp⟩⟩
   ·rw [List.getElem?_set_ne (Ne.symm hj)] at Z;obtain ⟨u',r',q⟩:=hl j y v' L Z e3;refine ⟨u',r',?_⟩;rcases q with ⟨k,e⟩ | ⟨k,c,e,z⟩
    ·refine .inl ⟨k,?_⟩;have:y≠x:=λe=>hj (VF hN L (e▸hi));simp [this,e]
    ·exact .inr ⟨k,c,e,z.sameBut B (cne y c e)⟩
  ·obtain ⟨w',z⟩:=I.cell y c e;exact ⟨w',z.sameBut B (cne y c e)⟩
  ·obtain ⟨e,n,ne,nf,d⟩:=I.pin p hp;exact ⟨(B.2 p.1 ne).trans e,n,ne,nf,d⟩
 ·have aa:X.fn x=true:=by
   rcases hf with z | z
   ·exact z
   ·rw [z] at hk;cases hk
  obtain ⟨c,O⟩:=I.ok.has x (.inl hk);obtain ⟨w',z⟩:=I.cell x c O;refine wpAny_storeName_cell I.ok.kind hk O z (λh' ad B=>?_);obtain ⟨oc,ae,af⟩:=id z;refine h { s with heap:=h' } ⟨I.ok,I.os,I.bare,⟨λb o e n hb U=>?_,λb o e n hb U=>?_,I.base.free,λb o e U=>?_,I.base.tups,I.base.frzs,I.base.tbls⟩,⟨m,hn.sameBut B (Ne.symm (cne x c O)),λj y v' L Z e3=>?_⟩,λy c' e=>?_,I.free,I.freeC,λp hp=>?_,D ⟨oc,ae,I.freeC x c O⟩ B,by simpa using I.len⟩ ⟨c,B,.inr O⟩
  ·exact (B.2 b (Yar (Ybm (Yag e) (I.ok.cab x c aa O)))).trans (I.base.keep b o e n hb U)
  ·obtain ⟨sl,L⟩:=I.base.slot b o e n hb U;exact ⟨sl,(B.2 b (Yar (Ybm (Yag e) (I.ok.cab x c aa O)))).trans L⟩
  ·obtain ⟨o',L⟩:=I.base.there b o e U;exact ⟨o',(B.2 b (Yar (Ybm (Yag e) (I.ok.cab x c aa O)))).trans L⟩
  ·by_cases hj:j=i
   ·subst hj;rw [hi] at L;cases L;rw [List.getElem?_set_self ac] at Z;cases Z;exact ⟨u,r,.inr ⟨.inl hk,c,O,ad⟩⟩
   ·rw [List.getElem?_set_ne (Ne.symm hj)] at Z;obtain ⟨u',r',q⟩:=hl j y v' L Z e3;refine ⟨u',r',?_⟩;rcases q with q | ⟨k,c',e,z'⟩
    ·exact .inl q
    ·refine .inr ⟨k,c',e,z'.sameBut B ?_⟩;rintro rfl;exact hj (VF hN L (I.ok.inj _ _ _ e O▸hi))
  ·by_cases ag:c'=c
   ·subst ag;exact ⟨_,ad⟩
   ·obtain ⟨w2,z2⟩:=I.cell y c' e;exact ⟨w2,z2.sameBut B ag⟩
  ·obtain ⟨e,n,ne,nf,d⟩:=I.pin p hp;refine ⟨(B.2 p.1 ?_).trans e,n,ne,nf,d⟩;intro q;rw [q,ae] at e;have q':oc=p.2:=Ybk e;exact d w' (by rw [<-q'];exact af)
theorem OA (I:Inv X qQ σ H s)(j:X.N.Nodup)(hi:X.N[i]?=some x)(q:Loc X.env.scope x)(r:RelV v u)(h:∀s',Inv X qQ (σ.set i (some v)) H s'->Q () s')(B:X.fn x=true\/X.env.scope.names.lookup x=some .local:=by first | exact .inl rfl | exact .inr rfl | assumption):wpAny M A (storeName X.env x u) Q E s:=
 Ws I j hi q r (λs' D _=>h s' D) B
theorem Inv.call' (I:Inv X qQ σ H s)(B:s'.os=s.os)(u:Un (frs X.stack) ch H H' s.heap s'.heap)(j:HOk X.prog X.w H' s'.heap)(D:AllBare s'.gens)(q:∀b∈ch,(b∈X.ex\/X.s₀.heap.objs.size<=b)/\b≠X.env.locals/\(∀x c,X.env.cells.lookup x=some c->c≠b)/\∀p∈X.pn++qQ,p.1≠b):Inv X qQ σ H' s':=by
 obtain ⟨h',g',d',t',o'⟩:=s';have e:o'=s.os:=B;subst e;exact I.call (g':=g') (t':=t') (d':=d') u j D q
end
noncomputable abbrev XK:=Aa->Option AD->Hp->Prop
noncomputable abbrev St:=List (Option V)
noncomputable abbrev VK:=V->Hp->Prop
noncomputable abbrev TE:=St->Hp->VK->Prop
noncomputable abbrev TT:=St->Hp->(Bool->Hp->Prop)->Prop
noncomputable abbrev TA:=St->Hp->(List V->Hp->Prop)->Prop
structure Ut where
 nx:St->Hp->Prop
 rt:VK
 bk:St->Hp->Prop:=λ_ _=>False
 ct:St->Hp->Prop:=λ_ _=>False
noncomputable abbrev TS:=Ut->St->Hp->Prop
noncomputable def EP (X:Cx)(qQ:List (AD×Obj))(σ:St)(Q:VK)(u:Aa)(s':SS):Prop:=∃v H',Inv X qQ σ H' s'/\RelV v u/\Q v H'
noncomputable def TP (X:Cx)(qQ:List (AD×Obj))(σ:St)(Q:Bool->Hp->Prop)(b:Bool)(s':SS):Prop:=∃H',Inv X qQ σ H' s'/\Q b H'
noncomputable def AP (X:Cx)(qQ:List (AD×Obj))(σ:St)(Q:List V->Hp->Prop)(us:LW)(s':SS):Prop:=∃vs H',Inv X qQ σ H' s'/\Vals vs us/\Q vs H'
noncomputable def SP (X:Cx)(qQ:List (AD×Obj))(D:Ut)(f:Flow)(s':SS):Prop:=
 match f with
 | .next=>∃ j H',Inv X qQ j H' s'/\D.nx j H'
 | .brk=>∃ j H',Inv X qQ j H' s'/\D.bk j H'
 | .cont=>∃ j H',Inv X qQ j H' s'/\D.ct j H'
 | .ret u=>∃v j H',Inv X qQ j H' s'/\RelV v u/\D.rt v H'
noncomputable def PE (X:Cx)(e:Expr)(t:TE):Prop:=
 ∀(qQ:List (AD×Obj))(s:SS)(σ:St)(H:Hp)(Q:VK),Inv X qQ σ H s->t σ H Q->wpAny (model X.prog X.w) X.A (eval e X.env) (EP X qQ σ Q) X.xe s
noncomputable def PT (X:Cx)(e:Expr)(t:TT):Prop:=
 ∀(qQ:List (AD×Obj))(s:SS)(σ:St)(H:Hp)(Q:Bool->Hp->Prop),Inv X qQ σ H s->t σ H Q->wpAny (model X.prog X.w) X.A (isTrue e X.env (eval e X.env)) (TP X qQ σ Q) X.xe s
noncomputable def PW (X:Cx)(e:Expr)(t:TT):Prop:=
 ∀(j:Sem Aa)(qQ:List (AD×Obj))(s:SS)(σ:St)(H:Hp)(Q:Bool->Hp->Prop),Inv X qQ σ H s->t σ H Q->wpAny (model X.prog X.w) X.A (isTrue e X.env j) (TP X qQ σ Q) X.xe s
theorem PW.pt (h:PW X e t):PT X e t:=h _
noncomputable def PA (X:Cx)(es:List Expr)(t:TA):Prop:=
 ∀(pos:Pos)(qQ:List (AD×Obj))(s:SS)(σ:St)(H:Hp)(Q:List V->Hp->Prop),Inv X qQ σ H s->t σ H Q->wpAny (model X.prog X.w) X.A (spliced (backTo pos (starEach es X.env))) (AP X qQ σ Q) X.xe s
noncomputable def PS (X:Cx)(st:Stmt)(t:TS):Prop:=
 ∀(qQ:List (AD×Obj))(s:SS)(σ:St)(H:Hp)(D:Ut),Inv X qQ σ H s->t D σ H->wpAny (model X.prog X.w) X.A (exec st X.env) (SP X qQ D) X.xe s
noncomputable def PSs (X:Cx)(st:List Stmt)(t:TS):Prop:=
 ∀(qQ:List (AD×Obj))(s:SS)(σ:St)(H:Hp)(D:Ut),Inv X qQ σ H s->t D σ H->wpAny (model X.prog X.w) X.A (execs st X.env) (SP X qQ D) X.xe s
theorem thn {α:Type}{t:Sem α}{Q j:α->SS->Prop}(h:wpAny M A t Q E s)(q:∀a s,Q a s->j a s):wpAny M A t j E s:=Ybs h q λ_ _ x=>x
theorem thG {α β:Type}{t:Sem α}{J:Hp->SS->Prop}{R:β->α->Prop}{C:β->Hp->Prop}{j:α->SS->Prop}(h:wpAny M A t (λa s'=>∃v H',J H' s'/\R v a/\C v H') E s)(k:∀a s' v H',J H' s'->R v a->C v H'->j a s'):wpAny M A t j E s:=thn h λa s' h=>by
 obtain ⟨v,H',h1,h2,q⟩:=h;exact k a s' v H' h1 h2 q
theorem thT {α:Type}{t:Sem α}{J:Hp->SS->Prop}{C:α->Hp->Prop}{j:α->SS->Prop}(h:wpAny M A t (λa s'=>∃H',J H' s'/\C a H') E s)(k:∀a s' H',J H' s'->C a H'->j a s'):wpAny M A t j E s:=thn h λa s' h=>by
 obtain ⟨H',h1,q⟩:=h;exact k a s' H' h1 q
section
variable {X:Cx}
noncomputable def Zq (i:Nat):TE:=λσ H Q=>∃v,σ[i]?=some (some v)/\Q v H
noncomputable def tC (v:V):TE:=λ_ H Q=>Q v H
theorem ZeN (O:X.N[i]?=some x)(U:Vis X.env.scope x)(q:(x == ("__debug__" : Str))=false:=by decide)(B:(x == ("__classdict__" : Str))=false:=by decide):PE X (.Name x pos) (Zq i):=by
 intro qQ s σ H Q I h;obtain ⟨v,e,h⟩:=h;obtain ⟨m,Y,Z⟩:=I.loc;obtain ⟨u,r,l⟩:=Z i x v O e U;have fin:EP X qQ σ Q u s:=⟨v,H,I,r,h⟩;rcases l with ⟨j,hm⟩ | ⟨j,c,D,L⟩
 ·exact wpAny_Name (wpAny_loadName_local I.ok.kind j Y hm fin) q
 ·rcases j with j | j
  ·exact wpAny_Name (wpAny_loadName_cell I.ok.kind j D L fin) q
  ·exact wpAny_Name (wpAny_loadName_free I.ok.kind j D L fin B) q
theorem Gd {i j pos}:PE X (.Constant (.int i) j pos) (tC (.int i)):=λ_ _ _ H _ I h=>wpAny_Constant_int ⟨.int i,H,I.tok _,⟨_,rfl⟩,h⟩
theorem JM {b j pos}:PE X (.Constant (.bool b) j pos) (tC (.bl b)):=λ_ _ _ H _ I h=>Constant_bool ⟨.bl b,H,I,rfl,h⟩
theorem ZcL {j pos}:PE X (.Constant .none j pos) (tC .non):=λ_ _ _ H _ I h=>Constant_none ⟨.non,H,I,rfl,h⟩
theorem ZcM {x j pos}:PE X (.Constant (.str x) j pos) (tC (.str x)):=λ_ _ _ H _ I h=>Calls.Constant_str ⟨.str x,H,I.tok _,⟨_,rfl⟩,h⟩
noncomputable def Gl (X:Cx)(x:Str):Prop:=X.env.kindOf x=some .globalImplicit
theorem O4 (I:Inv X qQ σ H s)(j:Gl X x)(q:X.mg x=some u)(h:Q u s)(B:(x == ("__debug__" : Str))=false:=by decide):wpAny (model X.prog X.w) X.A (eval (.Name x pos) X.env) Q E s:=
 Calls.Name_function_global I.ok.kind j (Calls.loadGlobal_global (by rw [I.ok.glob];exact I.mod.glob.keeps I.bk) q h) B
theorem OB (I:Inv X qQ σ H s)(j:Gl X x)(q:X.mg x=none)(B:bootBuiltins x=some u)(h:Q u s)(D:x ≠ "__name__" := by decide)(L:(x == ("__debug__" : Str))=false:=by decide):wpAny (model X.prog X.w) X.A (eval (.Name x pos) X.env) Q E s:=by
 obtain ⟨N,h1,h2⟩:=I.mod.blt;exact Calls.Name_function_global I.ok.kind j (Calls.loadGlobal_builtin (by rw [I.ok.glob];exact I.mod.glob.keeps I.bk) q (by rw [I.ok.blt];exact h1.keeps I.bk) ((h2 x D).trans B) h) L
theorem Xg (j:Gl X x)(q:X.mg x=some u)(r:RelV v u)(B:(x == ("__debug__" : Str))=false:=by decide):PE X (.Name x pos) (tC v):=
 λ_ _ _ H _ I h=>O4 I j q ⟨v,H,I,r,h⟩ B
theorem Zdo (j:Gl X x)(q:X.mg x=none)(B:bootBuiltins x=some u)(r:RelV v u)(D:x ≠ "__name__" := by decide)(L:(x == ("__debug__" : Str))=false:=by decide):PE X (.Name x pos) (tC v):=
 λ_ _ _ H _ I h=>OB I j q B ⟨v,H,I,r,h⟩ D L
variable {a b:Expr}{ta tb:TE}{pos:Pos}
noncomputable def PC (X:Cx)(op:CmpOp)(a b:Expr)(t:TE):Prop:=
 ∀(qQ:List (AD×Obj))(s:SS)(σ:St)(H:Hp)(Q:VK),Inv X qQ σ H s->t σ H Q ->
  wpAny (model X.prog X.w) X.A (eval a X.env) (λv j=>wpAny (model X.prog X.w) X.A (eval b X.env) (λu q=>wpAny (model X.prog X.w) X.A (compareOp op v u) (EP X qQ σ Q) X.xe q) X.xe j) X.xe s
noncomputable def tB (t:TE):TT:=λσ H Q=>t σ H λx H1=>∃c,x=.bl c/\Q c H1
theorem XE (h:PC X op a b t)(h1:behindInMarks op b=false:=by first | exact nobehind _ (by decide) (by decide) | rfl):PT X (.Compare a [op] [b] pos) (tB t):=by
 intro qQ s σ H Q I j;refine wpAny_isTrue_Compare1 (thn (h qQ s σ H _ I j) λv N h1=>thn h1 λu O h2=>thn h2 λc U ⟨x,H1,B,D,L⟩=>?_) h1;obtain ⟨d,rfl,q⟩:=L;cases D;exact Yds ⟨H1,B,q⟩
theorem UF (h:PE X e t)(B:∀j,isTrue e X.env j=(do let v <- j;standAt e.pos;holding [v] (truthy v)):=by intro _;rfl):PT X e (tB t):=by
 intro qQ s σ H Q I D;refine isTrue_plain (thG (h qQ s σ H _ I D) λv U x H1 L N O=>?_) (B _);obtain ⟨d,rfl,q⟩:=O;cases N;exact Yds ⟨H1,L,q⟩
variable {tA tB':TT}{rest:List Expr}
noncomputable def Zib (t u:TT):TT:=λσ H Q=>t σ H λc H1=>if c=true then u σ H1 Q else Q false H1
noncomputable def tOr (t u:TT):TT:=λσ H Q=>t σ H λc H1=>if c=true then Q true H1 else u σ H1 Q
noncomputable def Zic (t:TT):TT:=λσ H Q=>t σ H λc H1=>Q (!c) H1
theorem VG (ha:PT X a tA):PW X (.BoolOp .And [a] pos) tA:=by
 intro j qQ s σ H Q I h;refine isTrue_and (thn (ha qQ s σ H Q I h) λc q e=>?_);cases c with
 | true=>exact isTrue_and_nil e
 | false=>exact e
theorem XF (ha:PT X a tA):PW X (.BoolOp .Or [a] pos) tA:=by
 intro j qQ s σ H Q I h;refine isTrue_or (thn (ha qQ s σ H Q I h) λc q e=>?_);cases c with
 | false=>exact isTrue_or_nil e
 | true=>exact e
theorem XG (ha:PT X a tA)(B:PW X (.BoolOp .And (b::rest) pos) tB'):PW X (.BoolOp .And (a::b::rest) pos) (Zib tA tB'):=by
 intro D qQ s σ H Q I h;refine isTrue_and (thT (ha qQ s σ H _ I h) λc L H1 j q=>?_);cases c with
 | true=>exact B D qQ L σ H1 Q j q
 | false=>exact ⟨H1,j,q⟩
theorem ZbF (ha:PT X a tA)(B:PW X (.BoolOp .Or (b::rest) pos) tB'):PW X (.BoolOp .Or (a::b::rest) pos) (tOr tA tB'):=by
 intro D qQ s σ H Q I h;refine isTrue_or (thT (ha qQ s σ H _ I h) λc L H1 j q=>?_);cases c with
 | true=>exact ⟨H1,j,q⟩
 | false=>exact B D qQ L σ H1 Q j q
theorem XH (ha:PT X a tA):PT X (.UnaryOp .Not a pos) (Zic tA):=by
 intro qQ s σ H Q I h;exact isTrue_not (ha qQ s σ H (λc H1=>Q (!c) H1) I h)
noncomputable def Zg6 (ta tb:TE):TE:=λσ H Q=>ta σ H λx H1=>∃c,x=.bl c/\if c=true then tb σ H1 Q else Q (.bl false) H1
noncomputable def Zg7 (ta:TE):TE:=λσ H Q=>ta σ H λx H1=>∃c,x=.bl c/\Q (.bl (!c)) H1
theorem ZcN {op}(h:PE X a t):PE X (.BoolOp op [a] pos) t:=λqQ s σ H Q I j=>BoolOp_one (h qQ s σ H Q I j)
theorem ZcO (ha:PE X a ta)(B:PE X (.BoolOp .And (b::rest) pos) tb):PE X (.BoolOp .And (a::b::rest) pos) (Zg6 ta tb):=by
 intro qQ s σ H Q I h;refine BoolOp_and (thG (ha qQ s σ H _ I h) λv D x H1 q L j=>?_);obtain ⟨c,rfl,j⟩:=j;cases L;refine Yds ?_;cases c with
 | true=>exact B qQ D σ H1 Q q j
 | false=>exact ⟨.bl false,H1,q,rfl,j⟩
theorem ZeO (ha:PE X a ta):PE X (.UnaryOp .Not a pos) (Zg7 ta):=by
 intro qQ s σ H Q I h;refine UnaryOp_ (thG (ha qQ s σ H _ I h) λv D x H1 q B j=>?_);obtain ⟨c,rfl,j⟩:=j;cases B;exact not_of (Yds ⟨.bl (!c),H1,q,rfl,j⟩)
end
noncomputable def SqL (K:FG)(H:Hp)(a:AD)(xs:List V):Prop:=
 Rd H a (.lst xs) \/
  ∃(o:Obj)(its:Array Aa)(n:Nat),K.lookup a=some o/\o.cls=.type "list" /\ o.dict=none/\o.data=.seq its n/\its.size<=sizeLine/\Vals xs its.toList
noncomputable def SqT (K:FG)(H:Hp)(a:AD)(xs:List V):Prop:=
 Rd H a (.tup xs) \/
  ∃(o:Obj)(its:Array Aa)(n:Nat),K.lookup a=some o/\o.cls=.type "tuple" /\ o.data=.seq its n/\its.size<=sizeLine/\Vals xs its.toList
noncomputable def Zid:Aa->Option V
 | .none=>some .non
 | .bool b=>some (.bl b)
 | .int i _=>some (.int i)
 | .str x _=>some (.str x)
 | .bytes b _=>some (.byt b)
 | .float b _=>some (.flt b)
 | .ref a=>some (.ref a)
 | .type n=>some (.ty n)
 | _=>none
theorem RelV.abs (r:RelV x u):Zid u=some x:=by
 cases x with
 | non=>cases r;rfl
 | bl _=>cases r;rfl
 | int _=>obtain ⟨t,rfl⟩:=r;rfl
 | str _=>obtain ⟨t,rfl⟩:=r;rfl
 | byt _=>obtain ⟨t,rfl⟩:=r;rfl
 | flt _=>obtain ⟨t,rfl⟩:=r;rfl
 | ref _=>cases r;rfl
 | ty _=>cases r;rfl
theorem RelV.inj {x y:V}{u:Aa}(r:RelV x u)(q:RelV y u):x=y:=Ybk (r.abs.symm.trans q.abs)
theorem Vals.inj {xs ys:List V}{us:LW}(h:Vals xs us)(g:Vals ys us):xs=ys:=by
 induction h generalizing ys with
 | nil=>cases g;rfl
 | cons r t ih=>cases g with
  | cons r' t'=>rw [r.inj r',ih t']
section
variable {X:Cx}{qQ:List (AD×Obj)}{σ:St}{H:Hp}{s:SS}{a:AD}{xs ys:List V}
theorem SqL.of {K:FG}(h:H a=some (.lst xs)):SqL K H a xs:=.inl (.inl h)
theorem SqT.of {K:FG}(h:H a=some (.tup xs)):SqT K H a xs:=.inl (.inl h)
theorem Inv.list (I:Inv X qQ σ H s)(h:SqL X.K H a xs):∃its:LW,Vals xs its/\PlainL s.heap a its.toArray/\xs.length<=sizeLine:=by
 rcases h with h | ⟨o,its,n,j,q,B,D,L,r⟩
 ·obtain ⟨z,its,n,r,e⟩:=h.ok I.hok;exact ⟨its,r,⟨_,n,e,rfl,rfl,rfl⟩,z⟩
 ·refine ⟨its.toList,r,⟨o,n,I.kIn a o j,q,B,by simpa using D⟩,?_⟩;have e:=r.length;simp only [Yan] at e
  lia
theorem Inv.tuple (I:Inv X qQ σ H s)(h:SqT X.K H a xs):∃its:LW,Vals xs its/\IsTup s.heap a its.toArray/\xs.length<=sizeLine:=by
 rcases h with h | ⟨o,its,n,j,q,B,D,r⟩
 ·obtain ⟨z,its,r,p⟩:=h.ok I.hok;exact ⟨its,r,p,z⟩
 ·refine ⟨its.toList,r,⟨o,I.kIn a o j,q,n,by simpa using B⟩,?_⟩;have e:=r.length;simp only [Yan] at e
  lia
theorem Inv.list_inj (I:Inv X qQ σ H s)(h:SqL X.K H a xs)(h':SqL X.K H a ys):xs=ys:=by
 obtain ⟨its,r,⟨o,n,e,_,_,d⟩,_⟩:=I.list h;obtain ⟨j,r',⟨o',D,q,_,_,B⟩,_⟩:=I.list h';rw [e] at q;cases q;rw [d] at B;injection B with d1 _
 have:its=j:=by simpa using Ybg Array.toList d1
 subst this;exact r.inj r'
theorem Inv.tuple_inj (I:Inv X qQ σ H s)(h:SqT X.K H a xs)(h':SqT X.K H a ys):xs=ys:=by
 obtain ⟨its,r,⟨o,e,_,n,d⟩,_⟩:=I.tuple h;obtain ⟨j,r',⟨o',q,_,D,B⟩,_⟩:=I.tuple h';rw [e] at q;cases q;rw [d] at B;injection B with d1 _
 have:its=j:=by simpa using Ybg Array.toList d1
 subst this;exact r.inj r'
end
noncomputable abbrev Cx.wish (X:Cx)(E:Aa->SS->Prop):Cx:={ X with xe:=E }
noncomputable abbrev Cx.nox (X:Cx):Cx:=X.wish λ_ _=>False
theorem Cx.Ok.wish {X:Cx}(ok:X.Ok)(E:Aa->SS->Prop):(X.wish E).Ok:=
 ⟨ok.mod,ok.kind,ok.glob,ok.blt,ok.above,ok.inj,ok.has,ok.cab,ok.hd,ok.frames,ok.stk,ok.exf,ok.bs,ok.bsz,ok.noex,ok.exfs,ok.funs,ok.frf⟩
theorem Cx.Ok.unwish {X:Cx}(ok:(X.wish E).Ok):X.Ok:=
 ⟨ok.mod,ok.kind,ok.glob,ok.blt,ok.above,ok.inj,ok.has,ok.cab,ok.hd,ok.frames,ok.stk,ok.exf,ok.bs,ok.bsz,ok.noex,ok.exfs,ok.funs,ok.frf⟩
section
variable {X:Cx}{qQ:List (AD×Obj)}{σ:St}{H:Hp}{s:SS}{E:Aa->SS->Prop}
theorem Inv.wish (I:Inv X qQ σ H s)(E:Aa->SS->Prop):Inv (X.wish E) qQ σ H s:=⟨I.ok.wish E,I.os,I.bare,I.base,I.loc,I.cell,I.free,I.freeC,I.pin,I.hok,I.len⟩
theorem Inv.unwish (I:Inv (X.wish E) qQ σ H s):Inv X qQ σ H s:=⟨I.ok.unwish,I.os,I.bare,I.base,I.loc,I.cell,I.free,I.freeC,I.pin,I.hok,I.len⟩
theorem SP.unwish (h:SP (X.wish E) qQ D f s'):SP X qQ D f s':=by
 cases f with
 | next=>obtain ⟨j,H',I,q⟩:=h;exact ⟨j,H',I.unwish,q⟩
 | brk=>obtain ⟨j,H',I,q⟩:=h;exact ⟨j,H',I.unwish,q⟩
 | cont=>obtain ⟨j,H',I,q⟩:=h;exact ⟨j,H',I.unwish,q⟩
 | ret u=>obtain ⟨v,j,H',I,r,q⟩:=h;exact ⟨v,j,H',I.unwish,r,q⟩
theorem PSs.nox {st:List Stmt}(h:PSs X.nox st t):PSs X st t:=λqQ s σ H D I j=>
 Ybs (h qQ s σ H D (I.wish _) j) (λ_ _ q=>q.unwish) λ_ _ z=>False.elim z
end
section
variable {X:Cx}{st:Stmt}{rest:List Stmt}{t u:TS}{e:Expr}{te:TE}{pos:Pos}
noncomputable def JN:TS:=λD σ H=>D.nx σ H
noncomputable def Gu (t u:TS):TS:=λD σ H=>t { D with nx:=u D } σ H
theorem Gp:PSs X [] JN:=λ_ _ σ H _ I h=>wpAny_execs_nil ⟨σ,H,I,h⟩
theorem Gc (h1:PS X st t)(h2:PSs X rest u):PSs X (st::rest) (Gu t u):=by
 intro qQ s σ H D I h;refine wpAny_execs_cons (thn (h1 qQ s σ H { D with nx:=u D } I h) λf j q=>?_);cases f with
 | next=>
  obtain ⟨B,H',L,q⟩:=q;exact h2 qQ j B H' D L q
 | ret v=>exact q
 | brk=>exact q
 | cont=>exact q
theorem Gg (h1:PS X st t):PSs X [st] t:=by
 intro qQ s σ H D I h;refine wpAny_execs_cons (thn (h1 qQ s σ H D I h) λf j q=>?_);cases f with
 | next=>exact wpAny_execs_nil q
 | ret v=>exact q
 | brk=>exact q
 | cont=>exact q
theorem Inv.quiet (I:Inv X qQ σ H s):interactive X.env=false:=by simp [interactive,I.ok.kind]
noncomputable def Zg8 (te:TE):TS:=λD σ H=>te σ H λ_ H1=>D.nx σ H1
theorem G8 (j:PE X e te)(q:swapsWith e none pos.line X.env=pure false:=by rfl):PS X (.Expr e pos) (Zg8 te):=by
 intro qQ s σ H D I h;exact wpAny_Expr_any (thG (j qQ s σ H _ I h) λv N x H1 B O L=>⟨σ,H1,B,L⟩) I.quiet q
noncomputable def Zie (te:TE):TS:=λD σ H=>te σ H D.rt
theorem Gq (j:PE X e te):PS X (.Return (some e) pos) (Zie te):=by
 intro qQ s σ H D I h;exact wpAny_Return_some (thG (j qQ s σ H _ I h) λv N x H1 q B L=>⟨x,σ,H1,q,B,L⟩)
noncomputable def ZhU (c:TT)(t u:TS):TS:=λD σ H=>c σ H λb H1=>if b=true then t D σ H1 else u D σ H1
theorem GS (L:PT X c tc)(ha:PSs X a t)(N:PSs X b u):PS X (.If c a b pos) (ZhU tc t u):=by
 intro qQ s σ H D I h;refine wpAny_If (thT (L qQ s σ H _ I h) λd j H1 q B=>?_);cases d with
 | true=>exact ha qQ j σ H1 D q B
 | false=>exact N qQ j σ H1 D q B
end
noncomputable abbrev TG:=V->St->Hp->(St->Hp->Prop)->Prop
noncomputable abbrev TGs:=List V->St->Hp->(St->Hp->Prop)->Prop
noncomputable def PG (X:Cx)(qU:Expr)(t:TG):Prop:=
 ∀(qQ:List (AD×Obj))(s:SS)(σ:St)(H:Hp)(v:V)(u:Aa)(Q:St->Hp->Prop),Inv X qQ σ H s->RelV v u->t v σ H Q ->
  wpAny (model X.prog X.w) X.A (assign qU X.env u) (λ_ s'=>∃ j H',Inv X qQ j H' s'/\Q j H') X.xe s
noncomputable def PGs (X:Cx)(ts:List Expr)(t:TGs):Prop:=
 ∀(qQ:List (AD×Obj))(s:SS)(σ:St)(H:Hp)(vs:List V)(us:LW)(Q:St->Hp->Prop),Inv X qQ σ H s->Vals vs us->t vs σ H Q ->
  wpAny (model X.prog X.w) X.A (assignInOrder ((assignEach ts X.env).map (·.2)) us) (λ_ s'=>∃ j H',Inv X qQ j H' s'/\Q j H') X.xe s
section
variable {X:Cx}{pos:Pos}
noncomputable def Gv (i:Nat):TG:=λv σ H Q=>Q (σ.set i (some v)) H
theorem Zdp (j:X.N.Nodup)(hi:X.N[i]?=some x)(q:Loc X.env.scope x)(B:X.fn x=true\/X.env.scope.names.lookup x=some .local:=by first | exact .inl rfl | exact .inr rfl | assumption):PG X (.Name x pos) (Gv i):=by
 intro qQ s σ H v u Q I r h;exact wpAny_assign_Name (OA I j hi q r (λs' D=>⟨_,H,D,h⟩) B)
noncomputable def ZhV:TGs:=λvs σ H Q=>vs=[]/\Q σ H
noncomputable def Zdq (t:TG)(u:TGs):TGs:=λvs σ H Q=>∃v r,vs=v::r/\t v σ H λj H'=>u r j H' Q
theorem G9:PGs X [] ZhV:=by
 intro qQ s σ H vs us Q I r h;obtain ⟨e,h⟩:=h;subst e;cases r;exact assignInOrder_nil ⟨σ,H,I,h⟩
theorem Gk (h1:PG X e t)(h2:PGs X es u)(j:(assignEach (e::es) X.env).map (·.2)=assign e X.env::(assignEach es X.env).map (·.2):=by rfl):PGs X (e::es) (Zdq t u):=by
 intro qQ s σ H vs us Q I r h;obtain ⟨v,O,q,h⟩:=h;subst q;cases r with
 | cons r rr=>
  rw [j];refine assignInOrder_cons (thn (h1 qQ s σ H _ _ _ I r h) λ_ B ⟨D,H1,L,N⟩=>?_);exact h2 qQ B D H1 _ _ Q L rr N
noncomputable def Zg9 (K:FG)(n:Nat)(t:TGs):TG:=λv σ H Q=>∃a xs,v=.ref a/\SqT K H a xs/\xs.length=n/\t xs σ H Q
theorem ZeP (D:X.calm=true)(h:PGs X es t)(L:(assignEach es X.env).length=n:=by rfl)(j:(assignEach es X.env).findIdx? (·.1)=none:=by rfl):PG X (.Tuple es k pos) (Zg9 X.K n t):=by
 intro qQ s σ H v u Q I r q;obtain ⟨a,xs,N,O,U,q⟩:=q;subst N;cases r;obtain ⟨its,B,Y,hz⟩:=I.tuple O;refine assign_Tuple_tuple (I.ok.hd D) Y (by simp [L,<-U,B.length]) j λh' Z=>?_;have I1:Inv X qQ σ H { s with heap:=h' }:=I.kept (t':=s.toks) λb o e=>Z b o (Yar (Yag e)) e;exact h qQ _ σ H xs _ Q I1 (by simpa using B) q
noncomputable def ZgK (te:TE)(g:TG):TS:=λD σ H=>te σ H λx H1=>g x σ H1 D.nx
theorem OC (j:PE X e te)(B:PG X tg g)(L:swapsWithSole [tg] e pos.line X.env=pure false:=by rfl)(N:swappedStores [tg] e X.env=pure none:=by rfl)(h1:(assignEach [tg] X.env).map (·.2)=[assign tg X.env]:=by rfl):PS X (.Assign [tg] e pos) (ZgK te g):=by
 intro qQ s σ H D I h;refine wpAny_Assign_stores (thG (j qQ s σ H _ I h) λv O x H1 U Y Z=>?_) L N;rw [h1];exact thn (B qQ O σ H1 x v _ U Y Z) λ_ s2 q=>q
theorem Zv {i:Nat}{x:Str}{e:Expr}{te:TE}{pos':Pos}(j:X.N.Nodup)(hi:X.N[i]?=some x)(q:Loc X.env.scope x)(B:PE X e te)(L:swapsWith e (some (.Name x pos')) pos.line X.env=pure false:=by rfl)(O:X.fn x=true\/X.env.scope.names.lookup x=some .local:=by first | exact .inl rfl | exact .inr rfl | assumption) :
  PS X (.Assign [.Name x pos'] e pos) (ZgK te (Gv i)):=by
 intro qQ s σ H D I h;refine wpAny_Assign_Name (thG (B qQ s σ H _ I h) λv s1 y H1 U Y Z=>?_) L;exact OA U j hi q Y (λs2 I2=>⟨_,H1,I2,Z⟩) O
noncomputable def Zif (i j:Nat)(ta:TA):TS:=λD σ H=>ta σ H λvs H1=>∃v w,vs=[v,w]/\D.nx ((σ.set i (some v)).set j (some w)) H1
theorem ZeQ {kt k2 pt2}(hc:X.calm=true)(hN:X.N.Nodup)(hi:X.N[i]?=some x)(hj:X.N[j]?=some y)(Z:i≠j)(hx:X.env.scope.names.lookup x=some .local)(hy:X.env.scope.names.lookup y=some .local)(ha:PA X [a,b] ta)(hw:swappedStores [.Tuple [.Name x U,.Name y Y] kt pt] (.Tuple [a,b] k2 pt2) X.env=pure (some [x,y]))(hs:swapsWithSole [.Tuple [.Name x U,.Name y Y] kt pt] (.Tuple [a,b] k2 pt2) pos.line X.env=pure false:=by rfl) :
  PS X (.Assign [.Tuple [.Name x U,.Name y Y] kt pt] (.Tuple [a,b] k2 pt2) pos) (Zif i j ta):=by
 intro qQ s σ H D I h;rw [exec_Assign_arm];refine Yaa (wpAny_standAt ?_);rw [hs];refine Yaa (Yab ?_);rw [if_neg (by decide)];refine Yaa (Tuple_ (thG (ha _ qQ s σ H _ I h) λus B vs H1 I1 r1 q1=>?_));obtain ⟨v,w,e1,q1⟩:=q1;subst e1;obtain ⟨L,O,rfl,rv,aa⟩:∃L O,us=[L,O]/\RelV v L/\RelV w O:=by
  cases r1 with
  | cons p q=>
   cases q with
   | cons p' q'=>
    cases q';exact ⟨_,_,rfl,p,p'⟩
 refine Ydt ?_ (by show 2<=sizeLine;decide);have I2:Inv X qQ σ H1 { B with heap:=B.heap.push { cls:=.type "tuple", data:=.seq [L,O].toArray } }:=I1.kept (t':=B.toks) λb o e=>Yah _ e;rw [hw];refine Yaa (Yab ?_);show wpAny (model X.prog X.w) X.A (do rule "assign.swapped-stores";let items <- unpackItems (.ref B.heap.objs.size) 2 none;assignInOrder [λv=>bindName X.env y v,λv=>bindName X.env x v] items.reverse;pure Flow.next) _ _ _;refine Yaa (Ydi (Yaa (unpackItems_tuple (items:=#[L,O]) (I.ok.hd hc) (IsTup.new B.heap _) λh' ab=>?_)));have I3:=I2.kept (h':=h') (t':=B.toks) λb o e=>ab b o (Yar (Yag e)) e;show wpAny _ _ (assignInOrder [λv=>bindName X.env y v,λv=>bindName X.env x v] [O,L] >>= λ_=>pure Flow.next) _ _ _;refine Yaa (assignInOrder_cons (wpAny_bindName (OA I3 hN hj (.inl hy) aa (λs2 I4=>?_) (.inr hy))));refine assignInOrder_cons (wpAny_bindName (OA I4 hN hi (.inl hx) rv (λs3 I5=>assignInOrder_nil (Yab ?_)) (.inr hx)));rw [List.set_comm _ _ (Ne.symm Z)] at I5;exact ⟨_,H1,I5,q1⟩
noncomputable def ZeR (c:TT)(tb:TS):TS:=λD σ H=>∃W:Nat->St->Hp->Prop,(∃m,W m σ H)/\∀m σ H,W m σ H ->
 c σ H λb H1=>if b=true then ∃N:St->Hp->Prop,(∀ j H',N j H'->∃q,q<m/\W q j H')/\tb { D with nx:=N,ct:=N,bk:=D.nx } σ H1 else D.nx σ H1
theorem VH (hp:PassesOwn (model X.prog X.w) X.A X.env X.xe)(hc:PT X c tc)(hb:PSs X body tb):PS X (.While c body [] pos) (ZeR tc tb):=by
 intro qQ s σ H D I h;obtain ⟨W,⟨m0,w0⟩,j⟩:=h;refine wpAny_While (codeAny_whileLoop (λn s'=>∃ σ' H',Inv X qQ σ' H' s'/\W n σ' H') ?_ m0 ⟨σ,H,I,w0⟩);rintro n s1 ⟨L,H1,I1,w1⟩;refine Yeo hp (thT (hc qQ s1 L H1 _ I1 (j n L H1 w1)) λb s2 H2 I2 O=>?_);cases b with
 | true=>
  obtain ⟨N,hN,O⟩:=O;rw [if_pos rfl];refine Yeo hp (thn (hb qQ s2 L H2 _ I2 O) λf s3 U=>?_);cases f with
  | next=>
   obtain ⟨q,B,Y,Z⟩:=U;obtain ⟨m',hm,w3⟩:=hN q B Z;exact ⟨m',hm,q,B,Y,w3⟩
  | cont=>
   obtain ⟨q,B,Y,Z⟩:=U;obtain ⟨m',hm,w3⟩:=hN q B Z;exact ⟨m',hm,q,B,Y,w3⟩
  | brk=>exact U
  | ret v=>exact U
 | false=>
  rw [if_neg Yaq];exact wpAny_execs_nil ⟨L,H2,I2,O⟩
end
structure It where
 go:Nat->Hp->Prop
 yld:Nat->Hp->V->Hp->Prop
 stop:Nat->Hp->Prop
noncomputable def ZbA (X:Cx)(qQ:List (AD×Obj))(H:Hp)(b:AD):Prop:=
 H b=none/\b≠X.env.locals/\b ∉ X.fs/\(b∈X.ex\/X.s₀.heap.objs.size<=b)/\(∀x c,X.env.cells.lookup x=some c->c≠b)/\∀p∈X.pn++qQ,p.1≠b
theorem Inv.fpOk (I:Inv X qQ σ H s)(j:s.heap.objs.size<=b)(B:H' b=none):ZbA X qQ H' b:=by
 refine ⟨B,Ydj (Ybm I.lt j),I.nofs j,.inr (Ybr I.sz j),λx c e z=>?_,λp D z=>?_⟩
 ·obtain ⟨v,q⟩:=I.cell x c e;exact absurd (Ybm q.lt (by rw [z];exact j)) (Ych _)
 ·exact absurd (Ybm (Yag (I.pin p D).1) (by rw [z];exact j)) (Ych _)
structure ZcP (P:PP)(w:Ab)(K:FG)(tg:Expr)(J:It)(fp:List AD)(it:AD)(tn:Nat->Heap->Prop):Prop where
 mem:it∈fp
 obj:∀i h,tn i h->∀b∈fp,∃o,h.get? b=some o/\∀v,o.data≠.cell v
 keep:∀i h h',tn i h->(∀b∈fp,∀o,h.get? b=some o->h'.get? b=some o)->tn i h'
 item:∀(X:Cx),X.prog=P->X.w=w->X.K=K->X.calm=true->∀(i:Nat)(qQ:List (AD×Obj))(s:SS)(σ:St)(H:Hp)(E:Aa->SS->Prop),Inv X qQ σ H s->(∀b∈fp,ZbA X qQ H b)->tn i s.heap->J.go i H ->
  wpAny (model P w) X.A (pyNext (.ref it)) (λr s1=>∃u,r=some u /\
   wpAny (model P w) X.A (letOwnedTupleGo tg (.ref it) u) (λ_ s2=>∃x H',Inv X qQ σ H' s2/\RelV x u/\J.yld i H x H'/\tn (i+1) s2.heap/\∀b∈fp,H' b=none) E s1) E s
 done:∀(X:Cx),X.prog=P->X.w=w->X.K=K->X.calm=true->∀(i:Nat)(qQ:List (AD×Obj))(s:SS)(σ:St)(H:Hp)(E:Aa->SS->Prop),Inv X qQ σ H s->(∀b∈fp,ZbA X qQ H b)->tn i s.heap->J.stop i H ->
  wpAny (model P w) X.A (pyNext (.ref it)) (λr s1=>r=none/\Inv X qQ σ H s1) E s
 self:∀(A:Around)(i:Nat)(s:SS)(Q:Aa->SS->Prop)(E:Aa->SS->Prop),tn i s.heap->Q (.ref it) s->wpAny (model P w) A (pyIter (.ref it)) Q E s
noncomputable abbrev TI:=St->Hp->(It->Hp->Prop)->Prop
noncomputable def PIE (X:Cx)(qQ:List (AD×Obj))(σ:St)(tg:Expr)(R:It->Hp->Prop)(j:Aa)(q:SS):Prop:=
 ∃(B:AD)(fp:List AD)(tn:Nat->Heap->Prop)(J:It)(H':Hp),j=.ref B/\Inv X qQ σ H' q/\ZcP X.prog X.w X.K tg J fp B tn/\tn 0 q.heap/\(∀b∈fp,ZbA X qQ H' b)/\R J H'
noncomputable def PI (X:Cx)(tg iter:Expr)(wi:TI):Prop:=
 ∀(qQ:List (AD×Obj))(s:SS)(σ:St)(H:Hp)(R:It->Hp->Prop),Inv X qQ σ H s->wi σ H R ->
  wpAny (model X.prog X.w) X.A (eval iter X.env) (λv j=>wpAny (model X.prog X.w) X.A (pyIter v) (PIE X qQ σ tg R) X.xe j) X.xe s
theorem ZbG (B:s.heap.get? q=some o)(D:o.cls=.type n)(L:o.data=.fields vs)(N:["enumerate", "zip", "dict_itemiterator", "dict_reverseitemiterator", "odict_iterator", "itertools.zip_longest", "itertools.pairwise"].contains n=false)(j:Q () s):wpAny M A (letOwnedTupleGo tg (.ref q) u) Q E s:=by
 unfold letOwnedTupleGo;cases tg <;> first
  | exact Yab j
  | (cases u <;> first
    | exact Yab j
    | (refine Yaa (wpAny_load B ?_)
       rw [D,L];show wpAny M A (if (["enumerate", "zip", "dict_itemiterator", "dict_reverseitemiterator", "odict_iterator", "itertools.zip_longest", "itertools.pairwise"].contains n && vs[0]? == some (rawInt _))=true then _ else _) Q E s;rw [if_neg (by intro h;rw [N,Bool.false_and] at h;cases h)];exact Yab j))
noncomputable def Itl (K:FG)(a:AD):It:=
 ⟨λi H=>∃xs x,SqL K H a xs/\xs[i]?=some x,λi H x H'=>H'=H/\∀xs,SqL K H a xs->xs[i]?=some x,λi H=>∃xs,SqL K H a xs/\xs.length<=i⟩
noncomputable def Itt (K:FG)(a:AD):It:=
 ⟨λi H=>∃xs x,SqT K H a xs/\xs[i]?=some x,λi H x H'=>H'=H/\∀xs,SqT K H a xs->xs[i]?=some x,λi H=>∃xs,SqT K H a xs/\xs.length<=i⟩
noncomputable def Itr (lo:Int)(n:Nat):It:=⟨λi _=>i<n,λi H x H'=>H'=H/\x=.int (lo+i),λi _=>n<=i⟩
theorem Zw {P:PP}{w:Ab}{K:FG}{tg:Expr}(a it:AD):ZcP P w K tg (Itl K a) [it] it (λi h=>h.IsListIter it a i) where
 mem:=by simp
 obj:=λi h st b hb=>by
  have e:b=it:=by simpa using hb
  subst e;obtain ⟨o,e,c,d⟩:=st;exact ⟨o,e,λv z=>by rw [d] at z;cases z⟩
 keep:=λi h h' st k=>st.at λo e=>k it (by simp) o e
 item:=by
  intro X hP hw hK hc i qQ s σ H E I hf st hg;subst hP hw hK;obtain ⟨xs,x,hq,hx⟩:=hg;obtain ⟨its,rv,p,hz⟩:=I.list hq;obtain ⟨u,hu,ru⟩:=rv.get hx;obtain ⟨f0,f1,f2,f3,f4,f5⟩:=hf it (by simp);refine wpAny_pyNext_list_item st p.isList (x:=u) (by simpa using hu) λh' st' sb=>?_;have I1:Inv X qQ σ H { s with heap:=h' }:=I.turned (t':=s.toks) (λb o hb e=>(sb.2 b hb).trans e) f0 f1 f3 f4 f5;obtain ⟨o,e,c,d⟩:=id st';exact ⟨u,rfl,ZbG (s:={ s with heap:=h' }) e c d (by decide) ⟨x,H,I1,ru,⟨rfl,λys hy=>by rw [I.list_inj hy hq];exact hx⟩,st',λb hb=>(hf b hb).1⟩⟩
 done:=by
  intro X hP hw hK hc i qQ s σ H E I hf st hg;subst hP hw hK;obtain ⟨xs,hq,hx⟩:=hg;obtain ⟨its,rv,p,hz⟩:=I.list hq;obtain ⟨f0,f1,f2,f3,f4,f5⟩:=hf it (by simp);have hl:=rv.length;exact wpAny_pyNext_list_end (I.ok.hd hc) st p.isList (by simp;lia) λh' eb=>⟨rfl,I.turned (t':=s.toks) (λb o hb e=>eb b o hb e) f0 f1 f3 f4 f5⟩
 self:=λ_ _ _ _ _ st h=>wpAny_pyIter_listiter st h
theorem YD {P:PP}{w:Ab}{K:FG}{tg:Expr}(a it:AD):ZcP P w K tg (Itt K a) [it] it (λi h=>h.IsTupleIter it a i) where
 mem:=by simp
 obj:=λi h st b hb=>by
  have e:b=it:=by simpa using hb
  subst e;obtain ⟨o,e,c,d⟩:=st;exact ⟨o,e,λv z=>by rw [d] at z;cases z⟩
 keep:=λi h h' st k=>st.at λo e=>k it (by simp) o e
 item:=by
  intro X hP hw hK hc i qQ s σ H E I hf st hg;subst hP hw hK;obtain ⟨xs,x,hq,hx⟩:=hg;obtain ⟨its,rv,p,hz⟩:=I.tuple hq;obtain ⟨u,hu,ru⟩:=rv.get hx;obtain ⟨f0,f1,f2,f3,f4,f5⟩:=hf it (by simp);refine wpAny_pyNext_tuple_item st (show s.heap.IsTuple a its.toArray from p) (x:=u) (by simpa using hu) λh' st' sb=>?_;have I1:Inv X qQ σ H { s with heap:=h' }:=I.turned (t':=s.toks) (λb o hb e=>(sb.2 b hb).trans e) f0 f1 f3 f4 f5;obtain ⟨o,e,c,d⟩:=id st';exact ⟨u,rfl,ZbG (s:={ s with heap:=h' }) e c d (by decide) ⟨x,H,I1,ru,⟨rfl,λys hy=>by rw [I.tuple_inj hy hq];exact hx⟩,st',λb hb=>(hf b hb).1⟩⟩
 done:=by
  intro X hP hw hK hc i qQ s σ H E I hf st hg;subst hP hw hK;obtain ⟨xs,hq,hx⟩:=hg;obtain ⟨its,rv,p,hz⟩:=I.tuple hq;obtain ⟨f0,f1,f2,f3,f4,f5⟩:=hf it (by simp);have hl:=rv.length;exact wpAny_pyNext_tuple_end (I.ok.hd hc) st (show s.heap.IsTuple a its.toArray from p) (by simp;lia) λh' eb=>⟨rfl,I.turned (t':=s.toks) (λb o hb e=>eb b o hb e) f0 f1 f3 f4 f5⟩
 self:=λ_ _ _ _ _ st h=>wpAny_pyIter_tupleiter st h
theorem YE {P:PP}{w:Ab}{K:PySem.W.Frag}{tg:Expr}(it:AD)(lo:Int)(n:Nat):ZcP P w K tg (Itr lo n) [it] it (λi h=>IsRangeIter h it (lo+(i:Nat) * 1) ((n:Int)-(i:Nat)) 1) where
 mem:=by simp
 obj:=λi h st b hb=>by
  have e:b=it:=by simpa using hb
  subst e;exact ⟨_,st,λv z=>by
   have z':Data.fields _=Data.cell v:=z;cases z'⟩
 keep:=λi h h' st k=>k it (by simp) _ st
 item:=by
  intro X hP hw hK hc i qQ s σ H E I hf st hg;subst hP hw hK;obtain ⟨f0,f1,f2,f3,f4,f5⟩:=hf it (by simp);have W:=Walks.range (prog:=X.prog) (w:=X.w) (I.ok.hd hc) it lo 1 n;refine W.item i s _ _ hg st λv h' tk hv st' kk=>?_;obtain ⟨t,rfl⟩:=hv;have I1:Inv X qQ σ H { s with heap:=h',toks:=tk }:=I.turned (λb o hb e=>kk b o (by simpa using hb) e) f0 f1 f3 f4 f5;refine ⟨_,rfl,ZbG (s:={ s with heap:=h',toks:=tk }) (n := "range_iterator") st' rfl rfl (by decide) ⟨.int (lo+i),H,I1,⟨t,?_⟩,⟨rfl,rfl⟩,st',λb hb=>(hf b hb).1⟩⟩;rw [Int.mul_one]
 done:=by
  intro X hP hw hK hc i qQ s σ H E I hf st hg;subst hP hw hK;obtain ⟨f0,f1,f2,f3,f4,f5⟩:=hf it (by simp);exact wpAny_pyNext_range_end (I.ok.hd hc) st (by have:n<=i:=hg;lia) λh' eb=>⟨rfl,I.turned (t':=s.toks) (λb o hb e=>eb b o hb e) f0 f1 f3 f4 f5⟩
 self:=λ_ _ _ _ _ st h=>wpAny_pyIter_rangeiter st h
section
variable {X:Cx}{tg:Expr}
noncomputable def ZeS (K:FG)(tl:TE):TI:=λσ H R=>tl σ H λx H1=>∃a,x=.ref a/\(∃xs,SqL K H1 a xs)/\R (Itl K a) H1
noncomputable def ZhW (K:FG)(tl:TE):TI:=λσ H R=>tl σ H λx H1=>∃a,x=.ref a/\(∃xs,SqT K H1 a xs)/\R (Itt K a) H1
theorem Zdr (D:PE X l tl):PI X tg l (ZeS X.K tl):=by
 intro qQ s σ H R I h;refine thG (D qQ s σ H _ I h) λv j x H1 B L N=>?_;obtain ⟨a,e,⟨xs,O⟩,q⟩:=N;subst e;cases L;obtain ⟨its,Y,p,Z⟩:=B.list O;refine wpAny_pyIter_list p.isList ?_;refine ⟨j.heap.objs.size,[j.heap.objs.size],_,_,H1,rfl,B.kept (t':=j.toks) λb o e=>Yah _ e,Zw a _,⟨_,Ybb _ rfl,rfl,rfl⟩,λb U=>?_,q⟩;have e:b=j.heap.objs.size:=by simpa using U
 subst e;exact B.fpOk (Yae _) (B.hok.fresh (Yae _))
theorem ZeT (D:PE X l tl):PI X tg l (ZhW X.K tl):=by
 intro qQ s σ H R I h;refine thG (D qQ s σ H _ I h) λv j x H1 B L N=>?_;obtain ⟨a,e,⟨xs,O⟩,q⟩:=N;subst e;cases L;obtain ⟨its,Y,p,Z⟩:=B.tuple O;refine wpAny_pyIter_tuple (show j.heap.IsTuple a its.toArray from p) ?_;refine ⟨j.heap.objs.size,[j.heap.objs.size],_,_,H1,rfl,B.kept (t':=j.toks) λb o e=>Yah _ e,YD a _,⟨_,Ybb _ rfl,rfl,rfl⟩,λb U=>?_,q⟩;have e:b=j.heap.objs.size:=by simpa using U
 subst e;exact B.fpOk (Yae _) (B.hok.fresh (Yae _))
theorem XI {lo hi:Int}(I:Inv X qQ σ H s)(h1:-(2 ^ 62)<=lo)(h2:lo<2 ^ 62)(B:-(2 ^ 62)<=hi)(D:hi<2 ^ 62)(q:R (Itr lo (hi-lo).toNat) H):wpAny (model X.prog X.w) X.A (pyIter (.ref s.heap.objs.size)) (PIE X qQ σ tg R) E { s with heap:=s.heap.push { cls:=.type "range", data:=.fields #[.int lo t,.int hi u,.int 1 v] },toks:=tk }:=by
 refine wpAny_pyIter_range (IsRange.new ..) (small_one h1 h2 B D) ?_;have j:Inv X qQ σ H { s with heap:=s.heap.push { cls:=.type "range", data:=.fields #[.int lo t,.int hi u,.int 1 v] },toks:=tk }:=I.kept λb o e=>Yah _ e;refine ⟨(s.heap.push { cls:=.type "range", data:=.fields #[.int lo t,.int hi u,.int 1 v] }).objs.size,[(s.heap.push { cls:=.type "range", data:=.fields #[.int lo t,.int hi u,.int 1 v] }).objs.size],_,_,H,rfl,
  j.kept (t':=tk) λb o e=>Yah _ e,YE _ lo (hi-lo).toNat,?_,λb L=>?_,q⟩
 ·have N:lo+((0:Nat):Int) * 1=lo:=by simp
  have O:(((hi-lo).toNat:Nat):Int)-((0:Nat):Int)=Builtin.Range.rangeSize lo hi 1:=by rw [rangeSize_one];split <;> lia
  show IsRangeIter _ _ (lo+((0:Nat):Int) * 1) ((((hi-lo).toNat:Nat):Int)-((0:Nat):Int)) 1;rw [N,O];exact Ybb _ rfl
 ·have e:b=(s.heap.push { cls:=.type "range", data:=.fields #[.int lo t,.int hi u,.int 1 v] }).objs.size:=by simpa using L
  subst e;exact j.fpOk (Yae _) (j.hok.fresh (Yae _))
noncomputable def Zha (ta:TA):TI:=λσ H R=>ta σ H λvs H1=>∃j:Int,vs=[.int j]/\-(2 ^ 62)<=j/\j<2 ^ 62/\R (Itr 0 j.toNat) H1
noncomputable def Zhb (ta:TA):TI:=λσ H R=>ta σ H λvs H1=>∃i j:Int,vs=[.int i,.int j]/\(-(2 ^ 62)<=i/\i<2 ^ 62/\-(2 ^ 62)<=j/\j<2 ^ 62)/\R (Itr i (j-i).toNat) H1
theorem Jy (D:Gl X "range")(L:X.mg "range" = none)(ha:PA X [a] ta)(N:starEach [a] X.env=[(false,eval a X.env)]:=by rfl):PI X tg (.Call (.Name "range" p) [a] [] pos) (Zha ta):=by
 intro qQ s σ H R I h;refine Call_ (OB I D L boot_range (Yfq (thG (ha pos qQ s σ H _ I h) λus Z vs H1 O U B=>?_) N rfl));obtain ⟨j,e,B,Y,q⟩:=B;subst e;cases U with
 | cons r rr=>
  cases rr;obtain ⟨t,rfl⟩:=r;exact call_range_1 (XI O (by lia) (by lia) B Y (by simpa using q))
theorem Wt (L:Gl X "range")(N:X.mg "range" = none)(ha:PA X [a,b] ta)(O:starEach [a,b] X.env=[(false,eval a X.env),(false,eval b X.env)]:=by rfl)(B:starEach [b] X.env=[(false,eval b X.env)]:=by rfl) :
  PI X tg (.Call (.Name "range" p) [a,b] [] pos) (Zhb ta):=by
 intro qQ s σ H R I h;refine Call_ (OB I L N boot_range (Yfq (thG (ha pos qQ s σ H _ I h) λus s1 vs H1 U Y D=>?_) (by rw [O,B]) (by rw [B];rfl)));obtain ⟨i,j,e,⟨D,Z,q3,q4⟩,q⟩:=D;subst e;cases Y with
 | cons r rr=>
  cases rr with
  | cons r' rr=>
   cases rr;obtain ⟨t,rfl⟩:=r;obtain ⟨t',rfl⟩:=r';exact call_range_2 (XI U D Z q3 q4 q)
noncomputable def Zig (wi:TI)(g:TG)(tb:TS):TS:=λD σ H=>wi σ H λJ H1=>∃W:Nat->Nat->St->Hp->Prop,(∃m,W 0 m σ H1)/\∀i m σ H,W i m σ H ->
 (J.stop i H/\D.nx σ H)\/(J.go i H/\∃N:St->Hp->Prop,(∀ j H',N j H'->∃q,q<m/\W (i+1) q j H')/\∀x H',J.yld i H x H'->g x σ H' λB H2=>tb { D with nx:=N,ct:=N,bk:=D.nx } B H2)
noncomputable def Wu (fp:List AD)(h:Heap):List (AD×Obj):=fp.filterMap λb=>(h.get? b).map λo=>(b,o)
theorem Ob (j:b∈fp)(e:h.get? b=some o):(b,o)∈Wu fp h:=Ydk.mpr ⟨b,j,by rw [e];rfl⟩
theorem Zx (j:p∈Wu fp h):p.1∈fp/\h.get? p.1=some p.2:=by
 obtain ⟨b,B,e⟩:=Ydk.mp j;cases q:h.get? b with
 | none=>rw [q] at e;cases e
 | some o=>
  rw [q] at e;have D:(b,o)=p:=Ybk e;subst D;exact ⟨B,q⟩
theorem Inv.pinned (I:Inv X qQ σ H s)(B:∀b∈fp,ZbA X qQ H b)(D:∀b∈fp,∃o,s.heap.get? b=some o/\∀v,o.data≠.cell v):Inv X (qQ++Wu fp s.heap) σ H s:=
 I.pins_of λp L=>(Yak.mp L).elim (λz=>I.pin p (Yby _ z)) λz=>by
  obtain ⟨j,e⟩:=Zx z;obtain ⟨N,O,U,_⟩:=B p.1 j;obtain ⟨o,q,d⟩:=D p.1 j;rw [e] at q;cases q;exact ⟨e,N,O,U,d⟩
theorem Inv.unpinned (I:Inv X (qQ++pl) σ H s):Inv X qQ σ H s:=I.pins_of λp j=>I.pin p (Yby _ (Ydr _ j))
theorem Js (hp:PassesOwn (model X.prog X.w) X.A X.env X.xe)(hc:X.calm=true)(hi:PI X tg iter wi)(hg:PG X tg g)(j:PSs X body tb)(hs:∀x,foldedSetIterable iter X.env x=pure x:=by intro _;rfl):PS X (.For tg iter body [] pos) (Zig wi g tb):=by
 intro qQ s σ H D I h;refine wpAny_For (thn (hi qQ s σ H _ I h) λv s1 h1=>thn h1 λah s2 h2=>?_) hs;obtain ⟨it,fp,tn,J,H2,e,I2,T,ae,f2,W,⟨m0,w0⟩,aa⟩:=h2;subst e;have q:∀{H':Hp},(∀b∈fp,H' b=none)->∀b∈fp,ZbA X qQ H' b:=λhn b j=>⟨hn b j,(f2 b j).2⟩;refine codeAny_forLoop_any (λn s'=>∃i σ' H',Inv X qQ σ' H' s'/\tn i s'.heap/\(∀b∈fp,H' b=none)/\W i n σ' H') ?_ m0 ⟨0,σ,H2,I2,ae,λb j=>(f2 b j).1,w0⟩;rintro n s3 ⟨i,σ3,H3,I3,ab,ac,w3⟩;rcases aa i n σ3 H3 w3 with ⟨ad,qn⟩ | ⟨go,N,hN,step⟩
 ·refine Yeo hp (thn (T.done X rfl rfl rfl hc i qQ s3 σ3 H3 X.xe I3 (q ac) ab ad) λr s4 ⟨hr,I4⟩=>?_);subst hr;exact wpAny_execs_nil ⟨σ3,H3,I4,qn⟩
 ·refine Yeo hp (thn (T.item X rfl rfl rfl hc i qQ s3 σ3 H3 X.xe I3 (q ac) ab go) λr s4 ⟨u,hr,h4⟩=>?_);subst hr;refine Yeo hp (thn h4 λ_ s5 ⟨x,H5,I5,r5,y5,Z,af⟩=>?_);have ag:=I5.pinned (q af) (T.obj _ _ Z);refine Yeo hp (thn (hg _ s5 σ3 H5 x u _ ag r5 (step x H5 y5)) λ_ s6 ⟨σ6,H6,I6,q6⟩=>?_);refine Yeo hp (thn (j _ s6 σ6 H6 _ I6 q6) λf s7 Y=>?_);have B:∀{L:St}{O:Hp},Inv X (qQ++Wu fp s5.heap) L O s7->N L O->∃m,m<n/\∃i σ' H',Inv X qQ σ' H' s7/\tn i s7.heap/\(∀b∈fp,H' b=none)/\W i m σ' H':=λ{L O} U n7=>by
   obtain ⟨m',hm,w7⟩:=hN L O n7;refine ⟨m',hm,i+1,L,O,U.unpinned,T.keep _ _ _ Z λb j o e=>(U.pin (b,o) (Yby _ (Yby _ (Ob j e)))).1,λb j=>?_,w7⟩;obtain ⟨o,e,d⟩:=T.obj _ _ Z b j;exact (U.pin (b,o) (Yby _ (Yby _ (Ob j e)))).2.1
  cases f with
  | next=>obtain ⟨L,O,U,n7⟩:=Y;exact B U n7
  | cont=>obtain ⟨L,O,U,n7⟩:=Y;exact B U n7
  | brk=>obtain ⟨L,O,U,Y⟩:=Y;exact ⟨L,O,U.unpinned,Y⟩
  | ret v=>obtain ⟨x7,L,O,U,r7,Y⟩:=Y;exact ⟨x7,L,O,U.unpinned,r7,Y⟩
end
noncomputable abbrev YF (J:It)(g:TG)(tb:TS)(D:Ut)(σ:St)(H:Hp):Prop:=∃W:Nat->Nat->St->Hp->Prop,(∃m,W 0 m σ H)/\∀i m σ H,W i m σ H ->
   (J.stop i H/\D.nx σ H)\/(J.go i H/\∃N:St->Hp->Prop,(∀ j H',N j H'->∃q,q<m/\W (i+1) q j H')/\∀x H',J.yld i H x H'->g x σ H' λB H2=>tb { D with nx:=N,ct:=N,bk:=D.nx } B H2)
theorem UG (j:Nat->St->Hp->Prop)(h0:j 0 σ H)(L:∀i σ H,i<=n->j i σ H->(i<n->J.go i H)/\(i=n->J.stop i H))(N:∀i σ H x H',i<n->j i σ H->J.yld i H x H'->g x σ H' λO H2=>tb { D with nx:=j (i+1),ct:=j (i+1),bk:=D.nx } O H2)(U:∀ σ H,j n σ H->D.nx σ H):YF J g tb D σ H:=by
 refine ⟨λi m σ H=>m=n-i/\i<=n/\j i σ H,⟨_,rfl,Yax _,h0⟩,?_⟩;rintro i m σ H ⟨rfl,hi,p⟩;have q:=L i σ H hi p;by_cases B:i<n
 ·exact .inr ⟨q.1 B,j (i+1),λZ H' Y=>⟨n-(i+1),by lia,rfl,B,Y⟩,λx H' y=>N i σ H x H' B p y⟩
 ·have e:i=n:=by lia
  subst e;exact .inl ⟨q.2 rfl,U σ H p⟩
theorem JV {K:FG}(j:Nat->St->Hp->Prop)(h0:j 0 σ H)(q:∀i σ H,i<=xs.length->j i σ H->SqL K H a xs)(B:∀i x σ H,xs[i]?=some x->j i σ H->g x σ H λL H2=>tb { D with nx:=j (i+1),ct:=j (i+1),bk:=D.nx } L H2)(N:∀ σ H,j xs.length σ H->D.nx σ H) :
  YF (Itl K a) g tb D σ H:=UG j h0 (λi s H hi p=>⟨λz=>⟨xs,xs[i],q i s H hi p,by simp [z]⟩,λe=>⟨xs,q i s H hi p,by lia⟩⟩) (λi s H x H' z p y=>by obtain ⟨rfl,y⟩:=y;exact B i x s _ (y xs (q i s _ (Ycw z) p)) p) N
theorem Zy {K:FG}(j:Nat->St->Hp->Prop)(h0:j 0 σ H)(q:∀i σ H,i<=xs.length->j i σ H->SqT K H a xs)(B:∀i x σ H,xs[i]?=some x->j i σ H->g x σ H λL H2=>tb { D with nx:=j (i+1),ct:=j (i+1),bk:=D.nx } L H2)(N:∀ σ H,j xs.length σ H->D.nx σ H) :
  YF (Itt K a) g tb D σ H:=UG j h0 (λi s H hi p=>⟨λz=>⟨xs,xs[i],q i s H hi p,by simp [z]⟩,λe=>⟨xs,q i s H hi p,by lia⟩⟩) (λi s H x H' z p y=>by obtain ⟨rfl,y⟩:=y;exact B i x s _ (y xs (q i s _ (Ycw z) p)) p) N
theorem J2 {lo:Int}(j:Nat->St->Hp->Prop)(h0:j 0 σ H)(q:∀i σ H,i<n->j i σ H->g (.int (lo+i)) σ H λB H2=>tb { D with nx:=j (i+1),ct:=j (i+1),bk:=D.nx } B H2)(L:∀ σ H,j n σ H->D.nx σ H) :
  YF (Itr lo n) g tb D σ H:=UG j h0 (λi s H hi p=>⟨id,λe=>Nat.le_of_eq e.symm⟩) (λi s H x H' z p y=>by obtain ⟨rfl,rfl⟩:=y;exact q i s _ z p) L
noncomputable abbrev R2:=V->V->Hp->VK->Prop
noncomputable def OpR (X:Cx)(f:Aa->Aa->Sem Aa)(r:R2):Prop:=
 ∀(qQ:List (AD×Obj))(s:SS)(σ:St)(H:Hp)(x y:V)(v u:Aa)(Q:VK),Inv X qQ σ H s->RelV x v->RelV y u->r x y H Q ->
  wpAny (model X.prog X.w) X.A (f v u) (EP X qQ σ Q) X.xe s
noncomputable def UnR (X:Cx)(f:Aa->Sem Aa)(r:V->Hp->VK->Prop):Prop:=
 ∀(qQ:List (AD×Obj))(s:SS)(σ:St)(H:Hp)(x:V)(v:Aa)(Q:VK),Inv X qQ σ H s->RelV x v->r x H Q ->
  wpAny (model X.prog X.w) X.A (f v) (EP X qQ σ Q) X.xe s
noncomputable def JG (X:Cx)(f:Aa)(r:List V->Hp->VK->Prop):Prop:=
 ∀(qQ:List (AD×Obj))(s:SS)(σ:St)(H:Hp)(xs:List V)(us:LW)(Q:VK),Inv X qQ σ H s->Vals xs us->r xs H Q ->
  wpAny (model X.prog X.w) X.A (call f us) (EP X qQ σ Q) X.xe s
noncomputable def Zih (X:Cx)(r:V->Hp->(Bool->Hp->Prop)->Prop):Prop:=
 ∀(qQ:List (AD×Obj))(s:SS)(σ:St)(H:Hp)(x:V)(v:Aa)(Q:Bool->Hp->Prop),Inv X qQ σ H s->RelV x v->r x H Q ->
  wpAny (model X.prog X.w) X.A (truthy v) (TP X qQ σ Q) X.xe s
noncomputable def tOp (r:R2)(ta tb:TE):TE:=λσ H Q=>ta σ H λx H1=>tb σ H1 λy H2=>r x y H2 Q
noncomputable def tUn (r:V->Hp->VK->Prop)(ta:TE):TE:=λσ H Q=>ta σ H λx H1=>r x H1 Q
noncomputable def rI (C:Int->Int->Prop)(g:Int->Int->V):R2:=λx y H Q=>∃i j,x=.int i/\y=.int j/\C i j/\Q (g i j) H
noncomputable def rI0 (g:Int->Int->V):R2:=λx y H Q=>∃i j,x=.int i/\y=.int j/\Q (g i j) H
noncomputable def rU (g:Int->V):V->Hp->VK->Prop:=λx H Q=>∃i,x=.int i/\Q (g i) H
section
variable {X:Cx}{a b c:Expr}{ta tb tc:TE}{pos:Pos}
theorem Zhc (ha:PE X a ta)(q:PE X b tb){R:V->V->Hp->Prop}(I:Inv X qQ σ H s)(h:ta σ H λx H1=>tb σ H1 λy H2=>R x y H2){f:Aa->Aa->Sem Aa}(B:∀v u j x y H2,Inv X qQ σ H2 j->RelV x v->RelV y u->R x y H2->wpAny (model X.prog X.w) X.A (f v u) Q X.xe j) :
  wpAny (model X.prog X.w) X.A (eval a X.env) (λv D=>wpAny (model X.prog X.w) X.A (eval b X.env) (λu L=>wpAny (model X.prog X.w) X.A (f v u) Q X.xe L) X.xe D) X.xe s:=by
 refine thG (ha qQ s σ H _ I h) λv N x H1 O U Y=>?_;refine thG (q qQ N σ H1 _ O Y) λu j y H2 Z r2 q2=>?_;exact B v u j x y H2 Z U r2 q2
theorem Gm (j:OpR X (binaryOp op) r)(ha:PE X a ta)(B:PE X b tb):PE X (.BinOp a op b pos) (tOp r ta tb):=by
 intro qQ s σ H Q I h;exact wpAny_BinOp (Zhc ha B I h λv u D x y H2 L N O q=>j qQ D σ H2 x y v u Q L N O q)
theorem ZeU (j:UnR X (unaryOp op) r)(ha:PE X a ta):PE X (.UnaryOp op a pos) (tUn r ta):=by
 intro qQ s σ H Q I h;exact UnaryOp_ (thG (ha qQ s σ H _ I h) λv q x H1 B D L=>j qQ q σ H1 x v Q B D L)
theorem opI {g:Int->Int->Int}(B:∀(i j:Int)(t u:Tok)(s:SS)(Q:Aa->SS->Prop)(E:Aa->SS->Prop),C i j->Q (.int (g i j) s.toks) { s with toks:=s.toks+1 }->wpAny (model X.prog X.w) X.A (f (.int i t) (.int j u)) Q E s) :
  OpR X f (rI C λi j=>.int (g i j)):=by
 intro qQ s σ H x y v u Q I D L h;obtain ⟨i,j,rfl,rfl,N,q⟩:=h;obtain ⟨t,rfl⟩:=D;obtain ⟨O,rfl⟩:=L;exact B i j t O s _ _ N ⟨.int (g i j),H,I.tok _,⟨_,rfl⟩,q⟩
theorem ZhX {g:Int->Int->Int}(B:∀(i j:Int)(t u:Tok)(s:SS)(Q:Aa->SS->Prop)(E:Aa->SS->Prop),Q (.int (g i j) s.toks) { s with toks:=s.toks+1 }->wpAny (model X.prog X.w) X.A (f (.int i t) (.int j u)) Q E s) :
  OpR X f (rI0 λi j=>.int (g i j)):=by
 intro qQ s σ H x y v u Q I D L h;obtain ⟨i,j,rfl,rfl,q⟩:=h;obtain ⟨t,rfl⟩:=D;obtain ⟨N,rfl⟩:=L;exact B i j t N s _ _ ⟨.int (g i j),H,I.tok _,⟨_,rfl⟩,q⟩
theorem ZgL {g:Int->Int->Bool}(B:∀(i j:Int)(t u:Tok)(s:SS)(Q:Aa->SS->Prop)(E:Aa->SS->Prop),Q (.bool (g i j)) s->wpAny (model X.prog X.w) X.A (f (.int i t) (.int j u)) Q E s) :
  OpR X f (rI0 λi j=>.bl (g i j)):=by
 intro qQ s σ H x y v u Q I D L h;obtain ⟨i,j,rfl,rfl,q⟩:=h;obtain ⟨t,rfl⟩:=D;obtain ⟨N,rfl⟩:=L;exact B i j t N s _ _ ⟨.bl (g i j),H,I,rfl,q⟩
noncomputable def Zii (i j:Int):Prop:=0<=j/\j<=1000000/\i.natAbs<2 ^ 64
noncomputable def CMul (i j:Int):Prop:=(-(2 ^ 64)<i/\i<2 ^ 64)\/(-(2 ^ 64)<j/\j<2 ^ 64)
theorem CMul.ok (h:CMul i j):IntMulOk i j:=by
 rcases h with ⟨h1,h2⟩ | ⟨h1,h2⟩
 ·exact .of_left (intBits_le_64 h1 h2)
 ·exact .of_right (intBits_le_64 h1 h2)
theorem GT:OpR X (binaryOp .Add) (rI0 λi j=>.int (i+j)):=ZhX λ_ _ _ _ _ _ _ q=>add_int q
theorem JZ:OpR X (binaryOp .Sub) (rI0 λi j=>.int (i-j)):=ZhX λ_ _ _ _ _ _ _ q=>sub_int q
theorem Ug:OpR X (binaryOp .Mult) (rI CMul λi j=>.int (i * j)):=opI λ_ _ _ _ _ _ _ B q=>mul_int q B.ok
theorem GQ:OpR X (binaryOp .Mod) (rI (λ_ j=>0<j) λi j=>.int (i % j)):=opI λi j _ _ _ _ _ B q=>by
 have h1:(0:Int)<j:=B;exact mod_int' (by lia) (by rw [Int.fmod_eq_emod_of_nonneg i (by lia)];exact q)
theorem Zz:OpR X (binaryOp .Pow) (rI Zii λi j=>.int (i ^ j.toNat)):=opI λ_ _ _ _ _ _ _ B q=>pow_int_small B.1 B.2.1 B.2.2 q
noncomputable def ZhY:V->V->Bool
 | .non,.non=>true | .non,.int _=>true | .int _,.non=>true | .non,.bl _=>true | .bl _,.non=>true | .non,.str _=>true | .str _,.non=>true
 | .int _,.int _=>true | .bl _,.bl _=>true | .str _,.str _=>true | .byt _,.byt _=>true
 | .int _,.str _=>true | .str _,.int _=>true | .bl _,.str _=>true | .str _,.bl _=>true
 | _,_=>false
noncomputable def rEq:R2:=λx y H Q=>ZhY x y=true/\Q (.bl (decide (x=y))) H
noncomputable def rNe:R2:=λx y H Q=>ZhY x y=true/\Q (.bl (!decide (x=y))) H
theorem ZA :decide (V.int i=V.int j)=(i == j):=by
 rw [Bool.eq_iff_iff];simp
theorem ZcQ :decide (V.bl i=V.bl j)=(i == j):=by
 rw [Bool.eq_iff_iff];simp
theorem ZB :decide (V.str i=V.str j)=(i == j):=by
 rw [Bool.eq_iff_iff];simp
theorem ZC :decide (V.byt i=V.byt j)=(i.toList == j.toList):=by
 rw [Bool.eq_iff_iff];cases i;cases j;simp
theorem Gw (I:Inv X qQ σ H s)(q:Q (.bl k) H)(e:k=j):EP X qQ σ Q (.bool j) s:=by
 subst e;exact ⟨.bl k,H,I,rfl,q⟩
theorem Ou:OpR X (compareOp .Eq) rEq:=by
 intro qQ s σ H x y v u Q I N B h;obtain ⟨L,q⟩:=h;cases x with
 | non=>
  cases N;cases y with
  | non=>cases B;exact PySem.EqNone.eq_none_none (Gw I q (by simp))
  | bl j=>cases B;exact PySem.EqNone.eq_none_bool (Gw I q (by simp))
  | int j=>obtain ⟨D,rfl⟩:=B;exact PySem.EqNone.eq_none_int (Gw I q (by simp))
  | str j=>obtain ⟨D,rfl⟩:=B;exact PySem.EqNone.eq_none_str (Gw I q (by simp))
  | _=>exact absurd (show false=true from L) Yaq
 | bl i=>
  cases N;cases y with
  | non=>cases B;exact PySem.EqNone.eq_bool_none (Gw I q (by simp))
  | bl j=>cases B;exact eq_bool (Gw I q ZcQ)
  | str j=>obtain ⟨D,rfl⟩:=B;exact PySem.EqMixed.eq_bool_str (Gw I q (by simp))
  | _=>exact absurd (show false=true from L) Yaq
 | int i=>
  obtain ⟨t,rfl⟩:=N;cases y with
  | non=>cases B;exact PySem.EqNone.eq_int_none (Gw I q (by simp))
  | int j=>obtain ⟨D,rfl⟩:=B;exact eq_int (Gw I q ZA)
  | str j=>obtain ⟨D,rfl⟩:=B;exact PySem.EqMixed.eq_int_str (Gw I q (by simp))
  | _=>exact absurd (show false=true from L) Yaq
 | str i=>
  obtain ⟨t,rfl⟩:=N;cases y with
  | non=>cases B;exact PySem.EqNone.eq_str_none (Gw I q (by simp))
  | bl j=>cases B;exact PySem.EqMixed.eq_str_bool (Gw I q (by simp))
  | int j=>obtain ⟨D,rfl⟩:=B;exact PySem.EqMixed.eq_str_int (Gw I q (by simp))
  | str j=>obtain ⟨D,rfl⟩:=B;exact eq_str (Gw I q ZB)
  | _=>exact absurd (show false=true from L) Yaq
 | byt i=>
  obtain ⟨t,rfl⟩:=N;cases y with
  | byt j=>obtain ⟨D,rfl⟩:=B;exact W.eq_bytes (Gw I q ZC)
  | _=>exact absurd (show false=true from L) Yaq
 | _=>cases y <;> exact absurd (show false=true from L) Yaq
theorem ZbH:OpR X (compareOp .NotEq) rNe:=by
 intro qQ s σ H x y v u Q I N B h;obtain ⟨L,q⟩:=h;cases x with
 | non=>
  cases N;cases y with
  | non=>cases B;exact PySem.EqNone.ne_none_none (Gw I q (by simp))
  | bl j=>cases B;exact PySem.EqNone.ne_none_bool (Gw I q (by simp))
  | int j=>obtain ⟨D,rfl⟩:=B;exact PySem.EqNone.ne_none_int (Gw I q (by simp))
  | str j=>obtain ⟨D,rfl⟩:=B;exact PySem.EqNone.ne_none_str (Gw I q (by simp))
  | _=>exact absurd (show false=true from L) Yaq
 | bl i=>
  cases N;cases y with
  | non=>cases B;exact PySem.EqNone.ne_bool_none (Gw I q (by simp))
  | bl j=>cases B;exact ne_bool (Gw I q (Ybg not ZcQ))
  | str j=>obtain ⟨D,rfl⟩:=B;exact PySem.EqMixed.ne_bool_str (Gw I q (by simp))
  | _=>exact absurd (show false=true from L) Yaq
 | int i=>
  obtain ⟨t,rfl⟩:=N;cases y with
  | non=>cases B;exact PySem.EqNone.ne_int_none (Gw I q (by simp))
  | int j=>obtain ⟨D,rfl⟩:=B;exact ne_int (Gw I q (Ybg not ZA))
  | str j=>obtain ⟨D,rfl⟩:=B;exact PySem.EqMixed.ne_int_str (Gw I q (by simp))
  | _=>exact absurd (show false=true from L) Yaq
 | str i=>
  obtain ⟨t,rfl⟩:=N;cases y with
  | non=>cases B;exact PySem.EqNone.ne_str_none (Gw I q (by simp))
  | bl j=>cases B;exact PySem.EqMixed.ne_str_bool (Gw I q (by simp))
  | int j=>obtain ⟨D,rfl⟩:=B;exact PySem.EqMixed.ne_str_int (Gw I q (by simp))
  | str j=>obtain ⟨D,rfl⟩:=B;exact ne_str (Gw I q (Ybg not ZB))
  | _=>exact absurd (show false=true from L) Yaq
 | byt i=>
  obtain ⟨t,rfl⟩:=N;cases y with
  | byt j=>obtain ⟨D,rfl⟩:=B;exact W.ne_bytes (Gw I q (Ybg not ZC))
  | _=>exact absurd (show false=true from L) Yaq
 | _=>cases y <;> exact absurd (show false=true from L) Yaq
theorem Zds:OpR X (compareOp .Lt) (rI0 λi j=>.bl (decide (i<j))):=ZgL λ_ _ _ _ _ _ _ q=>lt_int q
theorem ZeV:OpR X (compareOp .LtE) (rI0 λi j=>.bl (decide (i<=j))):=ZgL λ_ _ _ _ _ _ _ q=>le_int q
theorem ZD:OpR X (compareOp .Gt) (rI0 λi j=>.bl (decide (j<i))):=ZgL λ_ _ _ _ _ _ _ q=>gt_int q
theorem Zhd:OpR X (compareOp .GtE) (rI0 λi j=>.bl (decide (j<=i))):=ZgL λ_ _ _ _ _ _ _ q=>ge_int q
theorem Zdt:OpR X (compareOp .IsNot) (λx y H Q=>y=.non/\Q (.bl (!decide (x=.non))) H):=by
 intro qQ s σ H x y v u Q I j B h;obtain ⟨rfl,q⟩:=h;cases B;refine isnot_none_gen (Gw I q ?_);cases x <;> first
  | (cases j;rfl)
  | (obtain ⟨t,rfl⟩:=j;rfl)
theorem ZcR (b:Expr)(h:op≠.In:=by decide)(h2:op≠.NotIn:=by decide):behindInMarks op b=false:=by
 have j:(op == CmpOp.In)=false:=by cases op <;> first | rfl | exact absurd rfl h
 have q:(op == CmpOp.NotIn)=false:=by cases op <;> first | rfl | exact absurd rfl h2
 cases b <;> simp [behindInMarks,j,q]
theorem Zdu (j:OpR X (compareOp op) r)(ha:PE X a ta)(B:PE X b tb)(D:behindInMarks op b=false):PE X (.Compare a [op] [b] pos) (tOp r ta tb):=by
 intro qQ s σ H Q I h;exact wpAny_Compare1 (Zhc ha B I h λv u L x y H2 N O U q=>j qQ L σ H2 x y v u Q N O U q) D
noncomputable def ZeW (t:TE):TT:=λσ H Q=>t σ H λx H'=>∃k,x=.bl k/\Q k H'
theorem ZE (j:OpR X (compareOp op) r)(ha:PE X a ta)(q:PE X b tb)(B:behindInMarks op b=false):PT X (.Compare a [op] [b] pos) (ZeW (tOp r ta tb)):=by
 intro qQ s σ H Q I h;refine wpAny_isTrue_Compare1 (thG (ha qQ s σ H _ I h) λv D x H1 L N O=>thG (q qQ D σ H1 _ L O) λu U y H2 Y Z q2=>
  thG (j qQ U σ H2 x y v u _ Y N Z q2) λc s3 z H3 I3 r3 ⟨k,e,q3⟩=>?_) B
 subst e;cases r3;exact Yds ⟨H3,I3,q3⟩
noncomputable def Zhe (K:FG)(x:V)(H:Hp)(k:Bool):Prop:=
 match x with
 | .non=>k=false
 | .bl b=>k=b
 | .int i=>k=(i != 0)
 | .str y=>y.length<=sizeLine/\k=((y.length:Int) != 0)
 | .byt y=>y.size<=sizeLine/\k=((y.size:Int) != 0)
 | .ref p=>(∃xs,SqL K H p xs/\k=!xs.isEmpty)\/(∃xs,SqT K H p xs/\k=!xs.isEmpty)\/∃kvs,H p=some (.dK kvs)/\k=!kvs.isEmpty
 | _=>False
theorem YG {κ:Type}{kvs:List (κ×V)}{vs:List (κ×Aa)}(r:KV kvs vs):(!vs.isEmpty)=!kvs.isEmpty:=by
 cases r <;> rfl
theorem Vi (r:Vals xs its):(!its.toArray.isEmpty)=!xs.isEmpty:=by
 cases r <;> simp
theorem XJ:(sizeLine:Nat)<2 ^ 63:=by rw [Ybd];decide
theorem ZeX:Zih X (λx H Q=>∃k,Zhe X.K x H k/\Q k H):=by
 intro qQ s σ H x v Q I B h;obtain ⟨k,e,q⟩:=h;have Z:=XJ;have hs:sizeLine=16777216:=Ybd;cases x with
 | non=>
  cases B;have j:k=false:=e;subst j;exact truthy_none ⟨H,I,q⟩
 | bl b=>
  cases B;have j:k=b:=e;subst j;exact Yds ⟨H,I,q⟩
 | int i=>
  obtain ⟨t,rfl⟩:=B;have j:k=(i != 0):=e;subst j;exact PySem.P.truthy_int ⟨H,I,q⟩
 | str y=>
  obtain ⟨t,rfl⟩:=B;obtain ⟨U,j⟩:y.length<=sizeLine/\k=((y.length:Int) != 0):=e;subst j;exact PySem.P.truthy_str (by lia) ⟨H,I.tok _,q⟩
 | byt y=>
  obtain ⟨t,rfl⟩:=B;obtain ⟨U,j⟩:y.size<=sizeLine/\k=((y.size:Int) != 0):=e;subst j;exact W.truthy_bytes (by lia) ⟨H,I.tok _,q⟩
 | ref p=>
  cases B;have j:(∃xs,SqL X.K H p xs/\k=!xs.isEmpty)\/(∃xs,SqT X.K H p xs/\k=!xs.isEmpty)\/∃kvs,H p=some (.dK kvs)/\k=!kvs.isEmpty:=e;rcases j with ⟨xs,D,j⟩ | ⟨xs,D,j⟩ | ⟨kvs,D,j⟩
  ·subst j;obtain ⟨its,r,L,N⟩:=I.list D;have O:=r.length;exact wpAny_truthy_list L.isList (by simp only [Yas];lia) ⟨H,I.tok _,by rw [Vi r];exact q⟩
  ·subst j;obtain ⟨its,r,L,N⟩:=I.tuple D;have O:=r.length;exact truthy_tuple L (by simp only [Yas];lia) ⟨H,I.tok _,by rw [Vi r];exact q⟩
  ·subst j;obtain ⟨N,Y,vs,r,m⟩:kvs.length<=sizeLine/\(p == sysModules)=false/\∃vs,KV kvs vs/\s.heap.DictOf (G7 X.prog X.w) p vs:=I.hok p _ D;have O:kvs.length=vs.length:=Ycv r;exact wpAny_truthy_dict Y m (by lia) ⟨H,I.tok _,by rw [YG r];exact q⟩
 | _=>exact (show False from e).elim
theorem Uu (ha:PE X a ta)(q:∀j,isTrue a X.env j=(do let v <- j;standAt a.pos;holding [v] (truthy v))) :
  PT X a (λσ H Q=>ta σ H λx H'=>∃k,Zhe X.K x H' k/\Q k H'):=by
 intro qQ s σ H Q I h;exact isTrue_plain (thG (ha qQ s σ H _ I h) λv B x H1 D L N=>ZeX qQ B σ H1 x v Q D L N) (q _)
theorem Zdv (r:Vals [x] us):∃u,us=[u]/\RelV x u:=by
 cases r with
 | cons r1 r2=>cases r2;exact ⟨_,rfl,r1⟩
theorem Zhf (r:Vals [x,y] us):∃u j,us=[u,j]/\RelV x u/\RelV y j:=by
 cases r with
 | cons r1 r2=>
  cases r2 with
  | cons r3 r4=>cases r4;exact ⟨_,_,rfl,r1,r3⟩
theorem ZG (D:X.calm=true):JG X (.builtin "min") (λxs H Q=>∃i j,xs=[.int i,.int j]/\Q (.int (if j<i then j else i)) H):=by
 intro qQ s σ H xs us Q I r h;obtain ⟨i,j,rfl,q⟩:=h;obtain ⟨u,L,rfl,⟨t,rfl⟩,⟨N,rfl⟩⟩:=Zhf r;refine min_two_ints (I.ok.hd D) λh' tk k=>⟨_,H,I.kept k,?_,q⟩;by_cases B:j<i
 ·rw [if_pos B,if_pos B];exact ⟨_,rfl⟩
 ·rw [if_neg B,if_neg B];exact ⟨_,rfl⟩
end
structure ObjM (h:Heap)(x dx C:AD)(mA:Str->Option Aa):Prop where
 obj:h.get? x=some (W.instObj C dx)
 ns:h.Ns1 dx mA
 ne:dx≠x
theorem ZH {h:Heap}(n:h.Ns1 dx mA):∃B,h.get? dx=some B/\∀name,W.lookIn name B=some (mA name):=by
 obtain ⟨o,es,ep,D,L,N,_,O⟩:=n;refine ⟨o,D,λname=>?_⟩;have e:=O name;unfold nsFind findBy at e;rw [<-Array.find?_toList] at e;unfold W.lookIn;rw [L];dsimp only;split
 ·rename_i y q;rw [q] at e;exact Ybg some e
 ·rename_i q;rw [q] at e;have a:es.toList.any (·.refKey)=false:=by
   rw [List.any_eq_false];intro y U;obtain ⟨z,t,j⟩:=N y (Array.mem_toList_iff.mp U);simp [DictEntry.refKey,j]
  have Y:¬ es.toList.any (·.refKey)=true:=by rw [a];exact Yaq
  rw [if_neg Y];exact Ybg some e
theorem ObjM.look (I:ObjM h x dx C mA):∃j,W.InstAt h x (W.instObj C dx) C (some j)/\∀name,W.lookIn name j=some (mA name):=
 let ⟨j,ho,hl⟩:=ZH I.ns
 ⟨j,⟨I.obj,rfl,rfl,ho⟩,hl⟩
section
variable {prog:PP}{w:Ab}{A:Around}{E:Aa->SS->Prop}{s:SS}{K:FG}{x dx C f:AD}{mA:Str->Option Aa}{name:Str}{v:Aa}
theorem Zdw (X:K.In s.heap)(I:ObjM s.heap x dx C mA)(B:W.plainGet K C name=true)(D:W.hasDictIn K C=true)(ha:W.findIn K (.ref C) name=some none)(L:mA name=some v)(q:W.handedIn v=true)(h:Q v { s with toks:=s.toks+1 }) :
  wpAny (model prog w) A (getAttr (.ref x) name j) Q E s:=by
 obtain ⟨O,J,N⟩:=I.look;exact W.get_value X J (W.plainGet_of B).1 (W.findObj_own D ha rfl (by rw [N,L])) q h
theorem ZbI (X:K.In s.heap)(I:ObjM s.heap x dx C mA)(j:W.plainGet K C name=true)(q:W.findIn K (.ref C) name=some (some (.ref f)))(B:W.isFn K (.ref f)=true)(D:mA name=none)(h:Q (.ref f,[.ref x]) s) :
  wpAny (model prog w) A (getMethod (.ref x) name pl) Q E s:=by
 obtain ⟨L,J,N⟩:=I.look;exact W.method_fn X J (W.plainGet_of j).1 (W.plainGet_of j).2 q (Ybh.mp B) (by show (W.lookIn name L).map (·.isSome)=some false;rw [N,D];rfl) h
theorem Zdx (X:K.In s.heap)(I:ObjM s.heap x dx C mA)(O:W.findIn K (.ref C) "__setattr__" = some (some (.builtin "object.__setattr__")))(U:W.plainOver K C=true)(Y:W.takerIn K C name=some none)(Z:W.hasDictIn K C=true)(hw:PySem.Within mA ns)(hsz:ns.length<=sizeLine)(h:∀h',ObjM h' x dx C (λy=>if y=name then some v else mA y)->Heap.SameBut dx s.heap h'->Q () { s with heap:=h',toks:=s.toks+2 }) :
  wpAny (model prog w) A (setAttr (.ref x) name v) Q E s:=by
 obtain ⟨od,J,hl⟩:=I.look;refine W.set_plain X J O (W.osa_open (s:={ s with toks:=s.toks+1 }) (r:=none) X J U Y λb=>?_);obtain ⟨cd,hc,B⟩:=W.any_some Z;have hx:s.heap.get? x=some ⟨.ref C,some dx,.plain,#[]⟩:=I.obj;refine Yaa (Yab (Yaa (Yaa (wpAny_loadPart hx (Yaa (W.Looks.here (s:={ s with toks:=s.toks+1 }) (W.looks_clsIn X hc) ?_))))));rw [B];refine Yab (a:=some dx) (Yaa (Yab (Yaa ?_)));refine wpAny_nsSet1 (s:={ s with toks:=s.toks+1 }) I.ns λh' j q=>?_;obtain ⟨oD,aa,ab,D,L,N⟩:=j.count (PySem.Within.cons name v hw);refine Yaa (wpAny_lookBehind D (by rw [L];exact pastItsLine_dict (Ybr N (by rw [Ybo];lia))) ?_);exact Yab (h _ ⟨(q.2 _ (Ne.symm I.ne)).trans I.obj,j,I.ne⟩ q)
theorem ZbJ (X:K.In s.heap)(q:W.makesIn K C=true)(hi:W.findIn K (.ref C) "__init__" = some (some (.ref f)))(B:W.typeIn K (.ref f)=some (.type "function"))(h:codeAny (model prog w) (A.under (.builtin "type.__call__" ⟨.ref C::vs,kw⟩)) (.call (.ref f) ⟨.ref (s.heap.objs.size+1)::vs,kw⟩) (W.InitBack (s.heap.objs.size+1) R)
   { s with heap:=(s.heap.push W.emptyDict).push (W.instObj C s.heap.objs.size) }) :
  codeAny (model prog w) A (.call (.ref C) ⟨vs,kw⟩) R s:=by
 obtain ⟨D,g,d,t,L⟩:=s;exact W.make_core (W.makes_of X q) (W.looks_findIn X hi) (λj=>W.bind_fn X j B) (.inl rfl) h
end
noncomputable def Uh (f:Str)(v:V):List (Str×V)->List (Str×V)
 | []=>[(f,v)]
 | (g,x)::r=>if g=f then (g,v)::r else (g,x)::Uh f v r
theorem Gz (f g:Str)(v:V):∀fs:List (Str×V),(Uh f v fs).lookup g=if g=f then some v else fs.lookup g
 | []=>by
  show List.lookup g [(f,v)]=_;by_cases h:g=f
  ·have hb:(g == f)=true:=Ybh.mpr h;simp only [List.lookup,hb,if_pos h]
  ·have hb:(g == f)=false:=Ydy.mpr h;simp only [List.lookup,hb,if_neg h]
 | (k,x)::r=>by
  have q:=Gz f g v r;rw [show Uh f v ((k,x)::r)=(if k=f then (k,v)::r else (k,x)::Uh f v r) from rfl];by_cases j:k=f
  ·rw [if_pos j];by_cases h:g=k
   ·have hb:(g == k)=true:=Ybh.mpr h;simp only [List.lookup,hb,if_pos (h.trans j)]
   ·have hb:(g == k)=false:=Ydy.mpr h;simp only [List.lookup,hb,if_neg (λe:g=f=>h (e.trans j.symm))]
  ·rw [if_neg j];by_cases h:g=k
   ·have hb:(g == k)=true:=Ybh.mpr h;simp only [List.lookup,hb,if_neg (λe:g=f=>j (h.symm.trans e))]
   ·have hb:(g == k)=false:=Ydy.mpr h;simp only [List.lookup,hb];exact q
theorem UH (f:Str)(v:V):∀fs:List (Str×V),f∈(Uh f v fs).map (·.1)/\∀g,g∈fs.map (·.1)->g∈(Uh f v fs).map (·.1)
 | []=>⟨by simp [Uh],λg h=>by simp at h⟩
 | (k,x)::r=>by
  obtain ⟨i1,i2⟩:=UH f v r;rw [show Uh f v ((k,x)::r)=(if k=f then (k,v)::r else (k,x)::Uh f v r) from rfl];by_cases j:k=f
  ·rw [if_pos j];subst j;exact ⟨by simp,λg h=>by simpa using h⟩
  ·rw [if_neg j];refine ⟨?_,λg h=>?_⟩
   ·rw [Yap];exact Ybf _ i1
   ·rw [Yap] at h ⊢;rcases Yav.mp h with e | e
    ·exact Yav.mpr (.inl e)
    ·exact Ybf _ (i2 g e)
theorem UI (f:Str)(v:V):∀fs:List (Str×V),(Uh f v fs).length<=fs.length+1
 | []=>by simp [Uh]
 | (k,x)::r=>by
  have ih:=UI f v r;rw [show Uh f v ((k,x)::r)=(if k=f then (k,v)::r else (k,x)::Uh f v r) from rfl];by_cases j:k=f
  ·rw [if_pos j,Ybo,Ybo];lia
  ·rw [if_neg j,Ybo,Ybo];lia
theorem RelO.some_of (r:RelO (some v) o):∃u,o=some u/\RelV v u:=by
 cases o with
 | none=>exact (show False from r).elim
 | some u=>exact ⟨u,rfl,r⟩
theorem RelO.none_of (r:RelO none o):o=none:=by
 cases o with
 | none=>rfl
 | some u=>exact (show False from r).elim
theorem ZI (r:RelV v u):W.handedIn u=true:=by
 cases v with
 | non=>cases (show u=Value.none from r);rfl
 | bl b=>cases (show u=Value.bool b from r);rfl
 | int i=>obtain ⟨t,e⟩:=(show ∃t,u=Value.int i t from r);cases e;rfl
 | str x=>obtain ⟨t,e⟩:=(show ∃t,u=Value.str x t from r);cases e;rfl
 | byt b=>obtain ⟨t,e⟩:=(show ∃t,u=Value.bytes b t from r);cases e;rfl
 | flt b=>obtain ⟨t,e⟩:=(show ∃t,u=Value.float b t from r);cases e;rfl
 | ref a=>cases (show u=Value.ref a from r);rfl
 | ty n=>cases (show u=Value.type n from r);rfl
section
variable {P:PP}{w:Ab}{H H':Hp}{h h':Heap}{a C dx:AD}{fs fs':List (Str×V)}
theorem VI (j:HOk P w H h)(e:H a=some (.ins C dx fs)):∃mA,ObjM h a dx C mA/\(∀f,RelO (fs.lookup f) (mA f))/\PySem.Within mA (fs.map (·.1))/\fs.length<=1000/\H dx=some (.own a):=by
 obtain ⟨d,z,B,D,mA,n,r,q⟩:=(show ObjOk P w H h a (.ins C dx fs) from j a _ e);exact ⟨mA,⟨D,n,B⟩,r,q,z,d⟩
end
structure Cls (K:FG)(C:AD):Prop where
 pg:W.plainGet K C Str.empty=true
 hd:W.hasDictIn K C=true
 po:W.plainOver K C=true
 sa:W.findIn K (.ref C) "__setattr__" = some (some (.builtin "object.__setattr__"))
theorem Cls.get {K:FG}(c:Cls K C)(f:Str):W.plainGet K C f=true:=c.pg
noncomputable def NoAttr (K:FG)(C:AD)(f:Str):Prop:=W.findIn K (.ref C) f=some none
theorem NoAttr.taker {K:FG}(n:NoAttr K C f):W.takerIn K C f=some none:=by
 unfold W.takerIn;rw [show W.findIn K (.ref C) f=some none from n]
 rfl
structure Zhg (K:FG)(C:AD)(m:Str)(f:AD):Prop where
 at_:W.findIn K (.ref C) m=some (some (.ref f))
 fn:W.isFn K (.ref f)=true
 kp:W.keepIn K (.ref f)=true
section
variable {X:Cx}{qQ:List (AD×Obj)}{σ:St}{H:Hp}{s:SS}{a C dx:AD}{fs:List (Str×V)}{f:Str}{v:V}{A:Around}{E:Aa->SS->Prop}
theorem YH (I:Inv X qQ σ H s)(e:H a=some (.ins C dx fs))(c:Cls X.K C)(n:NoAttr X.K C f)(l:fs.lookup f=some v)(h:∀u s',Inv X qQ σ H s'->RelV v u->Q u s'):wpAny (model X.prog X.w) A (getAttr (.ref a) f b) Q E s:=by
 obtain ⟨mA,O,r,_,_,_⟩:=VI I.hok e;obtain ⟨u,q,j⟩:=RelO.some_of (v:=v) (o:=mA f) (by rw [<-l];exact r f);exact Zdw I.kIn O (c.get f) c.hd n q (ZI j) (h u _ (I.tok _) j)
theorem YI (I:Inv X qQ σ H s)(e:H a=some (.ins C dx fs))(c:Cls X.K C)(k:Zhg X.K C m g)(l:fs.lookup m=none)(h:Q (.ref g,[.ref a]) s):wpAny (model X.prog X.w) A (getMethod (.ref a) m pl) Q E s:=by
 obtain ⟨mA,O,r,_,_,_⟩:=VI I.hok e;have j:mA m=none:=RelO.none_of (by rw [<-l];exact r m);exact ZbI I.kIn O (c.get m) k.at_ k.fn j h
theorem YJ (I:Inv X qQ σ H s)(e:H a=some (.ins C dx fs))(c:Cls X.K C)(n:NoAttr X.K C f)(hl:fs.length<1000)(D:RelV y u)(h:∀s',Inv X qQ σ (upd H a (.ins C dx (Uh f y fs))) s'->Q () s'):wpAny (model X.prog X.w) A (setAttr (.ref a) f u) Q E s:=by
 obtain ⟨mA,O,r,wi,_,B⟩:=VI I.hok e;have L:(fs.map (·.1)).length<=sizeLine:=by rw [Yac,Ybd];lia
 refine Zdx I.kIn O c.sa c.po n.taker c.hd wi L λh' j N=>h _ ?_;have U:∃o,h'.get? dx=some o:=let ⟨o,_,_,e',_⟩:=j.ns;⟨o,e'⟩;refine I.write (x:=a) (e:=dx) (by rw [e];exact True.intro) (.inr B) (λb q Y z=>(N.2 b Y).trans z) U ?_;refine ⟨by rw [Gi O.ne];exact B,?_,O.ne,j.obj,_,j.ns,λg=>?_,λg Z=>?_⟩
 ·have:=UI f y fs;lia
 ·show RelO ((Uh f y fs).lookup g) (if g=f then some u else mA g);rw [Gz];by_cases q:g=f
  ·rw [if_pos q,if_pos q];exact D
  ·rw [if_neg q,if_neg q];exact r g
 ·by_cases q:g=f
  ·rw [q];exact (UH f y fs).1
  ·refine (UH f y fs).2 g (wi g λz=>Z ?_);show (if g=f then some u else mA g)=none;rw [if_neg q];exact z
theorem Inv.made (I:Inv X qQ σ H s):Inv X qQ σ (upd (upd H s.heap.objs.size (.own (s.heap.objs.size+1))) (s.heap.objs.size+1) (.ins C s.heap.objs.size []))
  { s with heap:=(s.heap.push W.emptyDict).push (W.instObj C s.heap.objs.size) }:=by
 have j:(s.heap.push W.emptyDict).get? s.heap.objs.size=some W.emptyDict:=Ybb s.heap rfl;have D:((s.heap.push W.emptyDict).push (W.instObj C s.heap.objs.size)).get? (s.heap.objs.size+1)=some (W.instObj C s.heap.objs.size):=by
  have:=Ybb (s.heap.push W.emptyDict) (o:=W.instObj C s.heap.objs.size) rfl
  rwa [Ybz] at this
 have L:(s.heap.push W.emptyDict).Ns s.heap.objs.size (λ_=>none):=⟨W.emptyDict,#[],_,j,rfl,(λe N=>absurd N (by simp)),λ_=>rfl⟩;have O:=I.laid (a:=s.heap.objs.size) (o:=.own (s.heap.objs.size+1)) (h':=s.heap.push W.emptyDict) (t':=s.toks) (λb u q=>Yah _ q) (Yae _) ⟨_,j⟩;refine O.laid (a:=s.heap.objs.size+1) (o:=.ins C s.heap.objs.size []) (t':=s.toks) (λb u q=>Yah _ q) (Nat.le_of_eq (Ybz _ _)) ?_;have B:s.heap.objs.size≠s.heap.objs.size+1:=Yar (Nat.lt_succ_self _);refine ⟨by rw [Gi B,Gb],Yax _,B,D,λ_=>none,(Heap.Ns1.of_empty L).at λo q=>Yah _ q,λ_=>True.intro,λy U=>absurd rfl U⟩
theorem Zdy {f:Str}{s:SS}(j:attributeBase e f env (eval e env)=eval e env)(h:wpAny (model prog w) A (eval e env) (λo q=>wpAny (model prog w) A (getAttr o f true) Q E q) E s):wpAny (model prog w) A (eval (.Attribute e f pos) env) Q E s:=
 Attribute_any_ h (by rw [arm_eval_Attribute,j])
end
noncomputable def Zij (K:FG)(ta:TE)(f:Str):TE:=λσ H Q=>ta σ H λx H1=>∃a C dx fs v,x=.ref a/\H1 a=some (.ins C dx fs)/\Cls K C/\NoAttr K C f/\fs.lookup f=some v/\Q v H1
noncomputable def Zik (K:FG)(ta tv:TE)(f:Str):TS:=λD σ H=>tv σ H λy H1=>ta σ H1 λx H2=>∃a C dx fs,x=.ref a/\H2 a=some (.ins C dx fs)/\Cls K C/\NoAttr K C f/\fs.length<1000 /\
 D.nx σ (upd H2 a (.ins C dx (Uh f y fs)))
section
variable {X:Cx}{o e value:Expr}{f:Str}{pos pos' tpos:Pos}{ta tv:TE}
theorem OD (j:PE X e ta)(B:attributeBase e f X.env (eval e X.env)=eval e X.env):PE X (.Attribute e f pos) (Zij X.K ta f):=by
 intro qQ s σ H Q I h;refine Zdy B (thG (j qQ s σ H _ I h) λu Y x H1 D L ⟨a,C,dx,fs,v,ex,N,c,n,l,q⟩=>?_);subst ex;obtain rfl:u=Value.ref a:=L;exact YH D N c n l λZ s2 O U=>⟨v,H1,O,U,q⟩
theorem ZJ (ha:PE X o ta)(j:PE X value tv)(B:swapsWith value (some (.Attribute o f pos')) pos.line X.env=pure false):PS X (.Assign [.Attribute o f pos'] value pos) (Zik X.K ta tv f):=by
 intro qQ s σ H D I h;refine plainObj_wpAny_Assign_Attribute (thG (j qQ s σ H _ I h) λu L y H1 N O q=>thG (ha qQ L σ H1 _ N q) λU s2 x H2 Y Z ⟨a,C,dx,fs,ex,ea,c,n,l,q2⟩=>?_) B;subst ex;obtain rfl:U=Value.ref a:=Z;exact YJ Y ea c n l O λs3 I3=>⟨σ,_,I3,q2⟩
end
section
variable {X:Cx}{qQ:List (AD×Obj)}{σ:St}{H:Hp}{s:SS}{A:Around}{E:Aa->SS->Prop}{Q:Aa->SS->Prop}{c:Aa}{b:Bool}
inductive YK (K:FG)(H:Hp):V->Aa->Prop where
 | non:YK K H .non (.type "NoneType")
 | bl (x:Bool):YK K H (.bl x) (.type "bool")
 | int (i:Int):YK K H (.int i) (.type "int")
 | str (x:Str):YK K H (.str x) (.type "str")
 | flt (x:UInt64):YK K H (.flt x) (.type "float")
 | lst {a:AD} {xs:List V} (e:H a=some (.lst xs)):YK K H (.ref a) (.type "list")
 | frz {a:AD} {o:Obj} {xs:List V} (e:H a=some (.frz o (.lst xs))):YK K H (.ref a) (.type "list")
 | tup {a:AD} {xs:List V} (e:H a=some (.tup xs)):YK K H (.ref a) (.type "tuple")
 | dK {a:AD} {kvs:List (Key×V)} (e:H a=some (.dK kvs)):YK K H (.ref a) (.type "dict")
 | dT {a:AD} {kvs:List (List Key×V)} (e:H a=some (.dT kvs)):YK K H (.ref a) (.type "dict")
 | ins {a C dx:AD} {fs:List (Str×V)} (e:H a=some (.ins C dx fs)) (cl:Cls K C) (ha:W.findIn K (.ref C) "__class__" = some (some (.builtin "object.__class__")))
   (hn:W.specialIn K (.builtin "object.__class__") "__get__" = some (some (.builtin "getset_descriptor.__get__"))) (htk:W.takesIn K (.builtin "object.__class__")=some true)
   (hm:W.mroIn K C (.type "object")=some true):YK K H (.ref a) (.ref C)
theorem ZK (I:Inv X qQ σ H s)(j:RelV x u)(ty:YK X.K H x t)(e:W.kitOne X.K t c=some b)(h:∀tk,Q (.bool b) { s with toks:=tk }) :
  wpAny (model X.prog X.w) A (call (.builtin "isinstance") [u,c]) Q E s:=by
 cases ty with
 | non=>cases (show u=Value.none from j);exact Ydd W.kitx_none I.kIn True.intro e (λz=>nomatch z) h
 | bl y=>cases (show u=Value.bool y from j);exact Ydd W.kitx_bool I.kIn True.intro e (λz=>nomatch z) h
 | int i=>obtain ⟨t,q⟩:=(show ∃t,u=Value.int i t from j);cases q;exact Ydd W.kitx_int I.kIn True.intro e (λz=>nomatch z) h
 | str y=>obtain ⟨t,q⟩:=(show ∃t,u=Value.str y t from j);cases q;exact Ydd W.kitx_str I.kIn True.intro e (λz=>nomatch z) h
 | flt y=>obtain ⟨t,q⟩:=(show ∃t,u=Value.float y t from j);cases q;exact Ydd W.kitx_float I.kIn True.intro e (λz=>nomatch z) h
 | @lst a xs ea=>
  cases (show u=Value.ref a from j);obtain ⟨_,_,n,_,h1⟩:=(show ObjOk X.prog X.w H s.heap a (.lst xs) from I.hok a _ ea);exact Ydd W.kitx_list I.kIn ⟨_,h1,rfl⟩ e (λz=>nomatch z) h
 | @frz a ob xs ea=>
  cases (show u=Value.ref a from j);obtain ⟨_,_,_,n,_,h1⟩:=(show ObjOk X.prog X.w H s.heap a (.frz ob (.lst xs)) from I.hok a _ ea);exact Ydd W.kitx_list I.kIn ⟨_,h1,rfl⟩ e (λz=>nomatch z) h
 | @tup a xs ea=>
  cases (show u=Value.ref a from j);obtain ⟨_,_,_,p⟩:=(show ObjOk X.prog X.w H s.heap a (.tup xs) from I.hok a _ ea);obtain ⟨o,h1,h2,_⟩:=p;exact Ydd W.kitx_tuple I.kIn ⟨o,h1,h2⟩ e (λz=>nomatch z) h
 | @dK a kvs ea=>
  cases (show u=Value.ref a from j);obtain ⟨_,_,vs,_,p⟩:=(show ObjOk X.prog X.w H s.heap a (.dK kvs) from I.hok a _ ea);obtain ⟨o,es,ep,h1,h2,_⟩:=p;exact Ydd W.kitx_dict I.kIn ⟨o,h1,h2.1⟩ e (λz=>nomatch z) h
 | @dT a kvs ea=>
  cases (show u=Value.ref a from j);obtain ⟨_,_,xs,_,o,es,ep,h1,h2,_⟩:=(show ObjOk X.prog X.w H s.heap a (.dT kvs) from I.hok a _ ea);exact Ydd W.kitx_dict I.kIn ⟨o,h1,h2.1⟩ e (λz=>nomatch z) h
 | @ins a C dx fs ea cl ha hn htk hm=>
  cases (show u=Value.ref a from j);obtain ⟨mA,O,_⟩:=VI I.hok ea;obtain ⟨B,J,_⟩:=O.look;exact Ydd (W.kitx_own (cl.get _) cl.hd ha hn htk hm) I.kIn J e (λz=>nomatch z) h
end
structure Room (k:Nat)(A:Around):Prop where
 hd:A.handled=none
 dp:A.depth+3 * k+5<recursionLimit
 un:A.units+16 * k+200<cLine
theorem Room.mono (r:Room k A)(h:j<=k):Room j A:=⟨r.hd,by have:=r.dp;lia,by have:=r.un;lia⟩
theorem Room.deeper (r:Room (k+1) A)(env:Env):Room k (A.deeper env):=
 ⟨r.hd,by have:=r.dp;show A.depth+1+3 * k+5<_;lia,by have:=r.un;show A.units+3+16 * k+200<_;lia⟩
theorem YL {A:Around}:(A.under (.builtin "type.__call__" ⟨.ref C::us,kw⟩)).depth=A.depth+1:=by
 first | rfl | simp [Around.under,Code.weight,Code.isCreation,Code.isGuard,Code.isCaller,Code.frames,Code.isFrame,guardIds]
theorem YM {A:Around}:(A.under (.builtin "type.__call__" ⟨.ref C::us,kw⟩)).units=A.units+1:=by
 first | rfl | simp [Around.under,Code.cUnits,Code.frames,Code.isFrame]
theorem Room.make (r:Room (k+1) A)(C:AD)(us:LW)(kw:List (Str×Aa)):Room k (A.under (.builtin "type.__call__" ⟨.ref C::us,kw⟩)):=
 ⟨r.hd,by have:=r.dp;rw [YL];lia,by have:=r.un;rw [YM];lia⟩
theorem Room.depth (r:Room k A):A.depth<recursionLimit:=by have:=r.dp;lia
theorem Room.units (r:Room k A):A.units+64<cLine:=by have:=r.un;lia
noncomputable def ZL:TA:=λ_ H Q=>Q [] H
noncomputable def UJ (ta:TE)(j:TA):TA:=λσ H Q=>ta σ H λx H1=>j σ H1 λxs H2=>Q (x::xs) H2
section
variable {X:Cx}{e:Expr}{es:List Expr}{te:TE}{t:TA}{pos:Pos}
theorem Ge:PA X [] ZL:=λ_ _ _ _ H Q I h=>Calls.spliced_nil ⟨[],H,I,.nil,h⟩
theorem Ga (ha:PE X e te)(j:PA X es t)(q:starEach (e::es) X.env=(false,eval e X.env)::starEach es X.env:=by rfl):PA X (e::es) (UJ te t):=by
 intro pos qQ s σ H Q I h;rw [q];show wpAny _ _ (spliced ((false,eval e X.env)::backTo pos (starEach es X.env))) _ _ s;refine Calls.spliced_cons (thG (ha qQ s σ H _ I h) λu B x H1 D L N=>?_);exact thG (j pos qQ B σ H1 _ D N) λus Z xs H2 O U Y=>⟨x::xs,H2,O,.cons L U,Y⟩
noncomputable def Zhh (t:TA):TE:=λσ H Q=>t σ H λxs H1=>xs.length<=sizeLine/\∀p,H1 p=none->Q (.ref p) (upd H1 p (.tup xs))
noncomputable def ZeY (t:TA):TE:=λσ H Q=>t σ H λxs H1=>xs.length<=sizeLine/\∀p,H1 p=none->Q (.ref p) (upd H1 p (.lst xs))
theorem GC {x1}(h:PA X es t):PE X (.Tuple es x1 pos) (Zhh t):=by
 intro qQ s σ H Q I D;refine wpAny_Tuple_spliced (thG (h pos qQ s σ H _ I D) λus j xs H1 B r ⟨z,q⟩=>⟨by rw [<-r.length];exact z,?_⟩);have L:H1 j.heap.objs.size=none:=B.hok.fresh (Yae _);refine ⟨.ref j.heap.objs.size,upd H1 j.heap.objs.size (.tup xs),B.laid (t':=j.toks) (λb u e=>Yah _ e) (Yae _) ?_,rfl,q _ L⟩;exact ⟨z,us,r,⟨_,Ybb _ rfl,rfl,_,rfl⟩⟩
theorem Gx (h:PA X es t):PE X (.List es pos) (ZeY t):=by
 intro qQ s σ H Q I D;refine wpAny_List_spliced (thG (h pos qQ s σ H _ I D) λus j xs H1 B r ⟨z,q⟩=>⟨by rw [<-r.length];exact z,?_⟩);have L:H1 j.heap.objs.size=none:=B.hok.fresh (Yae _);refine ⟨.ref j.heap.objs.size,upd H1 j.heap.objs.size (.lst xs),B.laid (t':=j.toks) (λb u e=>Yah _ e) (Yae _) ?_,rfl,q _ L⟩;exact ⟨z,us,0,r,Ybb _ rfl⟩
end
noncomputable abbrev Sp:=List V->Hp->VK->XK->Prop
noncomputable abbrev CXT:=List Env->Hp->SS->XK->Aa->SS->Prop
structure Env0 (P:PP)(w:Ab)(K:FG)(mg:Str->Option Aa)(base:Heap)(A:Around)(outer:List Env)(s:SS)(H:Hp):Prop where
 frames:A.frames=some outer
 mod:Mod K mg base
 bs:∀b o,base.get? b=some o->s.heap.get? b=some o/\H b=none
 bsz:base.objs.size<=s.heap.objs.size
 funs:s.heap.FunFrames base outer
 frf:∀b∈frs outer,H b=none
 hok:HOk P w H s.heap
 bare:AllBare s.gens
noncomputable def CE (outer:List Env)(P:PP)(w:Ab)(H:Hp)(s:SS)(Q:VK)(u:Aa)(s':SS):Prop:=
 ∃v H',s'.os=s.os/\AllBare s'.gens/\Un (frs outer) [] H H' s.heap s'.heap/\HOk P w H' s'.heap/\RelV v u/\Q v H'
noncomputable def CR (CX:CXT)(outer:List Env)(P:PP)(w:Ab)(H:Hp)(s:SS)(Q:VK)(E:XK)(r:Result)(s':SS):Prop:=
 match r with
 | .ok (.ret u)=>CE outer P w H s Q u s'
 | .ok _=>False
 | .error e=>CX outer H s E e s'
structure GG (P:PP)(w:Ab)(K:FG)(mg:Str->Option Aa)(base:Heap)(CX:CXT)(k:Nat)(f:AD)(fd:FuncData)(ps:List Str)(sp:Sp):Prop where
 len:∀vs H Q E,sp vs H Q E->vs.length=ps.length
 run:∀(A:Around)(outer:List Env)(s:SS)(H:Hp)(args:Args)(us:LW)(vs:List V)(Q:VK)(E:XK),Room k A->Env0 P w K mg base A outer s H->BindsTo s fd args (ps.zip us)->Vals vs us->sp vs H Q E ->
  codeAny (model P w) A (.call (.ref f) args) (CR CX outer P w H s Q E) s
theorem Env0.make {K:FG}(e:Env0 P w K mg base A outer s H)(C:AD)(us:LW)(kw:List (Str×Aa)) :
  Env0 P w K mg base (A.under (.builtin "type.__call__" ⟨.ref C::us,kw⟩)) outer s H:=⟨by first | exact e.frames | (simpa [Around.under,Code.envs,Code.isFrame,pushEnvs] using e.frames),e.mod,e.bs,e.bsz,e.funs,e.frf,e.hok,e.bare⟩
section
variable {X:Cx}{qQ:List (AD×Obj)}{σ:St}{H:Hp}{s s':SS}
theorem Inv.env0 (I:Inv X qQ σ H s):Env0 X.prog X.w X.K X.mg X.base X.A X.stack s H:=
 ⟨I.ok.frames,I.ok.mod,I.bs,Ybr I.ok.bsz I.sz,I.stack,I.stkFree,I.hok,I.bare⟩
theorem Inv.after (I:Inv X qQ σ H s)(h:CE X.stack X.prog X.w H s Q u s'):EP X qQ σ Q u s':=by
 obtain ⟨v,H',L,j,un,B,r,q⟩:=h;obtain ⟨N,g,d,t,D⟩:=s';obtain rfl:D=s.os:=L;exact ⟨v,H',I.call (h':=N) (g':=g) (d':=d) (t':=t) (ch:=[]) un B j (λb z=>absurd z (by simp)),r,q⟩
end
noncomputable def Zdz (sp:Sp)(dvs:List V)(E:XK)(t:TA):TE:=λσ H Q=>t σ H λvs H1=>sp (vs++dvs) H1 Q E
noncomputable def Zhi (C:AD)(m:Str)(sp:Sp)(dvs:List V)(E:XK)(ta:TE)(t:TA):TE:=λσ H Q=>ta σ H λx H1=>∃a dx fs,x=.ref a/\H1 a=some (.ins C dx fs)/\fs.lookup m=none /\
 t σ H1 λvs H2=>sp (x::(vs++dvs)) H2 Q E
noncomputable def Zhj (C:AD)(sp:Sp)(dvs:List V)(E:XK)(t:TA):TE:=λσ H Q=>t σ H λvs H1=>∀x dx,H1 x=none->H1 dx=none->dx≠x ->
 sp (.ref x::(vs++dvs)) (upd (upd H1 dx (.own x)) x (.ins C dx [])) (λv H2=>v=.non/\Q (.ref x) H2) E
noncomputable def Binds (K:FG)(fd:FuncData)(ps:List Str)(ds:LW):Prop:=
 ∀(s:SS)(us:LW),K.In s.heap->(us++ds).length=ps.length->BindsTo s fd ⟨us,[]⟩ (ps.zip (us++ds))
theorem Binds.all {K:FG}(h:∀us:LW,us.length=ps.length->bindArgs fd ⟨us,[]⟩=pure (ps.zip us)):Binds K fd ps []:=λs us _ j=>by
 rw [Yef] at j ⊢;exact .of_eq (h us j)
noncomputable def Oo (CX:CXT)(X:Cx)(E:XK):Prop:=∀(qQ:List (AD×Obj))(σ:St)(H:Hp)(s:SS)(e:Aa)(s':SS),Inv X qQ σ H s->CX X.stack H s E e s'->X.xe e s'
section
variable {X:Cx}{CX:CXT}{k:Nat}{f C:AD}{fd:FuncData}{ps:List Str}{sp:Sp}{dvs:List V}{ds:LW}{E:XK}{x m:Str}{p pos apos:Pos}{e o:Expr}{es:List Expr}{ta:TE}{t:TA}
theorem ZM (F:GG X.prog X.w X.K X.mg X.base CX k f fd ps sp)(B:Room k X.A)(D:Binds X.K fd ps ds)(L:Vals dvs ds)(N:Oo CX X E)(I:Inv X qQ σ H s)(r:Vals vs us)(h:sp (vs++dvs) H Q E):wpAny (model X.prog X.w) X.A (call (.ref f) us) (EP X qQ σ Q) X.xe s:=by
 have q:Vals (vs++dvs) (us++ds):=r.append L;have O:(us++ds).length=ps.length:=by rw [<-q.length];exact F.len _ _ _ _ h
 refine wpAny_call (codeAny_mono (F.run X.A X.stack s H ⟨us,[]⟩ (us++ds) (vs++dvs) Q E B I.env0 (D s us I.kIn O) q h) λr s' j=>?_);cases r with
 | error e=>exact N qQ σ H s e s' I j
 | ok fl=>
  cases fl with
  | ret u=>exact I.after j
  | next=>exact False.elim j
  | brk=>exact False.elim j
  | cont=>exact False.elim j
theorem VJ (F:GG X.prog X.w X.K X.mg X.base CX k f fd ps sp)(L:Room k X.A)(N:Gl X x)(O:X.mg x=some (.ref f))(U:W.keepIn X.K (.ref f)=true)(Y:Binds X.K fd ps ds)(Z:Vals dvs ds)(hx:Oo CX X E)(ha:PA X (e::es) t)(j:(x == ("__debug__" : Str))=false:=by decide)(he:starEach (e::es) X.env=(false,eval e X.env)::starEach es X.env:=by rfl)(B:(backTo pos (starEach es X.env)).any (·.1)=false:=by rfl) :
  PE X (.Call (.Name x p) (e::es) [] pos) (Zdz sp dvs E t):=by
 intro qQ s σ H Q I h;refine Yeg (O4 I N O ?_ j);refine W.callWith_K (h₀:=X.base) I.ok.mod.kin U (thG (ha pos qQ s σ H _ I h) λus s1 vs H1 D r q=>⟨D.kIn,?_⟩) he B;exact ZM F L Y Z hx D r q
theorem ZdA (O:PE X o ta)(c:Cls X.K C)(D:Zhg X.K C m f)(F:GG X.prog X.w X.K X.mg X.base CX k f fd ps sp)(U:Room k X.A)(Y:Binds X.K fd ps ds)(Z:Vals dvs ds)(hx:Oo CX X E)(ha:PA X (e::es) t)(j:starEach (e::es) X.env=(false,eval e X.env)::starEach es X.env:=by rfl)(B:(backTo pos (starEach es X.env)).any (·.1)=false:=by rfl)(ht:eval (.Call (.Attribute o m apos) (e::es) [] pos) X.env=(do
   let ov <- eval o X.env
   standAt apos.atName
   let (f,first) <- holding [ov] (getMethod ov m pl)
   callWith pos f first (backTo pos (starEach (e::es) X.env)) (backToKw pos (keywordEach [] X.env))):=by rfl) :
  PE X (.Call (.Attribute o m apos) (e::es) [] pos) (Zhi C m sp dvs E ta t):=by
 intro qQ s σ H Q I h;refine W.methodCall_KW (pl:=pl) (thG (O qQ s σ H _ I h) λu s1 x H1 L rx ⟨a,dx,fs,ex,ea,l,q⟩=>?_) ht;subst ex;obtain rfl:u=Value.ref a:=rx;refine YI L ea c D l ?_;refine W.callWith_K (first:=[.ref a]) (h₀:=X.base) I.ok.mod.kin D.kp (thG (ha pos qQ s1 σ H1 _ L q) λus s2 vs H2 N r q2=>⟨N.kIn,?_⟩) j B;exact ZM (us:=.ref a::us) (vs:=.ref a::vs) F U Y Z hx N (.cons rfl r) q2
structure Mk (K:FG)(C f:AD):Prop where
 makes:W.makesIn K C=true
 init:W.findIn K (.ref C) "__init__" = some (some (.ref f))
 fn:W.isFn K (.ref f)=true
 kp:W.keepIn K (.ref C)=true
theorem ZbK (M:Mk X.K C f)(F:GG X.prog X.w X.K X.mg X.base CX k f fd ps sp)(L:Room (k+1) X.A)(N:Binds X.K fd ps ds)(O:Vals dvs ds)(U:Oo CX X E)(I:Inv X qQ σ H s)(r:Vals vs us)(h:∀x dx,H x=none->H dx=none->dx≠x->sp (.ref x::(vs++dvs)) (upd (upd H dx (.own x)) x (.ins C dx [])) (λv H2=>v=.non/\Q (.ref x) H2) E) :
  wpAny (model X.prog X.w) X.A (call (.ref C) us) (EP X qQ σ Q) X.xe s:=by
 have B:=h (s.heap.objs.size+1) s.heap.objs.size (I.hok.fresh (Yde _)) (I.hok.fresh (Yae _)) (Yar (Nat.lt_succ_self _));have q:=Inv.made (C:=C) I;have D:Vals (V.ref (s.heap.objs.size+1)::(vs++dvs)) (Value.ref (s.heap.objs.size+1)::(us++ds)):=.cons rfl (r.append O);have Y:(Value.ref (s.heap.objs.size+1)::us++ds).length=ps.length:=by
  have e:=D.length;rw [F.len _ _ _ _ B] at e;exact e.symm
 refine wpAny_call (ZbJ (f:=f) I.kIn M.makes M.init (Ybh.mp M.fn) (codeAny_mono (F.run _ X.stack _ _ ⟨Value.ref (s.heap.objs.size+1)::us,[]⟩ (Value.ref (s.heap.objs.size+1)::(us++ds)) _ _ E (L.make C us [])
  (q.env0.make C us []) (N _ (Value.ref (s.heap.objs.size+1)::us) q.kIn Y) D B) λr s' j=>?_))
 cases r with
 | error e=>exact U qQ σ _ _ e s' q j
 | ok fl=>
  cases fl with
  | ret u=>
   obtain ⟨v,H',Z,rv,ev,q3⟩:=q.after j;subst ev;exact ⟨rv,⟨V.ref (s.heap.objs.size+1),H',Z,rfl,q3⟩⟩
  | next=>exact False.elim j
  | brk=>exact False.elim j
  | cont=>exact False.elim j
theorem ZdB (M:Mk X.K C f)(F:GG X.prog X.w X.K X.mg X.base CX k f fd ps sp)(L:Room (k+1) X.A)(N:Gl X x)(O:X.mg x=some (.ref C))(U:Binds X.K fd ps ds)(Y:Vals dvs ds)(Z:Oo CX X E)(ha:PA X (e::es) t)(j:(x == ("__debug__" : Str))=false:=by decide)(he:starEach (e::es) X.env=(false,eval e X.env)::starEach es X.env:=by rfl)(B:(backTo pos (starEach es X.env)).any (·.1)=false:=by rfl) :
  PE X (.Call (.Name x p) (e::es) [] pos) (Zhj C sp dvs E t):=by
 intro qQ s σ H Q I h;refine Yeg (O4 I N O ?_ j);refine W.callWith_K (h₀:=X.base) I.ok.mod.kin M.kp (thG (ha pos qQ s σ H _ I h) λus s1 vs H1 D r q=>⟨D.kIn,?_⟩) he B;exact ZbK M F L U Y Z D r q
end
noncomputable def PK (X:Cx)(kws:List Keyword)(t:TA):Prop:=
 ∀(pos:Pos)(qQ:List (AD×Obj))(s:SS)(σ:St)(H:Hp)(Q:List V->Hp->Prop),Inv X qQ σ H s->t σ H Q->wpAny (model X.prog X.w) X.A (evalAll ((backToKw pos (keywordEach kws X.env)).map (·.2))) (AP X qQ σ Q) X.xe s
section
variable {X:Cx}{CX:CXT}{k:Nat}{f C:AD}{fd:FuncData}{ps ks:List Str}{sp:Sp}{E:XK}{x m:Str}{p pos apos kpos:Pos}{e o:Expr}{es:List Expr}{kws:List Keyword}{te ta:TE}{t tk:TA}{nm:Option Str}
theorem ZcS:PK X [] ZL:=λ_ _ _ _ H Q I h=>wpAny_evalAll_nil ⟨[],H,I,.nil,h⟩
theorem VL (ha:PE X e te)(j:PK X kws t):PK X (⟨nm,e,kpos⟩::kws) (UJ te t):=by
 intro pos qQ s σ H Q I h;show wpAny _ _ (evalAll ((do let v <- eval e X.env;standAt pos;pure v)::(backToKw pos (keywordEach kws X.env)).map (·.2))) _ _ s;refine wpAny_evalAll_cons (Yaa (thG (ha qQ s σ H _ I h) λu q x H1 B D L=>Yaa (wpAny_standAt (Yab ?_))));exact thG (j pos qQ q σ H1 _ B L) λus Y xs H2 N O U=>⟨x::xs,H2,N,.cons D O,U⟩
variable {g:LW->LW->LW}{gV:List V->List V->List V}
end
structure Go (N P:List Str)(sc:Scope):Prop where
 kind:sc.kind=.function
 co:sc.isCoroutine=false
 gen:sc.isGenerator=false
 nd:N.Nodup
 pre:N.take P.length=P
 par:∀x∈P,sc.names.lookup x=some .local\/sc.names.lookup x=some .cell
 nofree:∀y∈sc.names,y.2≠.free
theorem Wv {j:Str->Option NameKind}{x:Str}:∀{binds:List (Str×Aa)}{m:Str->Option Aa},(∀v,(x,v) ∉ binds)->bindL j binds m x=m x
 | [],_,_=>rfl
 | (n,v)::r,m,h=>by
  unfold bindL;rw [Wv λw q=>h w (Ybf _ q)];split
  ·have:x≠n:=by rintro rfl;exact h v Ybj
   simp [this]
  ·rfl
theorem Ww {j:Str->Option NameKind}{x:Str}:∀{binds:List (Str×Aa)}{m:Str->Option Aa},(∀v,(x,v) ∉ binds)->bindC j binds m x=m x
 | [],_,_=>rfl
 | (n,v)::r,m,h=>by
  unfold bindC;rw [Ww λw q=>h w (Ybf _ q)];split
  ·rfl
  ·have:x≠n:=by rintro rfl;exact h v Ybj
   simp [this]
theorem Wx {kindOf:Str->Option NameKind}{x:Str}{v:Aa}:∀{P:List Str}{vs:LW}{i:Nat}{m:Str->Option Aa},P.Nodup->P[i]?=some x->vs[i]?=some v->kindOf x=some .local ->
  bindL kindOf (P.zip vs) m x=some v
 | [],_,_,_,_,h,_,_=>by simp at h
 | _::_,[],_,_,_,_,h,_=>by simp at h
 | p::P,w::vs,0,m,nd,h1,h2,hk=>by
  simp at h1 h2;subst h1;subst h2;show bindL kindOf ((p,w)::P.zip vs) m p=_;unfold bindL;rw [Wv λv hv=>(List.nodup_cons.mp nd).1 (List.of_mem_zip hv).1,if_pos hk];simp
 | p::P,w::vs,i+1,m,nd,h1,h2,hk=>by
  show bindL kindOf ((p,w)::P.zip vs) m x=_;unfold bindL;exact Wx (i:=i) (List.nodup_cons.mp nd).2 (by simpa using h1) (by simpa using h2) hk
theorem Wy {kindOf:Str->Option NameKind}{x:Str}{v:Aa}:∀{P:List Str}{vs:LW}{i:Nat}{m:Str->Option Aa},P.Nodup->P[i]?=some x->vs[i]?=some v->kindOf x≠some .local ->
  bindC kindOf (P.zip vs) m x=some v
 | [],_,_,_,_,h,_,_=>by simp at h
 | _::_,[],_,_,_,_,h,_=>by simp at h
 | p::P,w::vs,0,m,nd,h1,h2,hk=>by
  simp at h1 h2;subst h1;subst h2;show bindC kindOf ((p,w)::P.zip vs) m p=_;unfold bindC;rw [Ww λv hv=>(List.nodup_cons.mp nd).1 (List.of_mem_zip hv).1,if_neg hk];simp
 | p::P,w::vs,i+1,m,nd,h1,h2,hk=>by
  show bindC kindOf ((p,w)::P.zip vs) m x=_;unfold bindC;exact Wy (i:=i) (List.nodup_cons.mp nd).2 (by simpa using h1) (by simpa using h2) hk
noncomputable def start (N:List Str)(vs:List V):St:=vs.map some++List.replicate (N.length-vs.length) none
noncomputable def YN (CX:CXT)(P:PP)(w:Ab)(K:FG)(mg:Str->Option Aa)(base:Heap)(N:List Str)(qual:Str)(scope:Scope)(f:AD)(cd:Aa)(A:Around)(outer:List Env)(s:SS)(H:Hp)(E:XK):Cx where
 prog:=P
 w:=w
 K:=K
 mg:=mg
 base:=base
 A:=A.deeper (envOfC qual scope s.heap.objs.size f cd)
 N:=N
 s₀:=s
 H₀:=H
 env:=envOfC qual scope s.heap.objs.size f cd
 outer:=outer
 stack:=envOfC qual scope s.heap.objs.size f cd::outer
 ex:=[]
 calm:=true
 fn:=λ_=>true
 pn:=[]
 xe:=λe s'=>wpAny (model P w) (A.deeper (envOfC qual scope s.heap.objs.size f cd)) (leaving (envOfC qual scope s.heap.objs.size f cd) e) (λ_ s''=>CX outer H s E e s'') (λe' s''=>CX outer H s E e' s'') s'
theorem XM {j:Scope}(h:j.names.lookup x=some .cell):∃c,(cellsFrom n j.names []).lookup x=some c:=by
 have q:=W.cellsFrom_some j.names n [] (.inl h);exact Yeh.mp q
theorem ZN {K:FG}(S:Go N ps scope)(hd:A.handled=none)(j:Env0 P w K mg base A outer s H)(hl:vs.length=ps.length)(r:Vals vs us)(x:InCallC s s.heap.objs.size (bindL (envOfC qual scope s.heap.objs.size f U).kindOf (ps.zip us) λ_=>none) (cellsFrom (s.heap.objs.size+1) scope.names []) (bindC (envOfC qual scope s.heap.objs.size f U).kindOf (ps.zip us) λ_=>none) Y) :
  Inv (YN CX P w K mg base N qual scope f U A outer s H E) [] (start N vs) H Y:=by
 have aa:ps.length<=N.length:=by have:=Ybg List.length S.pre;rw [Ybn] at this;lia
 obtain ⟨h1,tk,rfl,Z⟩:=x.done;have B:∀b:AD,b ∉ (YN CX P w K mg base N qual scope f U A outer s H E).ex:=λb z=>absurd (show b∈([]:List AD) from z) (by simp);refine ⟨⟨j.mod,S.kind,rfl,rfl,Yae _,λy z c h1 h2=>?_,λy D=>?_,λy c _ h=>?_,λ_=>hd,Around.frames_deeper j.frames,.inr ⟨rfl,rfl⟩,λb z=>absurd z (B b),j.bs,j.bsz,λb _ _=>B b,λb z=>absurd z (B b),j.funs,j.frf⟩,
  rfl,j.bare,Un.kept Z,⟨_,x.toInCall.ns,λi y v h1 h2 h3=>?_⟩,λy c h=>⟨_,x.cell y c h⟩,j.hok.fresh (Yae _),λy c h=>?_,λp L=>absurd (show p∈([]:List (AD×Obj)) from L) (by simp),j.hok.kept Z,?_⟩
 ·exact name_of_addr x.apart (Ydu h1) (Ydu h2)
 ·have D:scope.names.lookup y=some .cell\/scope.names.lookup y=some .free:=D;rcases D with D | D
  ·exact XM D
  ·exact absurd rfl (S.nofree _ (Ydu D))
 ·exact Ycw (x.above y c (Ydu h))
 ·have hi:i<vs.length:=by
   unfold start at h2;by_cases hi:i<vs.length
   ·exact hi
   ·rw [Ydv (by simpa using hi)] at h2;rw [List.getElem?_replicate] at h2;split at h2 <;> cases h2
  have ha:vs[i]?=some v:=by
   unfold start at h2;rw [Ycx (by simpa using hi),Yay] at h2;cases e:vs[i]? with
   | none=>rw [e] at h2;cases h2
   | some a=>rw [e] at h2;cases h2;rfl
  obtain ⟨u,hu,rv⟩:=r.get ha;have L:ps[i]?=some y:=by
   rw [<-S.pre,List.getElem?_take_of_lt (by lia)];exact h1
  have O:ps.Nodup:=by rw [<-S.pre];exact S.nd.sublist (List.take_sublist _ _)
  refine ⟨u,rv,?_⟩;rcases S.par y (Yaz L) with k | k
  ·exact .inl ⟨k,Wx O L hu k⟩
  ·obtain ⟨c,e⟩:=XM (n:=s.heap.objs.size+1) k;refine .inr ⟨.inl k,c,e,?_⟩;have q:=x.cell y c e;rw [Wy O L hu (by show scope.names.lookup y≠_;rw [k];decide)] at q;exact q
 ·exact j.hok.fresh (Ycw (x.above y c (Ydu h)))
 ·unfold start;show _=N.length;rw [Yam,Yac,List.length_replicate]
  lia
theorem ZO {K:FG}{dV kV L pm j ct oc:Aa}(lk:K.lookup f=some ⟨oc,od,.func (W.fnOf name qual params body scope dV kV L pm an j ct),Z⟩)(aa:W.codeIn K j qual=true)(S:Go N ps scope)(len:∀vs H Q E,sp vs H Q E->vs.length=ps.length)(jZ:∀(A:Around)(outer:List Env)(s:SS)(H:Hp)(vs:List V)(Q:VK)(E:XK),Room k (A.deeper (envOfC qual scope s.heap.objs.size f j))->sp vs H Q E ->
   ∃t,PSs (YN CX P w K mg base N qual scope f j A outer s H E) body t/\t { nx:=λ_ H'=>Q .non H',rt:=Q } (start N vs) H) :
  GG P w K mg base CX (k+1) f (W.fnOf name qual params body scope dV kV L pm an j ct) ps sp:=by
 refine ⟨len,λA outer s H ac us vs Q E hr O hb r U=>?_⟩;have hl:=len _ _ _ _ U;have KX:K.In s.heap:=O.mod.kin.keeps λb o e=>(O.bs b o e).1;have ab:s.heap.NoLimit:=O.mod.nolimit.keeps λb o e=>(O.bs b o e).1;have B:∀y∈ps.zip us,scope.names.lookup y.1=some .local\/(scope.names.lookup y.1=some .cell/\((cellsFrom (s.heap.objs.size+1) scope.names []).lookup y.1).isSome=true):=λ⟨n,v⟩ hy=>by
  rcases S.par n (List.of_mem_zip hy).1 with q | q
  ·exact .inl q
  ·exact .inr ⟨q,W.cellsFrom_some _ _ _ (.inl q)⟩
 refine codeAny_call_function hr.depth (KX _ _ lk) rfl S.co S.gen rfl (W.codeRec_of KX aa) (hb _ _ _ _ ?_);refine wpAny_newFunctionEnv_cells S.kind B λad he s1 x=>?_;subst he;refine ⟨ab.keeps x.toInCall.keep,codeAny_func ?_⟩;obtain ⟨t,ht,hq⟩:=jZ A outer s H vs Q E (hr.deeper _) U;have I:Inv (YN CX P w K mg base N qual scope f j A outer s H E) [] (start N vs) H s1:=ZN S hr.hd O hl r x;refine Ybs (ht [] s1 (start N vs) H _ I hq) (λfl s' D=>?_) λe s' D=>D;have fin:∀{Y:St}{H':Hp}{v:V}{u:Aa},Inv (YN CX P w K mg base N qual scope f j A outer s H E) [] Y H' s'->RelV v u->Q v H'->CE outer P w H s Q u s':=
  λ{Y H' v u} J rv q=>⟨v,H',J.os,J.bare,J.base,J.hok,rv,q⟩
 cases fl with
 | ret u=>
  obtain ⟨v,Y,H',J,rv,q⟩:=D;exact fin J rv q
 | next=>
  obtain ⟨Y,H',J,q⟩:=D;exact fin (v:=V.non) (u:=Value.none) J rfl q
 | brk=>
  obtain ⟨_,_,_,q⟩:=D;exact False.elim q
 | cont=>
  obtain ⟨_,_,_,q⟩:=D;exact False.elim q
section
variable {X:Cx}{x:Str}{p pos:Pos}{e:Expr}{es:List Expr}{t:TA}{id T:String}{r:List V->Hp->VK->Prop}
noncomputable def tCB (r:List V->Hp->VK->Prop)(t:TA):TE:=λσ H Q=>t σ H λvs H1=>r vs H1 Q
theorem Jb (B:JG X (.builtin id) r)(D:Gl X x)(L:X.mg x=none)(N:bootBuiltins x=some (.builtin id))(ha:PA X (e::es) t)(O:x ≠ "__name__" := by decide)(j:(x == ("__debug__" : Str))=false:=by decide)(U:starEach (e::es) X.env=(false,eval e X.env)::starEach es X.env:=by rfl)(q:(backTo pos (starEach es X.env)).any (·.1)=false:=by rfl):PE X (.Call (.Name x p) (e::es) [] pos) (tCB r t):=by
 intro qQ s σ H Q I h;refine Yeg (OB I D L N ?_ O j);exact PyProof.Rows.callWith_builtin1 (thG (ha pos qQ s σ H _ I h) λus Y vs H1 Z r1 q1=>B qQ Y σ H1 vs us Q Z r1 q1) U q
theorem ZP (B:JG X (.type T) r)(D:Gl X x)(L:X.mg x=none)(N:bootBuiltins x=some (.type T))(ha:PA X (e::es) t)(O:x ≠ "__name__" := by decide)(j:(x == ("__debug__" : Str))=false:=by decide)(U:starEach (e::es) X.env=(false,eval e X.env)::starEach es X.env:=by rfl)(q:(backTo pos (starEach es X.env)).any (·.1)=false:=by rfl):PE X (.Call (.Name x p) (e::es) [] pos) (tCB r t):=by
 intro qQ s σ H Q I h;refine Yeg (OB I D L N ?_ O j);exact Yfq (thG (ha pos qQ s σ H _ I h) λus Y vs H1 Z r1 q1=>B qQ Y σ H1 vs us Q Z r1 q1) U q
end
end L2
namespace HT
open PySem PyProof.Rows
section
variable {prog:PP}{w:Ab}{A:Around}{E:Aa->SS->Prop}{s:SS}
theorem cat_tup (ht:IsTup s.heap t vs.toArray)(hb:IsTup s.heap b j.toArray)(Z:vs≠[])(h1:j=[]->Q (.ref t) s)(h2:j≠[]->Q (.ref s.heap.objs.size) { s with heap:=s.heap.push { cls:=.type "tuple", data:=.seq (vs++j).toArray } })(hsz:vs.length+j.length<=sizeLine):wpAny (model prog w) A (binaryOp .Add (.ref t) (.ref b)) Q E s:=by
 obtain ⟨⟨cls,dd,data,sl⟩,O,hc,n,hd⟩:=id ht;obtain ⟨⟨aa,B,Y,D⟩,q,L,n2,N⟩:=id hb;simp only at hc hd L N;subst hc hd L N;have e:vs.toArray++j.toArray=(vs++j).toArray:=by simp
 by_cases U:j=[]
 ·exact concat_meets ⟨_,O,rfl⟩ ⟨_,q,rfl⟩ noFill_tuple_add seq_tuple_add PySem.F.slot_tuple_add PySem.F.entry_tuple_add (PySem.F.args_tuple_add_2 _ _)
   (tuple_addW1 t b vs.toArray j.toArray n n2 dd B sl D (by simpa using Z) (by simp [U])) ⟨O,q,h1 U⟩
 ·refine concat_meets ⟨_,O,rfl⟩ ⟨_,q,rfl⟩ noFill_tuple_add seq_tuple_add PySem.F.slot_tuple_add PySem.F.entry_tuple_add (PySem.F.args_tuple_add_2 _ _)
   (tuple_addW2 t b vs.toArray j.toArray n n2 dd B sl D (by simpa using Z) (by simpa using U) (by rw [Yas,Yas];exact hsz)) ⟨O,q,?_⟩
  rw [e];exact h2 U
noncomputable def sIx (n d:Nat):Option Int->Nat
 | none=>d
 | some v=>if v<0 then (v+(n:Int)).toNat else min v.toNat n
theorem sIx_nat (n d k:Nat):sIx n d (some (k:Int))=min k n:=by
 show (if (k:Int)<0 then ((k:Int)+(n:Int)).toNat else min (k:Int).toNat n)=min k n;rw [if_neg (by lia),Ydf]
theorem ZeZ (n d:Nat)(q:d<=n)(o:Option Int):sIx n d o<=n:=by
 cases o with
 | none=>exact q
 | some v=>
  show (if v<0 then (v+(n:Int)).toNat else min v.toNat n)<=n;by_cases j:v<0
  ·rw [if_pos j];lia
  ·rw [if_neg j];exact Nat.min_le_right _ _
theorem ZQ (v:Int)(n d:Nat):(if v<0 then max (v+(n:Int)) 0 else min v (n:Int))=((sIx n d (some v):Nat):Int):=by
 show (if v<0 then max (v+(n:Int)) 0 else min v (n:Int))=(((if v<0 then (v+(n:Int)).toNat else min v.toNat n):Nat):Int);by_cases j:v<0
 ·simp only [if_pos j];lia
 ·simp only [if_neg j];lia
theorem YO (lo hi:Option Int)(n:Nat):Builtin.Slice.sliceAdjust lo hi 1 (n:Int)=(((sIx n 0 lo:Nat):Int),((sIx n n hi:Nat):Int)):=by
 have h1:¬ ((1:Int)<0):=by lia
 unfold Builtin.Slice.sliceAdjust;simp only [h1,Ycj];refine Prod.ext ?_ ?_
 ·cases lo with
  | none=>rfl
  | some v=>exact ZQ v n 0
 ·cases hi with
  | none=>rfl
  | some v=>exact ZQ v n n
theorem YQ (i j:Nat):Builtin.Slice.slicePlaces (i:Int) (j:Int) 1=j-i:=by
 unfold Builtin.Slice.slicePlaces;have h1:(1:Int) > 0:=by lia
 simp only [h1,if_true,Int.ediv_one];split <;> lia
theorem Vj (p:IsPart v o)(h:Q o s):wpAny (model prog w) A (Builtin.Slice.slicePartIndex v) Q E s:=by
 cases p with
 | none=>exact slicePart_none h
 | int i t=>exact slicePart_int h
theorem sliceApplied_gen {lo hi:Option Int}{n:Nat}(L:s.heap.IsSliceOf sl B D .none)(pl:IsPart B lo)(N:IsPart D hi)(h:Q (((sIx n 0 lo:Nat):Int),1,sIx n n hi-sIx n 0 lo) s):wpAny (model prog w) A (Builtin.Slice.sliceApplied (.ref sl) (pure (n:Int))) Q E s:=by
 obtain ⟨U,j,O,q⟩:=id L;unfold Builtin.Slice.sliceApplied Builtin.Slice.sliceFields;refine Yaa (Yaa (wpAny_field j q (x:=B) rfl (Yaa (wpAny_field j q (x:=D) rfl (Yaa (wpAny_field j q (x:=.none) rfl (Yab ?_)))))));refine Yaa (slicePart_none ?_);show wpAny _ _ (if ((1:Int) == 0)=true then _ else _) _ _ s;rw [if_neg (by decide)];refine Yaa (Vj pl (Yaa (Vj N (Yaa (Yab ?_)))));show wpAny _ _ (match Builtin.Slice.sliceAdjust lo hi 1 (n:Int) with | (lo,hi)=>pure (lo,(1:Int),Builtin.Slice.slicePlaces lo hi 1)) _ _ s;rw [YO lo hi n];show wpAny _ _ (pure (((sIx n 0 lo:Nat):Int),(1:Int),Builtin.Slice.slicePlaces ((sIx n 0 lo:Nat):Int) ((sIx n n hi:Nat):Int) 1)) _ _ s;rw [YQ];exact Yab h
theorem ZbL (xs:Array Aa)(i k:Nat):((List.range k).filterMap λ(m:Nat)=>xs[((i:Int)+(m:Int) * 1).toNat]?).toArray=((xs.toList.drop i).take k).toArray:=by
 have e:(λ(m:Nat)=>xs[((i:Int)+(m:Int) * 1).toNat]?)=λm=>xs[i+m]?:=by
  funext m
  have:((i:Int)+(m:Int) * 1).toNat=i+m:=by lia
  rw [this]
 rw [e];have:=pick_run xs i k;rw [List.filterMap_map] at this;have j:((λx=>xs[x]?)∘λx=>i+x)=λm=>xs[i+m]?:=rfl;rw [j] at this;rw [this]
theorem getItem_tuple_cut {lo hi:Option Int}(B:IsTup s.heap t items)(Z:s.heap.IsSliceOf sl U Y .none)(pl:IsPart U lo)(pu:IsPart Y hi)(hw:¬ (sIx items.size 0 lo=0/\sIx items.size items.size hi=items.size))(h:Q (.ref s.heap.objs.size) { s with heap:=s.heap.push { cls:=.type "tuple", data:=.seq ((items.toList.drop (sIx items.size 0 lo)).take (sIx items.size items.size hi-sIx items.size 0 lo)).toArray } })(hsz:items.size<=sizeLine):wpAny (model prog w) A (getItem (.ref t) (.ref sl)) Q E s:=by
 have j:sizeOk (.seq ((items.toList.drop (sIx items.size 0 lo)).take (sIx items.size items.size hi-sIx items.size 0 lo)).toArray):=by
  show ((items.toList.drop (sIx items.size 0 lo)).take (sIx items.size items.size hi-sIx items.size 0 lo)).toArray.size<=sizeLine;rw [Yas,Ybn,Yei,Yan]
  lia
 have hj:sIx items.size items.size hi<=items.size:=ZeZ _ _ (Yae _) hi;obtain ⟨os,D,L,aa⟩:=id Z;have N:s.TypeIs (.ref sl) "slice" := ⟨os,D,L⟩;unfold getItem
 try with_reducible refine Ycd ?_
 first | refine Yaa (Yab ?_) | skip
 refine Yaa (wpAny_sequenceKey B.typeIs (by decide) ?_);refine Yaa (Yfd (name:=Str.ofString "__getitem__") B.typeIs Yfy
  (Ycy Yfy B.typeIs entry_tuple_getitem ?_ (args_tuple_getitem _ _)))
 show wpAny _ _ (Builtin.Tuple.tupleItemsOf (.ref t) >>= _) _ _ s;refine Yaa (tupleItemsOf_ B ?_);refine Yaa (Ydz N ?_);rw [if_pos (by decide)];refine Yaa (sliceApplied_gen Z pl pu ?_);have O:¬ ((((sIx items.size 0 lo:Nat):Int) == 0 && (1:Int) == 1 && (sIx items.size items.size hi-sIx items.size 0 lo) == items.size)=true):=by
  intro q;rw [Ycl,Ycl] at q;have q1:((sIx items.size 0 lo:Nat):Int)=0:=eq_of_beq q.1.1;have q2:sIx items.size items.size hi-sIx items.size 0 lo=items.size:=eq_of_beq q.2;exact hw ⟨by lia,by lia⟩
 show wpAny _ _ (if (((sIx items.size 0 lo:Nat):Int) == 0 && (1:Int) == 1 && (sIx items.size items.size hi-sIx items.size 0 lo) == items.size)=true then _ else _) _ _ s;rw [if_neg O,ZbL]
 first
  | exact Yaa (m:=Builtin.Tuple.tupleExact _) (Ydt (Yab ⟨_,rfl,Yab h⟩) j)
  | exact Yaa (m:=Builtin.Tuple.tupleExact _) (Ydt (Yaa (Yab (Yab ⟨_,rfl,Yab h⟩))) j)
  | exact Yaa (Yaa (m:=Builtin.Tuple.tupleExact _) (Ydt (Yab (Yab ⟨_,rfl,Yab h⟩)) j))
  | exact Yaa (Yaa (m:=Builtin.Tuple.tupleExact _) (Ydt (Yab ⟨_,rfl,Yab h⟩) j))
end
end HT
namespace L2
open PySem PySem.Spec PyProof.Rows
noncomputable abbrev TO:=St->Hp->(Option Int->Hp->Prop)->Prop
noncomputable def PO (X:Cx)(e:Option Expr)(t:TO):Prop:=
 ∀(qQ:List (AD×Obj))(s:SS)(σ:St)(H:Hp)(Q:Option Int->Hp->Prop),Inv X qQ σ H s->t σ H Q ->
  wpAny (model X.prog X.w) X.A (evalPart e X.env) (λu s'=>∃o H',Inv X qQ σ H' s'/\IsPart u o/\Q o H') X.xe s
noncomputable def Xh:TO:=λ_ H Q=>Q none H
noncomputable def Ze0 (t:TE):TO:=λσ H Q=>t σ H λx H1=>∃i,x=.int i/\Q (some i) H1
theorem JQ :∀{us:LW},Vals (ns.map V.int) us->IntsAre us ns:=by
 induction ns with
 | nil=>intro us r;rw [List.map_nil] at r;cases r;exact .nil
 | cons n ns ih=>
  intro us r;rw [Yap] at r;cases r with
  | cons r1 r2=>
   obtain ⟨t,e⟩:=r1;subst e;exact .cons n t (ih r2)
section
variable {X:Cx}{e:Expr}{te:TE}{lo hi:Option Expr}{tl th:TO}{pos p2:Pos}
theorem JO:PO X none Xh:=by
 intro qQ s σ H Q I h;rw [evalPart_none];exact Yab ⟨none,H,I,.none,h⟩
theorem JW (h:PE X e te):PO X (some e) (Ze0 te):=by
 intro qQ s σ H Q I j;rw [evalPart_some];refine thG (h qQ s σ H _ I j) λu N x H1 B D L=>?_;obtain ⟨i,rfl,q⟩:=L;obtain ⟨t,rfl⟩:=D;exact ⟨some i,H1,B,.int i t,q⟩
noncomputable def SlR (X:Cx)(r:V->Option Int->Option Int->Hp->VK->Prop):Prop:=
 ∀(qQ:List (AD×Obj))(s:SS)(σ:St)(H:Hp)(x:V)(v vl vu:Aa)(lo hi:Option Int)(sl:AD)(Q:VK),Inv X qQ σ H s->RelV x v->s.heap.IsSliceOf sl vl vu .none->IsPart vl lo->IsPart vu hi->r x lo hi H Q ->
  ∃T id,typeLookup (.type T) "__getitem__" = pure (some (.builtin id))/\s.TypeIs v T/\wpAny (model X.prog X.w) X.A (getItem v (.ref sl)) (EP X qQ σ Q) X.xe s
noncomputable def tSl (r:V->Option Int->Option Int->Hp->VK->Prop)(te:TE)(tl th:TO):TE:=λσ H Q=>te σ H λx H1=>tl σ H1 λl H2=>th σ H2 λu j=>r x l u j Q
theorem Jt (N:SlR X r)(O:PE X e te)(U:PO X lo tl)(Y:PO X hi th):PE X (.Subscript e (.Slice lo hi none p2) pos) (tSl r te tl th):=by
 intro qQ s σ H Q I h;refine Subscript_ (thG (O qQ s σ H _ I h) λv Z x H1 I1 r1 q1=>?_);refine wpAny_Slice (thG (U qQ Z σ H1 _ I1 q1) λB s2 l H2 I2 pl q2=>thG (Y qQ s2 σ H2 _ I2 q2) λD j u L I3 pu q3=>?_);rw [evalPart_none];refine Yab ?_;have I4:Inv X qQ σ L { j with heap:=j.heap.push { cls:=.type "slice", data:=.fields #[B,D,.none] } }:=I3.kept (t':=j.toks) λb ob q=>Yah _ q;obtain ⟨T,id,hT,ht,hg⟩:=N qQ { j with heap:=j.heap.push { cls:=.type "slice", data:=.fields #[B,D,.none] } } σ L x v B D l u j.heap.objs.size Q I4 r1 (Heap.IsSliceOf.new ..) pl pu q3;show wpAny (model X.prog X.w) X.A (subscriptTail e (.Slice lo hi none p2) v (.ref j.heap.objs.size)) (EP X qQ σ Q) X.xe { j with heap:=j.heap.push { cls:=.type "slice", data:=.fields #[B,D,.none] } };exact tail_any (ops:=[.ref j.heap.objs.size,v]) ht hT hg (by with_unfolding_all rfl)
noncomputable def VM (xs:List V)(lo hi:Option Int):List V:=(xs.drop (HT.sIx xs.length 0 lo)).take (HT.sIx xs.length xs.length hi-HT.sIx xs.length 0 lo)
theorem UK (xs:List V)(lo hi:Option Int):(VM xs lo hi).length<=xs.length:=by
 unfold VM;rw [Ybn,Yei]
 lia
noncomputable def ZhZ (K:FG):V->Option Int->Option Int->Hp->VK->Prop:=λx lo hi H Q=>∃a xs,x=.ref a/\SqT K H a xs /\
 ¬ (HT.sIx xs.length 0 lo=0/\HT.sIx xs.length xs.length hi=xs.length)/\∀p,H p=none->Q (.ref p) (upd H p (.tup (VM xs lo hi)))
theorem ZcT:SlR X (ZhZ X.K):=by
 intro qQ s σ H x v vl vu lo hi sl Q I L N O U h;obtain ⟨a,xs,rfl,Y,Z,q⟩:=h;cases L;obtain ⟨its,r,B,D⟩:=I.tuple Y;have j:its.toArray.size=xs.length:=by rw [Yas];exact r.length.symm
 refine ⟨"tuple", _,PyProof.Rows.slot_tuple_getitem.lookup,B.typeIs,?_⟩;refine HT.getItem_tuple_cut B N O U (by rw [j];exact Z) ?_ (by rw [j];exact D);rw [j];refine ⟨.ref s.heap.objs.size,_,I.laid (t':=s.toks) (o:=.tup (VM xs lo hi)) (λb ob q=>Yah _ q) (Yae _) ?_,rfl,q _ (I.hok.fresh (Yae _))⟩;exact ⟨Ybr (UK xs lo hi) D,_,(r.drop (HT.sIx xs.length 0 lo)).take (HT.sIx xs.length xs.length hi-HT.sIx xs.length 0 lo),IsTup.new _ _⟩
noncomputable def Zhk (K:FG):R2:=λx y H Q=>∃a b xs ys,x=.ref a/\y=.ref b/\SqT K H a xs/\SqT K H b ys/\xs≠[]/\xs.length+ys.length<=sizeLine /\
 (ys=[]->Q (.ref a) H)/\(ys≠[]->∀p,H p=none->Q (.ref p) (upd H p (.tup (xs++ys))))
theorem Vals.nil_iff (r:Vals xs us):us=[]↔xs=[]:=by
 cases r with
 | nil=>simp
 | cons _ _=>simp
theorem ZR:OpR X (binaryOp .Add) (Zhk X.K):=by
 intro qQ s σ H x y v u Q I N O h;obtain ⟨a,b,xs,ys,rfl,rfl,ha,U,Y,D,Z,q2⟩:=h;cases N;cases O;obtain ⟨its,B,p1,_⟩:=I.tuple ha;obtain ⟨L,j,p2,_⟩:=I.tuple U;refine HT.cat_tup p1 p2 (λz=>Y (B.nil_iff.mp z)) (λz=>⟨.ref a,H,I,rfl,Z (j.nil_iff.mp z)⟩) (λz=>?_) (by rw [<-B.length,<-j.length];exact D);refine ⟨.ref s.heap.objs.size,_,I.laid (t':=s.toks) (o:=.tup (xs++ys)) (λb ob q=>Yah _ q) (Yae _) ?_,rfl,q2 (λw=>z (j.nil_iff.mpr w)) _ (I.hok.fresh (Yae _))⟩;exact ⟨by rw [Yam];exact D,_,B.append j,IsTup.new _ _⟩
end
noncomputable def ixN (n:Nat)(i:Int):Option Nat:=if 0<=i then (if i<n then some i.toNat else none) else if -(n:Int)<=i then some (i+n).toNat else none
noncomputable def atI {α:Type}(xs:List α)(i:Int):Option α:=(ixN xs.length i).bind λj=>xs[j]?
theorem ZdC (h:ixN n i=some j):seqIndex? i n=some j/\j<n/\-(n:Int)<=i/\i<n:=by
 unfold ixN at h;by_cases h0:0<=i
 ·rw [if_pos h0] at h;by_cases h1:i<n
  ·rw [if_pos h1] at h;have e:i.toNat=j:=Ybk h;exact ⟨by rw [seqIndex_of h0 h1,e],by lia,by lia,h1⟩
  ·rw [if_neg h1] at h;cases h
 ·rw [if_neg h0] at h;by_cases h1:-(n:Int)<=i
  ·rw [if_pos h1] at h;have e:(i+n).toNat=j:=Ybk h;exact ⟨by rw [seqIndex_neg (by lia) h1,e],by lia,h1,by lia⟩
  ·rw [if_neg h1] at h;cases h
theorem ZS {α:Type}{xs:List α}{v:α}(h:atI xs i=some v):∃j,seqIndex? i xs.length=some j/\xs[j]?=some v/\j<xs.length/\-(xs.length:Int)<=i/\i<xs.length:=by
 unfold atI at h;cases e:ixN xs.length i with
 | none=>rw [e] at h;cases h
 | some j=>
  rw [e] at h;obtain ⟨h1,h2,q,B⟩:=ZdC e;exact ⟨j,h1,h,h2,q,B⟩
theorem Gr {α:Type}{xs:List α}{j:Nat}{v:α}(h:xs[j]?=some v):atI xs (j:Int)=some v:=by
 have q:j<xs.length:=(Yal.mp h).1;have e:ixN xs.length (j:Int)=some j:=by
  unfold ixN;rw [if_pos (by lia),if_pos (by lia)];simp
 unfold atI;rw [e];exact h
noncomputable def ZT (b:Expr):Prop:=∀o i,subscripted b false o i=operate [o,i] (getItem o i)
noncomputable def IxR (X:Cx)(r:R2):Prop:=
 ∀(value j:Expr)(qQ:List (AD×Obj))(s:SS)(σ:St)(H:Hp)(x y:V)(v u:Aa)(Q:VK),Inv X qQ σ H s->RelV x v->RelV y u->r x y H Q ->
  subscripted j false v u=operate [v,u] (getItem v u)->wpAny (model X.prog X.w) X.A (subscriptTail value j v u) (EP X qQ σ Q) X.xe s
noncomputable def MtR (X:Cx)(id:String)(r:V->List V->Hp->VK->Prop):Prop:=
 ∀(qQ:List (AD×Obj))(s:SS)(σ:St)(H:Hp)(x:V)(xs:List V)(v:Aa)(us:LW)(Q:VK),Inv X qQ σ H s->RelV x v->Vals xs us->r x xs H Q ->
  wpAny (model X.prog X.w) X.A (call (.builtin id) (v::us)) (EP X qQ σ Q) X.xe s
section
variable {X:Cx}{a b:Expr}{ta tb:TE}{pos:Pos}
theorem Zhl (j:IxR X r)(ha:PE X a ta)(B:PE X b tb)(D:ZT b):PE X (.Subscript a b pos) (tOp r ta tb):=by
 intro qQ s σ H Q I h;exact Subscript_ (Zhc ha B I h λv u L x y H2 N O U q=>j a b qQ L σ H2 x y v u Q N O U q (D _ _))
noncomputable def Zhm (K:FG):R2:=λx y H Q=>∃p xs i v,x=.ref p/\y=.int i/\SqL K H p xs/\atI xs i=some v/\Q v H
noncomputable def Zh0 (K:FG):R2:=λx y H Q=>∃p xs i v,x=.ref p/\y=.int i/\SqT K H p xs/\atI xs i=some v/\Q v H
theorem ZdD:IxR X (Zhm X.K):=by
 intro value B qQ s σ H x y v u Q I Y Z h O;obtain ⟨p,xs,i,z,rfl,rfl,hq,he,q⟩:=h;cases Y;obtain ⟨t,rfl⟩:=Z;obtain ⟨its,r,D,hz⟩:=I.list hq;obtain ⟨j,h1,h2,h3,h4,h5⟩:=ZS he;obtain ⟨w,U,L⟩:=r.get h2;have hl:=r.length;have hn:=XJ;have fin:EP X qQ σ Q w s:=⟨z,H,I,L,q⟩;by_cases h0:0<=i
 ·have N:i.toNat=j:=by
   rw [seqIndex_of h0 h5] at h1;exact Ybk h1
  exact item_listR D.isList h0 (by lia) (by rw [N];simpa using U) fin O
 ·have N:(i+(its.toArray.size:Int)).toNat=j:=by
   rw [seqIndex_neg (by lia) h4] at h1;rw [Yas,<-hl];exact Ybk h1
  exact subscriptTail_builtinR (x:=w) D.isList.typeIs slot_list_getitem.lookup
   (wpAny_getItem_list_neg (Q:=λr s'=>r=w/\EP X qQ σ Q r s') D.isList (by lia) (by rw [Yas] <;> lia) (by lia) (by rw [N];simpa using U) ⟨rfl,fin⟩) O
theorem Ze1:IxR X (Zh0 X.K):=by
 intro value B qQ s σ H x y v u Q I N O h U;obtain ⟨p,xs,i,z,rfl,rfl,Y,Z,q⟩:=h;cases N;obtain ⟨t,rfl⟩:=O;obtain ⟨its,r,L,hz⟩:=I.tuple Y;obtain ⟨j,h1,h2,h3,h4,h5⟩:=ZS Z;obtain ⟨w,ew,D⟩:=r.get h2;have hl:=r.length;have hn:=XJ;have fin:EP X qQ σ Q w s:=⟨z,H,I,D,q⟩;exact subscriptTail_builtinR (x:=w) L.typeIs slot_tuple_getitem.lookup
  (getItem_tuple (j:=j) (Q:=λr s'=>r=w/\EP X qQ σ Q r s') L (by lia) (by lia) (by rw [Yas,<-hl];exact h1) (by simpa using ew) ⟨rfl,fin⟩) U
theorem Wz (lo hi:Option Int)(n:Nat):(sliceBounds lo hi none n).1=((HT.sIx n 0 lo:Nat):Int)/\(sliceBounds lo hi none n).2.1=((HT.sIx n n hi:Nat):Int)/\(sliceBounds lo hi none n).2.2=1:=by
 refine ⟨?_,?_,rfl⟩
 ·cases lo with
  | none=>simp [sliceBounds,HT.sIx]
  | some i=>
   simp only [sliceBounds,HT.sIx,Option.getD_none,show (1:Int) > 0 by decide,if_true];by_cases h:i<0
   ·simp only [h,if_true] <;> lia
   ·simp only [h,Ycj] <;> lia
 ·cases hi with
  | none=>simp [sliceBounds,HT.sIx]
  | some i=>
   simp only [sliceBounds,HT.sIx,Option.getD_none,show (1:Int) > 0 by decide,if_true];by_cases h:i<0
   ·simp only [h,if_true] <;> lia
   ·simp only [h,Ycj] <;> lia
theorem VN (its:LW)(lo hi:Option Int):slicePick its.toArray lo hi none=((its.drop (HT.sIx its.length 0 lo)).take (HT.sIx its.length its.length hi-HT.sIx its.length 0 lo)).toArray:=by
 obtain ⟨h1,h2,j⟩:=Wz lo hi its.toArray.size;unfold slicePick;rw [h1,h2,j];simp only [sliceRange_one,pick_run,Yas] <;> rfl
noncomputable def Zhn (K:FG):V->Option Int->Option Int->Hp->VK->Prop:=λx lo hi H Q=>∃a xs,x=.ref a/\SqL K H a xs/\∀p,H p=none->Q (.ref p) (upd H p (.lst (VM xs lo hi)))
theorem ZdE:SlR X (Zhn X.K):=by
 intro qQ s σ H x v Z vu lo hi sl Q I B D L N h;obtain ⟨a,xs,rfl,O,q⟩:=h;cases B;obtain ⟨its,r,j,U⟩:=I.list O;have Y:=r.length;refine ⟨"list", _,slot_list_getitem.lookup,j.isList.typeIs,?_⟩;refine wpAny_getItem_list_slice j.isList D L N .none (by simp) ?_ (by rw [Yas] <;> lia);rw [VN,<-Y];refine ⟨.ref s.heap.objs.size,_,I.laid (t':=s.toks) (o:=.lst (VM xs lo hi)) (λb ob q=>Yah _ q) (Yae _) ?_,rfl,q _ (I.hok.fresh (Yae _))⟩;exact ⟨Ybr (UK xs lo hi) U,_,0,(r.drop (HT.sIx xs.length 0 lo)).take (HT.sIx xs.length xs.length hi-HT.sIx xs.length 0 lo),Ybb _ rfl⟩
theorem WA:JG X (.builtin "len") (λxs H Q=>∃p ys,xs=[.ref p]/\(SqL X.K H p ys\/SqT X.K H p ys)/\Q (.int ys.length) H):=by
 intro qQ s σ H xs us Q I r h;obtain ⟨p,ys,rfl,j,q⟩:=h;obtain ⟨u,rfl,L⟩:=Zdv r;cases L;have O:=XJ;rcases j with j | j
 ·obtain ⟨its,r',B,N⟩:=I.list j;have D:=r'.length;exact Calls.call_len_list B.isList (by simp only [Yas] <;> lia) ⟨.int ys.length,H,I.tok _,⟨s.toks+1,by rw [Yas,D]⟩,q⟩
 ·obtain ⟨its,r',B,N⟩:=I.tuple j;have D:=r'.length;exact len_tuple B (by simp only [Yas] <;> lia) ⟨.int ys.length,H,I.tok _,⟨s.toks+1,by rw [Yas,D]⟩,q⟩
theorem WB:JG X (.type "list") (λxs H Q=>∃p ys,xs=[.ref p]/\(SqL X.K H p ys\/SqT X.K H p ys)/\∀l,H l=none->Q (.ref l) (upd H l (.lst ys))):=by
 intro qQ s σ H xs us Q I r h;obtain ⟨p,ys,rfl,j,q⟩:=h;obtain ⟨u,rfl,U⟩:=Zdv r;cases U;have fin:∀(its:LW),Vals ys its->ys.length<=sizeLine->∀(h':Heap)(c':Nat),(∀b o',s.heap.get? b=some o'->h'.get? b=some o') ->
   h'.get? s.heap.objs.size=some { cls:=.type "list", dict:=none,data:=.seq its.toArray c',slots:=#[] }->EP X qQ σ Q (.ref s.heap.objs.size) { s with heap:=h' }:=λits r' B h' c' kp e=>
  ⟨.ref s.heap.objs.size,_,I.laid (t':=s.toks) kp (Yae _) (show ObjOk X.prog X.w _ h' _ (.lst ys) from ⟨B,its,c',r',e⟩),rfl,q _ (I.hok.fresh (Yae _))⟩
 rcases j with j | j
 ·obtain ⟨its,r',D,B⟩:=I.list j;have Y:=r'.length;obtain ⟨o,L,N,n,O⟩:=D.isList;exact call_list_seq p (.inl rfl) L N O (λh' c' kp e=>fin its r' B h' c' kp e) (by simp only [Yas] <;> lia)
 ·obtain ⟨its,r',D,B⟩:=I.tuple j;have Y:=r'.length;obtain ⟨o,L,N,n,O⟩:=D;exact call_list_seq p (.inr rfl) L N O (λh' c' kp e=>fin its r' B h' c' kp e) (by simp only [Yas] <;> lia)
theorem VO:JG X (.type "tuple") (λxs H Q=>∃p ys,xs=[.ref p]/\((SqL X.K H p ys/\∀l,H l=none->Q (.ref l) (upd H l (.tup ys)))\/(SqT X.K H p ys/\Q (.ref p) H))):=by
 intro qQ s σ H xs us Q I r h;obtain ⟨p,ys,rfl,h⟩:=h;obtain ⟨u,rfl,N⟩:=Zdv r;cases N;rcases h with ⟨j,q⟩ | ⟨j,q⟩
 ·obtain ⟨its,r',B,D⟩:=I.list j;have U:=r'.length;refine call_tuple_list B.isList (λh' kp=>?_) (by simp only [Yas] <;> lia);have L:Inv X qQ σ H { s with heap:=h' }:=I.kept (t':=s.toks) kp;have O:Inv X qQ σ (upd H h'.objs.size (.tup ys)) { s with heap:=h'.push { cls:=.type "tuple", data:=.seq its.toArray } }:=
   L.laid (t':=s.toks) (λb o e=>Yah _ e) (Yae _) (show ObjOk X.prog X.w _ _ _ (.tup ys) from ⟨D,its,r',IsTup.new _ _⟩)
  exact ⟨.ref h'.objs.size,_,O,rfl,q _ (L.hok.fresh (Yae _))⟩
 ·obtain ⟨its,r',B,D⟩:=I.tuple j;exact call_tuple_same B ⟨.ref p,H,I,rfl,q⟩
noncomputable def tyV (K:FG)(T:String)(x:V)(H:Hp):Prop:=match x with
 | .str _=>T = "str"
 | .int _=>T = "int"
 | .ref p=>(T = "list" /\ ∃xs,SqL K H p xs)\/(T = "tuple" /\ ∃o,K.lookup p=some o/\o.cls=.type "tuple" /\ o.dict=none) \/
   (T = "dict" /\ ((∃kvs,H p=some (.dK kvs))\/∃kvs,H p=some (.dT kvs)))\/(T = "set" /\ ∃S n,H p=some (.set S n))
 | _=>False
theorem ZcU (I:Inv X qQ σ H s)(r:RelV x v)(ty:tyV X.K T x H) :
  s.TypeIs v T/\∀a,v=.ref a->∃D,s.heap.get? a=some D/\D.dict=none:=by
 cases x with
 | str z=>
  obtain ⟨t,rfl⟩:=r;cases (show T = "str" from ty);exact ⟨typeIs_str s z t,λ_ e=>nomatch e⟩
 | int i=>
  obtain ⟨t,rfl⟩:=r;cases (show T = "int" from ty);exact ⟨typeIs_int s i t,λ_ e=>nomatch e⟩
 | ref p=>
  cases r;rcases ty with ⟨rfl,xs,N⟩ | ⟨rfl,o,j,O,q⟩ | ⟨rfl,j⟩ | ⟨rfl,S,n,j⟩
  ·obtain ⟨its,_,L,_⟩:=I.list N;refine ⟨L.isList.typeIs,λa e=>?_⟩;cases e;obtain ⟨o,n,e,c,q,_⟩:=L;exact ⟨o,e,q⟩
  ·refine ⟨⟨o,I.kIn p o j,O⟩,λa e=>?_⟩;cases e;exact ⟨o,I.kIn _ o j,q⟩
  ·have z:∃o,s.heap.get? p=some o/\o.ExactDict:=by
    rcases j with ⟨kvs,j⟩ | ⟨kvs,j⟩
    ·obtain ⟨_,_,_,_,o,_,_,e,ex,_⟩:=I.hok p _ j;exact ⟨o,e,ex⟩
    ·obtain ⟨_,_,_,_,o,_,_,e,ex,_⟩:=I.hok p _ j;exact ⟨o,e,ex⟩
   obtain ⟨o,e,ex⟩:=z;refine ⟨⟨o,e,ex.1⟩,λa B=>?_⟩;cases B;exact ⟨o,e,ex.2.1⟩
  ·obtain ⟨o,_,_,_,e,ex,_⟩:=I.hok p _ j;refine ⟨⟨o,e,ex.1⟩,λa B=>?_⟩;cases B;exact ⟨o,e,ex.2.1⟩
 | _=>exact False.elim ty
noncomputable def Zil (K:FG)(T:String)(r:V->List V->Hp->VK->Prop)(to:TE):TE:=λσ H Q=>to σ H λx H1=>tyV K T x H1/\r x [] H1 Q
noncomputable def tBM (K:FG)(T:String)(r:V->List V->Hp->VK->Prop)(to:TE)(t:TA):TE:=λσ H Q=>to σ H λx H1=>tyV K T x H1/\t σ H1 λxs H2=>r x xs H2 Q
variable {o e:Expr}{es:List Expr}{to:TE}{t:TA}{name:Str}{apos qG:Pos}{T id:String}{r:V->List V->Hp->VK->Prop}
theorem Ze2 (O:PlainAttrs T)(B:Slot T name id)(D:typeOf (.builtin id)=pure (.type "method_descriptor"))(U:MtR X id r)(Y:PE X o to)(j:attributeBase o name X.env (eval o X.env)=eval o X.env:=by rfl)(q:(apos.endLine == qG.line)=true:=by rfl):PE X (.Call (.Attribute o name apos) [] [] qG) (Zil X.K T r to):=by
 intro qQ s σ H Q I h;refine wpAny_Call_method0_late j q (thG (Y qQ s σ H _ I h) λv Z x H1 L N ⟨ty,q1⟩=>?_);obtain ⟨h1,h2⟩:=ZcU L N ty;exact ⟨T,id,O,B,D,h1,h2,Calls.callWith_builtin rfl (PySem.evalArgs_none (U qQ Z σ H1 x [] v [] Q L N .nil q1))⟩
theorem Zho (Z:PlainAttrs T)(D:Slot T name id)(N:typeOf (.builtin id)=pure (.type "method_descriptor"))(hm:MtR X id r)(ho:PE X o to)(ha:PA X (e::es) t)(q:attributeBase o name X.env (eval o X.env)=eval o X.env:=by rfl)(L:((backTo qG (starEach (e::es) X.env)).all (λx=>!x.1) && (backToKw qG (keywordEach [] X.env)).all (λx=>x.1.isSome)
   && decide ((e::es).length+([]:List Keyword).length+(if ([]:List Keyword).isEmpty then 0 else 1)<30))=true:=by rfl)(B:(apos.endLine == qG.line)=true:=by rfl)(hs:starEach (e::es) X.env=(false,eval e X.env)::starEach es X.env:=by rfl)(j:(backTo qG (starEach es X.env)).any (·.1)=false:=by rfl) :
  PE X (.Call (.Attribute o name apos) (e::es) [] qG) (tBM X.K T r to t):=by
 intro qQ s σ H Q I h;refine wpAny_Call_method_late q L B rfl (thG (ho qQ s σ H _ I h) λv s1 x H1 O U ⟨ty,q1⟩=>?_);obtain ⟨h1,h2⟩:=ZcU O U ty;refine ⟨T,id,Z,D,N,h1,h2,?_⟩;have Y:=ha qG qQ s1 σ H1 _ O q1;rw [hs] at Y ⊢;refine Calls.callWith_builtin (by show (false || (backTo qG (starEach es X.env)).any (·.1))=false;rw [j] <;> rfl) (Calls.evalArgs_plain ?_);exact thn Y λus s2 ⟨vs,H2,I2,r2,q2⟩=>hm qQ s2 σ H2 x vs v us Q I2 U r2 q2
end
noncomputable def MtM (X:Cx)(id:String)(r:V->List V->Hp->VK->Prop):Prop:=
 ∀(qQ:List (AD×Obj))(s:SS)(σ:St)(H:Hp)(x:V)(xs:List V)(v:Aa)(us:LW)(Q:VK),Inv X qQ σ H s->RelV x v->Vals xs us->r x xs H Q ->
  wpAny (model X.prog X.w) X.A (call (.builtin id) (v::us)) (EP X qQ σ Q) X.xe s
theorem Vals.one (h:Vals [x] us):∃u,us=[u]/\RelV x u:=by
 cases h with
 | cons r t=>cases t;exact ⟨_,rfl,r⟩
theorem Vals.two (h:Vals [x,y] us):∃u v,us=[u,v]/\RelV x u/\RelV y v:=by
 cases h with
 | cons r t=>obtain ⟨u,rfl,q⟩:=Vals.one t;exact ⟨_,_,rfl,r,q⟩
theorem Vals.zero:∀{us:LW},Vals [] us->us=[]
 | _,.nil=>rfl
theorem Vals.dropLast (h:Vals xs us):Vals xs.dropLast us.dropLast:=by
 induction h with
 | nil=>exact .nil
 | cons r t ih=>
  cases t with
  | nil=>exact .nil
  | cons q t'=>exact .cons r ih
theorem Vals.reverse (h:Vals xs us):Vals xs.reverse us.reverse:=by
 induction h with
 | nil=>exact .nil
 | cons r t ih=>rw [List.reverse_cons,List.reverse_cons];exact Vals.append ih (.cons r .nil)
theorem YR {α:Type}(l:List α):l.eraseIdx (l.length-1)=l.dropLast:=by
 induction l with
 | nil=>rfl
 | cons a r ih=>
  cases r with
  | nil=>rfl
  | cons b r=>
   have e:(a::b::r).length-1=((b::r).length-1)+1:=by
    have h1:(a::b::r).length=r.length+2:=rfl;have h2:(b::r).length=r.length+1:=rfl
    lia
   rw [e,List.eraseIdx_cons_succ,ih]
   all_goals rfl
section
variable {X:Cx}{qQ:List (AD×Obj)}{σ:St}{H:Hp}{s:SS}{l b:AD}{xs ys zs:List V}
theorem Inv.lset {its its':LW}(I:Inv X qQ σ H s)(j:H l=some (.lst xs))(e:s.heap.get? l=some { cls:=.type "list", data:=.seq its.toArray n })(B:f its.toArray=its'.toArray)(D:Vals ys its')(hz:ys.length<=sizeLine) :
  Inv X qQ σ (upd H l (.lst ys)) { s with heap:=s.heap.update l (Obj.mapSeq f),toks:=t' }:=by
 have q:=PySem.IsL.update e f;rw [B] at q;refine I.write (x:=l) (e:=l) (by rw [j];exact trivial) (.inl rfl) (λO u L N=>(Ycp s.heap (Obj.mapSeq f) (Ne.symm L)).trans N) ⟨_,q⟩ ?_;exact ⟨hz,its',_,D,q⟩
theorem Inv.lnew (I:Inv X qQ σ H s)(j:Vals ys its)(hz:ys.length<=sizeLine) :
  Inv X qQ σ (upd H s.heap.objs.size (.lst ys)) { s with heap:=s.heap.push { cls:=.type "list", data:=.seq its.toArray },toks:=t' }:=
 I.laid (λ_ _ q=>Yah _ q) (Yae _) ⟨hz,its,0,j,Ybb _ rfl⟩
theorem Inv.fresh (I:Inv X qQ σ H s):H s.heap.objs.size=none:=I.hok.fresh (Yae _)
theorem Inv.lstM (I:Inv X qQ σ H s)(j:H l=some (.lst xs)):xs.length<=sizeLine/\∃(its:LW)(n:Nat),Vals xs its/\xs.length=its.length/\s.heap.get? l=some { cls:=.type "list", data:=.seq its.toArray n }:=by
 obtain ⟨z,its,n,r,e⟩:=I.hok l _ j;exact ⟨z,its,n,r,r.length,e⟩
theorem ZbM (h:n<=sizeLine):Builtin.List.listTooLong n=false:=by
 unfold Builtin.List.listTooLong;exact Ybl (by lia)
end
section
variable {X:Cx}
noncomputable def ZdF:V->List V->Hp->VK->Prop:=λx vs H Q=>∃l xs y,x=.ref l/\vs=[y]/\H l=some (.lst xs)/\xs.length<sizeLine/\Q .non (upd H l (.lst (xs++[y])))
theorem GB:MtM X "list.append" ZdF:=by
 intro qQ s σ H x vs v us Q I B D h;obtain ⟨l,xs,y,rfl,rfl,j,N,q⟩:=h;cases B;obtain ⟨u,rfl,L⟩:=D.one;obtain ⟨z,its,n,r,O,e⟩:=I.lstM j;refine call_meets F.slot_list_append ⟨_,e,rfl⟩ F.entry_list_append (F.args_list_append_2 _ _) (PySem.list_append l its.toArray n u (by rw [Yas];lia)) ⟨e,?_⟩;refine ⟨.non,_,I.lset (its':=its++[u]) j e (by simp) (r.append (.cons L .nil)) ?_,rfl,q⟩;rw [Yam,Ybc]
 lia
noncomputable def Zim:V->List V->Hp->VK->Prop:=λx vs H Q=>∃l xs y,x=.ref l/\vs=[]/\H l=some (.lst xs)/\xs[xs.length-1]?=some y/\Q y (upd H l (.lst xs.dropLast))
theorem Ze3:MtM X "list.pop" Zim:=by
 intro qQ s σ H x vs v us Q I L N h;obtain ⟨l,xs,y,rfl,rfl,D,O,q⟩:=h;cases L;have j:=N.zero;subst j;obtain ⟨z,its,n,r,U,e⟩:=I.lstM D;obtain ⟨u,Y,Z⟩:=r.get O;have B:its.toArray[its.toArray.size-1]?=some u:=by
  show its.toArray[its.length-1]?=some u;rw [<-Yba,<-U];exact Y
 refine call_meets F.slot_list_pop ⟨_,e,rfl⟩ F.entry_list_pop (F.args_list_pop_1 _) (MeetsSeq.list_pop_last l its.toArray n u B (by rw [Yas];lia)) ⟨e,?_⟩;refine ⟨y,_,I.lset (its':=its.dropLast) D e ?_ r.dropLast ?_,Z,q⟩
 ·show its.toArray.eraseIdxIfInBounds (its.toArray.size-1)=its.dropLast.toArray;rw [Yas,List.eraseIdxIfInBounds_toArray,YR]
 ·rw [List.length_dropLast]
  lia
noncomputable def Zhp:R2:=λx y H Q=>∃l b xs zs,x=.ref l/\y=.ref b/\H l=some (.lst xs)/\H b=some (.lst zs)/\xs.length+zs.length<=sizeLine/\∀p,H p=none->Q (.ref p) (upd H p (.lst (xs++zs)))
theorem WC:OpR X (binaryOp .Add) Zhp:=by
 intro qQ s σ H x y v u Q I B D h;obtain ⟨l,b,xs,zs,rfl,rfl,L,N,hz,q⟩:=h;cases B;cases D;obtain ⟨z,its,n,r,hl,e⟩:=I.lstM L;obtain ⟨z2,j,n2,O,U,Y⟩:=I.lstM N;refine PySem.P.add_list e Y ?_ (by rw [Yas,Yas];lia);have Z:its.toArray++j.toArray=(its++j).toArray:=by simp
 rw [Z];exact ⟨.ref _,_,I.lnew (t':=s.toks) (r.append O) (by rw [Yam];lia),rfl,q _ I.fresh⟩
end
end L2
namespace Att
open PySem PySem.W PySem.Calls PyProof.Rows
theorem UL :∀(ns:LI)(vs:LW),WellAll P h vs (ns.map WData.int)->IntsAre vs ns:=by
 intro ns
 induction ns with
 | nil=>
  intro vs w;rw [List.map_nil] at w;cases w;exact .nil
 | cons n ns ih=>
  intro vs w;rw [Yap] at w;cases w with
  | cons a b=>
   cases a;exact .cons _ _ (ih _ b)
theorem ZU {l:OpenLaw}(U:l.most=some n)(j:l.row.toRowW.claim.pre args=true)(L:WellAll P h vals args) :
  ∃a vs ns,vals=[Value.ref a]/\args=[WData.list (ns.map WData.int)]/\h.get? a=some { cls:=.type "list", data:=.seq vs.toArray }/\IntsAre vs ns/\ns.length<=n:=by
 have N:WShape.hasAll [] args [.list .int]=true:=(pre_splitW j).1;have O:l.pre.holds [] { args:=args }=true:=(pre_splitW j).2;obtain ⟨d,r,rfl,h1,h2⟩:=hasAllW_cons N;obtain rfl:=hasAllW_nil h2;obtain ⟨xs,rfl,Y⟩:=hasW_list h1;obtain ⟨ns,rfl⟩:=items_int Y;have Z:ns.length<=n:=by
  unfold OpenLaw.pre at O;have B:(WTm.not (.lt (.lit (.int (n:Int))) (.len (.arg 0)))).holds [] { args:=[.list (ns.map .int)] }=true:=by
   have B:=(holds_andW O).1;rw [U] at B;exact B
  have D:=condW_of B (w_not (w_lt w_lit (w_len_list (w_arg rfl))));rw [Yac] at D;refine Nat.le_of_not_lt λq=>?_;have q':(n:Int)<((ns.length:Nat):Int):=by lia
  first
   | (rw [Yau q'] at D;exact absurd D (by decide))
   | (simp at D;lia)
 cases L with
 | cons w1 w2=>
  cases w2;cases w1 with
  | list ho qK=>exact ⟨_,_,ns,rfl,rfl,ho,UL ns _ qK,Z⟩
theorem ZV (l:OpenLaw)(args:List WData):l.row.toRowW.claim.post args (.bool true) args=true:=
 postW_of (r:=l.row.toRowW) (X:=(true == true))
  (show WShape.has [] (.bool true) .bool=true by first | rfl | decide | simp [WShape.has,WShape.arms,WShape.armsAll])
  (show (WTm.eq .res (.lit (.bool true))).value [] { args:=args,res:=some (.bool true),after:=args }=some (.bool (true == true)) from w_eq_bool (w_res rfl) w_lit) rfl
theorem attach_call {l:OpenLaw}(hn:l.most=some n)(N:d.params.defaults=[])(call:∀(w:Ab)(s₀ s₁:SS)(mg mb:Str->Option Aa)(fa:AD)(o:Obj)(pm cd doc:Aa)(a:AD)(vs:LW)(ns:LI),
   Ground q j [] XP w s₀ mg mb s₁.heap->YP w s₁.heap ->
   s₁.heap.get? fa=some o->o.data=.func (docDef d.name d.params d.body d.scope pm cd doc)->s₁.heap.CodeRec cd d.name->mg d.name=some (.ref fa) ->
   s₁.heap.get? a=some { cls:=.type "list", data:=.seq vs.toArray }->IntsAre vs ns->ns.length<=n->s₁.gens=#[] ->
   codeAny (model l.prog w) callerA (.call (.ref fa) ⟨[.ref a],[]⟩) (λr s'=>r=.ok (.ret (.bool true))/\OldK s₁.heap s'.heap/\s'.os=s₁.os/\AllBare s'.gens) s₁) :
  WalkO q j XP YP l.row.toRowW d [] (λf vs=>PySem.call f vs):=by
 intro w s₀ s₁ mg mb G Y fa o pm cd doc dV kV ho hd O hD U hg aa ab as D ac ad Z ae;obtain rfl:dV=.none:=Dflts.none hD N;obtain rfl:kV=.none:=Dflts.noKw hD;obtain ⟨a,vs,ns,rfl,rfl,L,B,qV⟩:=ZU hn D Z;refine enter_call (codeAny_mono (call w s₀ s₁ mg mb fa o pm cd doc a vs ns G Y ho (fd_plain hd) O U L B qV hg) λr s' hq=>?_);obtain ⟨rfl,h2,h3,h4⟩:=hq;exact ⟨.inl ⟨.bool true,.bool true,[],rfl,λ_=>rfl,.bool true,ZV l _,λ_=>⟨List.Pairwise.nil,λ_ hm=>(nomatch hm)⟩⟩,h2,h3,h4⟩
end Att
namespace L2
open PySem PySem.Spec PyProof.Rows
theorem UM:∀{vs:LW}{ns:LI},IntsAre vs ns->Vals (ns.map V.int) vs
 | _,_,.nil=>.nil
 | _,_,.cons n t h=>.cons ⟨t,rfl⟩ (UM h)
noncomputable def ZW (s:Stmt)(j:Nat):Stmt:=match s with
 | .ClassDef _ _ _ body _ _ _ _ _ _ _=>body.getD j (.Pass ⟨0,0,0,0⟩)
 | _=>.Pass ⟨0,0,0,0⟩
noncomputable def Ji (s:Stmt):Arguments:=match s with
 | .FunctionDef _ a _ _ _ _ _ _ _ _=>a
 | _=>{ posonlyargs:=[],args:=[],vararg:=none,kwonlyargs:=[],kw_defaults:=[],kwarg:=none,defaults:=[] }
noncomputable def GP (s:Stmt):List Stmt:=match s with
 | .FunctionDef _ _ b _ _ _ _ _ _ _=>b
 | _=>[]
noncomputable def Gf (s:Stmt):Scope:=match s with
 | .FunctionDef _ _ _ _ _ _ sc _ _ _=>sc
 | _=>{ kind:=.function,names:=[],isGenerator:=false,isCoroutine:=false }
noncomputable abbrev CX0:CXT:=λ_ _ _ _ _ _=>False
noncomputable abbrev E0:XK:=λ_ _ _=>False
theorem GH :Oo CX0 X E0:=λ_ _ _ _ _ _ _ h=>h.elim
structure Fun (K:FG)(x qual:Str)(st:Stmt)(f:AD)(fd:FuncData):Prop where
 ex:∃(oc:Aa)(od:Option AD)(kV doc pm:Aa)(an:Option AD)(cdv ct:Aa)(osl:Array (Option Aa)),
  fd=W.fnOf x qual (Ji st) (GP st) (Gf st) .none kV doc pm an cdv ct/\K.lookup f=some ⟨oc,od,.func fd,osl⟩/\W.codeIn K cdv qual=true
 kp:W.keepIn K (.ref f)=true
section
variable {P:PP}{w:Ab}{K:FG}{mg:Str->Option Aa}{base:Heap}
theorem Fun.ok {st:Stmt}(F:Fun K x qual st f fd)(S:Go N ps (Gf st))(len:∀vs H Q E,sp vs H Q E->vs.length=ps.length)(L:∀(j:Aa)(A:Around)(outer:List Env)(s:SS)(H:Hp)(vs:List V)(Q:VK)(E:XK),Room k (A.deeper (envOfC qual (Gf st) s.heap.objs.size f j))->sp vs H Q E ->
   ∃t,PSs (YN CX0 P w K mg base N qual (Gf st) f j A outer s H E).nox (GP st) t/\t { nx:=λ_ H'=>Q .non H',rt:=Q } (start N vs) H):GG P w K mg base CX0 (k+1) f fd ps sp:=by
 obtain ⟨oc,od,kV,O,pm,an,j,ct,U,rfl,Y,B⟩:=F.ex;refine ZO Y B S len λA outer s H vs Q E Z D=>?_;obtain ⟨t,h,q⟩:=L j A outer s H vs Q E Z D;exact ⟨t,h.nox,q⟩
theorem Fun.binds {st:Stmt}(F:Fun K x qual st f fd)(h:∀(kV j q:Aa)(an:Option AD)(cdv ct:Aa)(us:LW),us.length=ps.length->bindArgs (W.fnOf x qual (Ji st) (GP st) (Gf st) .none kV j q an cdv ct) ⟨us,[]⟩=pure (ps.zip us)):Binds K fd ps []:=by
 obtain ⟨L,N,kV,j,q,an,cdv,ct,B,rfl,O,D⟩:=F.ex;exact .all (h kV j q an cdv ct)
theorem ZX {st:Stmt}{kV q pm j ct:Aa}(l:K.lookup f=some ⟨L,N,.func (W.fnOf x qual (Ji st) (GP st) (Gf st) .none kV q pm D j ct),B⟩)(c:W.codeIn K j qual=true)(k:W.keepIn K (.ref f)=true):Fun K x qual st f (W.fnOf x qual (Ji st) (GP st) (Gf st) .none kV q pm D j ct):=⟨⟨L,N,kV,q,pm,D,j,ct,B,rfl,l,c⟩,k⟩
end
section
variable {X:Cx}
theorem pv (i:Nat)(q:X.N[i]?=some x:=by rfl)(B:Vis X.env.scope x:=by first | exact Or.inl rfl | exact Or.inr (Or.inl rfl) | exact Or.inr (Or.inr rfl))(D:(x == ("__debug__" : Str))=false:=by decide)(j:(x == ("__classdict__" : Str))=false:=by decide):PE X (.Name x pos) (Zq i):=ZeN q B D j
end
theorem O5 {A B:Prop}(h:B):if false=true then A else B:=by
 rw [if_neg Yaq];exact h
theorem JX {A B:Prop}(h:A):if true=true then A else B:=by
 rw [if_pos rfl];exact h
theorem J1 {c A B:Prop}[Decidable c](h1:c->A)(h2:¬ c->B):if c then A else B:=by
 by_cases h:c
 ·rw [if_pos h];exact h1 h
 ·rw [if_neg h];exact h2 h
noncomputable def Same (H H':Hp):Prop:=∀b o,H b=some o->H' b=some o
theorem Same.refl (H:Hp):Same H H:=λ_ _ h=>h
theorem Same.trans (a:Same H H1)(b:Same H1 H2):Same H H2:=λc o h=>b c o (a c o h)
theorem Same.free (e:Same H H')(h:H' l=Option.none):H l=Option.none:=by
 cases q:H l with
 | none=>rfl
 | some o=>
  rw [e l o q] at h;cases h
theorem Same.seq {K:FG}(e:Same H H')(h:SqL K H a xs):SqL K H' a xs:=by
 rcases h with (h | ⟨o,h⟩) | h
 ·exact .inl (.inl (e _ _ h))
 ·exact .inl (.inr ⟨o,e _ _ h⟩)
 ·exact .inr h
section
variable {prog:PP}{w:Ab}{A:Around}{R:Result->SS->Prop}{s:SS}
theorem WD (I:Nat->SS->Prop)(q:∀n s,I n s->wpAny (model prog w) A (pyNext D) (λr L=>match r with
   | none=>R (.ok .next) L
   | some v=>wpAny (model prog w) A (letOwnedTupleGo qU D v) (λ_ B=>wpAny (model prog w) A (assign qU env v) (λ_ U=>
     wpAny (model prog w) A (forIn ifs true λc r=>if r=true then do let ok <- isTrue c env (eval c env);pure (ForInStep.yield ok) else pure (ForInStep.yield r)) (λok N=>
      if ok=true then wpAny (model prog w) A (eval elt env) (λx Y=>
       wpAny (model prog w) A (call (.builtin "list.append") [acc,x]) (λ_ Z=>∃m,m<n/\I m Z) (λ_ _=>False) Y) (λ_ _=>False) N
      else ∃m,m<n/\I m N) (λ_ _=>False) U) (λ_ _=>False) B) (λ_ _=>False) L) (λ_ _=>False) s)(n:Nat)(h:I n s) :
  codeAny (model prog w) A (.compLoop (.ListComp elt [⟨qU,iter,ifs,0⟩] scope pos) 0 D acc env) R s:=by
 have j:∀{E:Aa->SS->Prop},∀(x:Aa)(s:SS),(λ(_:Aa) (_:SS)=>False) x s->E x s:=λ_ _ z=>False.elim z;refine codeAny_loop rfl I (λn s hI=>?_) n h;show wpAny _ A ((compTurn (.ListComp elt [⟨qU,iter,ifs,0⟩] scope pos) 0 D acc env).onRaise (λx=>do noteFrame x env;theTreesLotGoes x)) _ _ s;refine wpAny_noted ?_;rw [compTurn_list];refine Yaa (wpAny_standAt (Yaa (Ybs (q n s hI) (λr L h1=>?_) j)));cases r with
 | none=>exact Yab h1
 | some v=>
  refine Yaa (Ybs h1 (λ_ B O=>?_) j);refine Yaa (Ybs O (λ_ U h2=>Yaa (Ybs h2 (λok N h3=>?_) j)) j);cases ok with
  | false=>exact Yab ⟨rfl,h3⟩
  | true=>
   exact Yaa (Yaa (Ybs h3 (λx Y h4=>Yaa (Ybs h4 (λ_ Z h5=>Yab (Yab ⟨rfl,h5⟩)) j)) j))
end
noncomputable def Cx.comp (X:Cx)(scope:Scope)(cl:List (Str×AD))(N:List Str)(C:AD)(s:SS)(H:Hp)(fp:List AD):Cx:=
 { X with N:=N,s₀:=s,H₀:=H,env:=compEnvC scope cl C X.env,outer:=X.stack,ex:=fp,fn:=λ_=>false,pn:=[],xe:=λ_ _=>False }
noncomputable def Ze4 (X:Cx)(ifs:List Expr)(t:TT):Prop:=
 ∀(qQ:List (AD×Obj))(s:SS)(σ:St)(H:Hp)(Q:Bool->Hp->Prop),Inv X qQ σ H s->t σ H Q ->
  wpAny (model X.prog X.w) X.A (forIn ifs true λc r=>if r=true then do let ok <- isTrue c X.env (eval c X.env);pure (ForInStep.yield ok) else pure (ForInStep.yield r)) (TP X qQ σ Q) X.xe s
noncomputable def XN:TT:=λ_ H Q=>Q true H
theorem GY :Ze4 X [] XN:=λ_ _ _ H _ I h=>wpAny_tests_nil ⟨H,I,h⟩
theorem OE (h:PT X c t):Ze4 X [c] t:=λqQ s σ H Q I j=>wpAny_tests_one (h qQ s σ H Q I j)
structure Jn (X:Cx)(scope:Scope)(cl:List (Str×AD))(own:List Str)(fr:List (Str×Nat)):Prop where
 clos:closureFor scope X.env=pure cl
 nocell:∀y∈scope.names,y.2≠.cell
 kind:scope.kind=.function
 names:∀y∈scope.names,y.2=.local->scope.names.lookup y.1=some .local
 cls:∀y c,cl.lookup y=some c->X.env.cells.lookup y=some c
 has:∀y,((relabel scope X.env).names.lookup y=some .cell\/(relabel scope X.env).names.lookup y=some .free)->∃c,cl.lookup y=some c
 free:∀p∈fr,X.N[p.2]?=some p.1/\(X.env.kindOf p.1=some .cell\/X.env.kindOf p.1=some .free)/\((relabel scope X.env).names.lookup p.1=some .cell\/(relabel scope X.env).names.lookup p.1=some .free)
noncomputable def JI (own:List Str)(fr:List (Str×Nat))(σ:St):St:=own.map (λ_=>none)++fr.map λp=>(σ[p.2]?).join
noncomputable def JJ:St->St->Prop
 | [],[]=>True
 | none::r,_::r'=>JJ r r'
 | some v::r,some v'::r'=>v=v'/\JJ r r'
 | _,_=>False
theorem Oc:∀{a b:St},JJ a b->∀(i:Nat)(v:V),a[i]?=some (some v)->b[i]?=some (some v)
 | [],[],_,i,v,h=>by simp at h
 | [],_::_,z,_,_,_=>z.elim
 | none::r,[],z,_,_,_=>z.elim
 | some _::r,[],z,_,_,_=>z.elim
 | some _::r,none::_,z,_,_,_=>z.elim
 | none::r,_::r',z,0,v,h=>by simp at h
 | none::r,_::r',z,i+1,v,h=>by
  have:=Oc (a:=r) (b:=r') z i v (by simpa using h);simpa using this
 | some x::r,some x'::r',z,0,v,h=>by
  obtain ⟨e,_⟩:=z;subst e;simpa using h
 | some x::r,some x'::r',z,i+1,v,h=>by
  have:=Oc (a:=r) (b:=r') z.2 i v (by simpa using h);simpa using this
noncomputable def OF (J:It)(D:AD)(g:TG)(tc:TT)(te:TE)(q:St)(W:Nat->Nat->List V->Hp->Prop)(R:Hp->Prop):Prop:=
 ∀i m ys H2,W i m ys H2->(J.stop i H2/\R H2)\/(J.go i H2/\∃N:List V->Hp->Prop,(∀ys' H',N ys' H'->∃B,B<m/\W (i+1) B ys' H')/\∀x L,J.yld i H2 x L->g x q L λj Y=>JJ q j/\tc j Y λb O=>
  if b=true then te j O λy U=>U D=some (.lst ys)/\ys.length<sizeLine/\N (ys++[y]) (upd U D (.lst (ys++[y])))
  else N ys O)
noncomputable def Ze5 (wi:TI)(g:TG)(tc:TT)(te:TE)(own:List Str)(fr:List (Str×Nat)):TE:=λσ H Q=>wi σ H λJ H1=>∀D,H1 D=none ->
 ∃W:Nat->Nat->List V->Hp->Prop,(∃m,W 0 m [] (upd H1 D (.lst [])))/\OF J D g tc te (JI own fr σ) W λH2=>Q (.ref D) H2
section
variable {X:Cx}{qU iter elt:Expr}{ifs:List Expr}{scope:Scope}{cl:List (Str×AD)}{own:List Str}{fr:List (Str×Nat)}{pos:Pos}{wi:TI}{g:TG}{tc:TT}{te:TE}
theorem Inv.sub_pins (I:Inv X qQ σ H s)(h:∀p∈j,p∈qQ):Inv X j σ H s:=I.pins_of λp q=>I.pin p (Yby _ (h p q))
theorem ZdG (S:Jn X scope cl own fr)(I:Inv X qQ σ H s)(B:∀b∈fp,ZbA X qQ H b)(L:s.heap.objs.size<=C)(D:∀b∈fp,b<s.heap.objs.size) :
  (X.comp scope cl (own++fr.map (·.1)) C s H fp).Ok:=by
 refine ⟨I.ok.mod,?_,I.ok.glob,I.ok.blt,L,λx y c h1 h2=>I.ok.inj x y c (S.cls x c h1) (S.cls y c h2),S.has,λx c z=>absurd z (by simp [Cx.comp]),I.ok.hd,I.ok.frames,.inl rfl,
  λb j=>⟨Yar (Ybm (D b j) L),λx c h=>(B b j).2.2.2.2.1 x c (S.cls x c h)⟩,I.bs,Ybr I.ok.bsz I.sz,λb o e j=>?_,λb j z=>?_,I.stack,I.stkFree⟩
 ·show (relabel scope X.env).kind=.function;exact S.kind
 ·rcases (B b j).2.2.2.1 with z | z
  ·exact I.ok.noex b o e z
  ·exact absurd (Ybm (Yag e) (Ybr I.ok.bsz z)) (Ych _)
 ·rcases Yav.mp (I.stkSub b z) with q | q
  ·exact (B b j).2.1 q
  ·exact (B b j).2.2.1 q
theorem Vk (own:List Str)(fr:List (Str×Nat))(σ:St):(JI own fr σ).length=(own++fr.map (·.1)).length:=by
 unfold JI;simp
theorem Vl {RR:Aa->AD->Result->SS->Prop}{Rf:AD->Hp->Prop}(hc:X.calm=true)(S:Jn X scope cl own fr)(I:Inv X qQ σ H s)(T:ZcP X.prog X.w X.K qU J fp it tn)(st:tn 0 s.heap)(hf:∀b∈fp,ZbA X qQ H b)(hg:∀C s H fp,PG (X.comp scope cl (own++fr.map (·.1)) C s H fp) qU g)(ht:∀C s H fp,Ze4 (X.comp scope cl (own++fr.map (·.1)) C s H fp) ifs tc)(he:∀C s H fp,PE (X.comp scope cl (own++fr.map (·.1)) C s H fp) elt te)(hw:∀D,H D=none->∃W:Nat->Nat->List V->Hp->Prop,(∃m,W 0 m [] (upd H D (.lst [])))/\OF J D g tc te (JI own fr σ) W (Rf D))(aq:∀D C s' H',s.heap.objs.size<=C->C≠D->(∃m,s'.heap.Ns C m)->H' C=none->Un (frs X.stack) fp H H' s.heap s'.heap->HOk X.prog X.w H' s'.heap->AllBare s'.gens->s'.os=s.os->Rf D H'->RR (.ref D) C (.ok .next) s') :
  wpAny (model X.prog X.w) X.A (newList []) (λacc s3=>wpAny (model X.prog X.w) X.A (newFunctionEnv scope X.env.globals cl [] X.env.qual none .none (some X.env)) (λab s4=>
   codeAny (model X.prog X.w) X.A (.compStart (.ListComp elt [⟨qU,iter,ifs,0⟩] scope pos) 0 (.ref it) acc { ab with scope:=relabel scope X.env }) (RR acc ab.locals) s4) E s3) E s:=by
 have ag:∀b∈fp,b<s.heap.objs.size:=λb B=>by
  obtain ⟨o,e,_⟩:=T.obj 0 s.heap st b B;exact Yag e
 have hD:H s.heap.objs.size=none:=I.fresh;obtain ⟨W,⟨m0,w0⟩,ad⟩:=hw s.heap.objs.size hD;have I1:Inv X qQ σ (upd H s.heap.objs.size (.lst [])) { s with heap:=s.heap.push { cls:=.type "list", data:=.seq ([]:LW).toArray },toks:=s.toks }:=I.lnew .nil (Yax _);refine Ydt (wpAny_newFunctionEnv S.nocell (by intro y hy;simp at hy) (λh1 L O=>?_) S.kind);dsimp only at L O ⊢;generalize hH2:s.heap.push { cls:=.type "list", dict:=none,data:=.seq ([]:LW).toArray }=H2 at L O ⊢ I1;have a2:H2.objs.size=s.heap.objs.size+1:=by rw [<-hH2,Ybz]
 have U:s.heap.objs.size<=H2.objs.size:=by lia
 have ai:s.heap.objs.size≠H2.objs.size:=by lia
 have aj:∀b o,H2.get? b=some o->h1.get? b=some o:=λb o e=>O.extBut b o (Yar (Yag e)) (Yah _ e);have up:∀b o,s.heap.get? b=some o->h1.get? b=some o:=λb o e=>aj b o (hH2▸Yah _ e);have aa:=ZdG (C:=H2.objs.size) S I hf U ag;have I0:∀tk,Inv (X.comp scope cl (own++fr.map (·.1)) H2.objs.size s H fp) [] (JI own fr σ) (upd H s.heap.objs.size (.lst [])) { s with heap:=h1,toks:=tk }:=by
  intro tk;have ak:HOk X.prog X.w (upd H s.heap.objs.size (.lst [])) h1:=I1.hok.kept aj;refine ⟨aa,rfl,I.bare,⟨λb o e n _ _=>up b o e,λb o e n _ _=>⟨o.slots,up b o e⟩,λb o e n _=>?_,λb o e _=>⟨o,up b o e⟩,λb xs q=>?_,λb o u q=>?_,λb ps q=>⟨#[],?_⟩⟩,
   ⟨_,L,λi x v e1 e2 e3=>?_⟩,λx c e=>?_,?_,λx c e=>?_,λp hp=>?_,ak,Vk own fr σ⟩
  ·have e':s.heap.get? b=some o:=e;show upd H s.heap.objs.size (.lst []) b=none;rw [Gi (Yar (Yag e'))];exact n
  ·rw [Gi (Gh q hD)];exact q
  ·rw [Gi (Gh q hD)];exact q
  ·have q':H b=some (.tbl ps):=q;rw [Gi (Gh q' hD),q'];simp
  ·-- the free names
   have j:(JI own fr σ)[i]?=some (some v):=e2;have ae:(own++fr.map (·.1))[i]?=some x:=e1;unfold JI at j;by_cases hi:i<own.length
   ·rw [Ycx (by simpa using hi),Yay] at j;cases q:own[i]? with
    | none=>rw [q] at j;cases j
    | some y=>rw [q] at j;cases j
   ·rw [Ydv (by simpa using hi),Yac,Yay] at j;rw [Ydv (by lia),Yay] at ae;cases q:fr[i-own.length]? with
    | none=>rw [q] at j;cases j
    | some p=>
     rw [q] at ae j;have ex:p.1=x:=Ybk ae;have ev:(σ[p.2]?).join=some v:=Ybk j;have ar:σ[p.2]?=some (some v):=by
      cases z:σ[p.2]? with
      | none=>rw [z] at ev;cases ev
      | some o=>rw [z] at ev;cases o with
       | none=>cases ev
       | some v'=>have:v'=v:=Ybk ev;rw [this]
     obtain ⟨f1,f2,f3⟩:=S.free p (Yaz q);subst ex;obtain ⟨m,hn,hl⟩:=I.loc;have as:Vis X.env.scope p.1:=by
      rcases f2 with f2 | f2
      ·exact .inr (.inl f2)
      ·exact .inr (.inr f2)
     obtain ⟨u,ru,lk⟩:=hl p.2 p.1 v f1 ar as;refine ⟨u,ru,?_⟩;rcases lk with ⟨k,_⟩ | ⟨k,c,e,z⟩
     ·rcases f2 with f2 | f2 <;> (rw [f2] at k;cases k)
     ·obtain ⟨c',al⟩:=S.has p.1 f3;have e':=S.cls _ _ al;rw [e] at e';cases e';obtain ⟨oc,ho,hd⟩:=z;exact .inr ⟨f3,c,al,⟨oc,up _ _ ho,hd⟩⟩
  ·obtain ⟨v,oc,ho,hd⟩:=I.cell x c (S.cls x c e);exact ⟨v,oc,up _ _ ho,hd⟩
  ·show upd H s.heap.objs.size (.lst []) H2.objs.size=none;rw [Gi (Ne.symm ai)];exact I.hok.fresh U
  ·obtain ⟨v,z⟩:=I.cell x c (S.cls x c e);show upd H s.heap.objs.size (.lst []) c=none;rw [Gi (Yar z.lt)];exact I.freeC x c (S.cls x c e)
  ·exact absurd (show p∈([]:List (AD×Obj)) from hp) (by simp)
 have au:∀b∈fp,upd H s.heap.objs.size (.lst []) b=none:=λb B=>by rw [Gi (Yar (ag b B))];exact (hf b B).1
 have am:tn 0 h1:=T.keep 0 _ _ st λb B o e=>up b o e;have Y:∀{H':Hp},(∀b∈fp,H' b=none)->∀b∈fp,ZbA (X.comp scope cl (own++fr.map (·.1)) H2.objs.size s H fp) [] H' b:=λhn b B=>
  ⟨hn b B,(aa.exf b B).1,aa.exfs b B,.inl B,(aa.exf b B).2,λp hp=>absurd (show p∈([]:List (AD×Obj)) from hp) (by simp)⟩
 have ac:∀s3:SS,(∃tk,s3={ s with heap:=h1,toks:=tk }) ->
   codeAny (model X.prog X.w) X.A (.compLoop (.ListComp elt [⟨qU,iter,ifs,0⟩] scope pos) 0 (.ref it) (.ref s.heap.objs.size) (compEnvC scope cl H2.objs.size X.env)) (RR (.ref s.heap.objs.size) H2.objs.size) s3:=by
  rintro s3 ⟨tk,rfl⟩;refine WD (λn s'=>∃i ys H',Inv (X.comp scope cl (own++fr.map (·.1)) H2.objs.size s H fp) [] (JI own fr σ) H' s'/\tn i s'.heap/\(∀b∈fp,H' b=none)/\W i n ys H') ?_ m0 ⟨0,[],_,I0 tk,am,au,w0⟩;rintro n s4 ⟨i,ys,H4,I4,an,ao,w4⟩;rcases ad i n ys H4 w4 with ⟨ap,q⟩ | ⟨go,N,hN,step⟩
  ·refine thn (T.done (X.comp scope cl (own++fr.map (·.1)) H2.objs.size s H fp) rfl rfl rfl hc i [] s4 _ H4 _ I4 (Y ao) an ap) λr s5 ⟨hr,I5⟩=>?_;subst hr;exact aq _ _ s5 H4 U (Ne.symm ai) ⟨_,I5.loc.choose_spec.1⟩ I5.free I5.base I5.hok I5.bare I5.os q
  ·refine thn (T.item (X.comp scope cl (own++fr.map (·.1)) H2.objs.size s H fp) rfl rfl rfl hc i [] s4 _ H4 _ I4 (Y ao) an go) λr s5 ⟨u,hr,h5⟩=>?_;subst hr;refine thn h5 λ_ s6 ⟨x,H6,I6,r6,y6,af,av⟩=>?_;have aw:=I6.pinned (Y av) (T.obj _ _ af);refine thn (hg H2.objs.size s H fp _ s6 _ H6 x u _ aw r6 (step x H6 y6)) λ_ s7 ⟨σ7,H7,I7,k7,q7⟩=>?_;refine thT (ht H2.objs.size s H fp _ s7 σ7 H7 _ I7 q7) λok s8 H8 I8 q8=>?_;have Z:∀{s9:SS}{σ9:St}{H9:Hp}{zs:List V},Inv (X.comp scope cl (own++fr.map (·.1)) H2.objs.size s H fp) ([]++Wu fp s6.heap) σ9 H9 s9->(∀(i:Nat) v,(JI own fr σ)[i]?=some (some v)->σ9[i]?=some (some v))->(∃m',m'<n/\W (i+1) m' zs H9) ->
     ∃m,m<n/\∃i ys H',Inv (X.comp scope cl (own++fr.map (·.1)) H2.objs.size s H fp) [] (JI own fr σ) H' s9/\tn i s9.heap/\(∀b∈fp,H' b=none)/\W i m ys H':=by
    intro s9 σ9 H9 zs I9 hσ ⟨m',hm,w9⟩;refine ⟨m',hm,i+1,zs,H9,(I9.sub_pins (λp hp=>absurd (show p∈([]:List (AD×Obj)) from hp) (by simp))).weak ?_ hσ,T.keep _ _ _ af λb B o e=>(I9.pin (b,o) (Yby _ (Yby _ (Ob B e)))).1,λb B=>?_,w9⟩
    ·rw [I9.len];exact Vk own fr σ
    ·obtain ⟨o,e,d⟩:=T.obj _ _ af b B;exact (I9.pin (b,o) (Yby _ (Yby _ (Ob B e)))).2.1
   cases ok with
   | false=>exact (if_neg Yaq).mpr (Z I8 (Oc k7) (hN _ _ ((if_neg Yaq).mp q8)))
   | true=>
    refine (if_pos rfl).mpr ?_;have ax:=(if_pos rfl).mp q8;refine thG (he H2.objs.size s H fp _ s8 σ7 H8 _ I8 ax) λy s9 yv H9 I9 r9 ⟨ay,hz,q9⟩=>?_;refine thG (GB _ s9 σ7 H9 (.ref s.heap.objs.size) [yv] (.ref s.heap.objs.size) [y] (λ_ H'=>H'=upd H9 s.heap.objs.size (.lst (ys++[yv]))) I9 rfl (.cons r9 .nil) ⟨_,ys,yv,rfl,rfl,ay,hz,rfl⟩) λ_ a3 _ a4 az _ a1=>?_;subst a1;exact Z az (Oc k7) (hN _ _ q9)
 exact codeAny_compStart_list (ac _ ⟨_,rfl⟩) (T.self _ 0 _ _ _ am (ac _ ⟨_,rfl⟩))
theorem Vm (I:Inv X qQ σ H s)(q:∀b∈fp,ZbA X qQ H b)(un:Un (frs X.stack) fp H H' s.heap s'.heap)(D:HOk X.prog X.w H' s'.heap)(j:AllBare s'.gens)(L:s'.os=s.os):Inv X qQ σ H' s':=
 I.call' L un D j λb B=>⟨(q b B).2.2.2.1,(q b B).2.1,(q b B).2.2.2.2.1,(q b B).2.2.2.2.2⟩
theorem XO (I:Inv X qQ σ H s)(q:s.heap.objs.size<=C)(B:H' C=none)(D:Inv X qQ j H' s')(L:Heap.SameBut C s'.heap h') :
  Inv X qQ j H' { s' with heap:=h' }:=by
 obtain ⟨N,O,f2,U,Y,Z⟩:=I.fpOk q B;exact D.turned (t':=s'.toks) (λb o hb e=>(L.2 b hb).trans e) N O U Y Z
theorem Jz (Z:X.calm=true)(S:Jn X scope cl own fr)(hi:PI X qU iter wi)(hg:∀C s H fp,PG (X.comp scope cl (own++fr.map (·.1)) C s H fp) qU g)(ht:∀C s H fp,Ze4 (X.comp scope cl (own++fr.map (·.1)) C s H fp) ifs tc)(he:∀C s H fp,PE (X.comp scope cl (own++fr.map (·.1)) C s H fp) elt te)(hs:∀x,foldedSetIterable iter X.env x=pure x:=by intro _;rfl):PE X (.ListComp elt [⟨qU,iter,ifs,0⟩] scope pos) (Ze5 wi g tc te own fr):=by
 intro qQ s σ H Q I h;rw [eval_ListComp];refine wpAny_comprehension_free (use:=none) rfl hs S.clos S.kind S.names (thn (hi qQ s σ H _ I h) λv s1 h1=>thn h1 λaa s2 h2=>?_);obtain ⟨it,fp,tn,J,H2,e,B,T,L,Y,hw⟩:=h2;subst e;refine Vl (RR:=λacc C=>compPost (model X.prog X.w) X.A X.xe none (EP X qQ σ Q) acc C) Z S B T L Y hg ht he hw ?_;rintro D C s' H' hC ab ⟨m,hn⟩ N un O j os q;refine ⟨m,hn,λh' U=>⟨.ref D,H',?_,rfl,q⟩⟩;exact XO (C:=C) (σ:=σ) B hC N (Vm B Y un O j os) U
theorem Ov (hN:X.N.Nodup)(U:X.N[i]?=some y)(hx:Loc X.env.scope y)(hc:X.calm=true)(S:Jn X scope cl own fr)(hi:PI X qU iter wi)(hg:∀C s H fp,PG (X.comp scope cl (own++fr.map (·.1)) C s H fp) qU g)(ht:∀C s H fp,Ze4 (X.comp scope cl (own++fr.map (·.1)) C s H fp) ifs tc)(he:∀C s H fp,PE (X.comp scope cl (own++fr.map (·.1)) C s H fp) elt te)(hf:X.fn y=true\/X.env.scope.names.lookup y=some .local:=by first | exact .inl rfl | exact .inr rfl | assumption)(Y:swapsWith (.ListComp elt [⟨qU,iter,ifs,0⟩] scope pos) (some (.Name y B)) j.line X.env=pure true:=by rfl)(hs:∀x,foldedSetIterable iter X.env x=pure x:=by intro _;rfl):PS X (.Assign [.Name y B] (.ListComp elt [⟨qU,iter,ifs,0⟩] scope pos) j) (ZgK (Ze5 wi g tc te own fr) (Gv i)):=by
 intro qQ s σ H Dn I h;rw [exec_Assign_Name_used _ _ _ _ Y];refine Yaa (wpAny_standAt (Yaa ?_));show wpAny _ X.A (do let _ <- comprehension (.ListComp elt [⟨qU,iter,ifs,0⟩] scope pos) scope X.env _ (newList []) false (eval iter X.env) (some (assign (.Name y B) X.env))) _ _ s;refine Yaa (Ybs (wpAny_comprehension_free (use:=some (assign (.Name y B) X.env)) (Q:=λ_ s'=>SP X qQ Dn .next s') rfl hs S.clos S.kind S.names (thn (hi qQ s σ H _ I h) λv s1 h1=>thn h1 λaf s2 h2=>?_))
  (λ_ s' hq=>Yab (Yab hq)) λ_ _ e=>e)
 obtain ⟨it,fp,tn,J,H2,e,L,T,Z,f2,hw⟩:=h2;subst e;refine Vl (RR:=λacc C=>compPost (model X.prog X.w) X.A X.xe (some (assign (.Name y B) X.env)) (λ_ s'=>SP X qQ Dn .next s') acc C) hc S L T Z f2 hg ht he hw ?_;rintro D C s' H' hC ag ⟨m,hn⟩ aa un ab O os q;have I3:Inv X qQ σ H' s':=Vm L f2 un ab O os;show wpAny _ X.A (assign (.Name y B) X.env (.ref D)) _ _ s';refine wpAny_assign_Name (Ws I3 hN U hx (v:=.ref D) rfl (λs4 I4 ⟨a,ac,ha⟩=>?_) hf);have ad:C≠a:=by
  rcases ha with z | z
  ·rw [z];exact Ydj (Ybm L.lt hC)
  ·obtain ⟨v,q⟩:=L.cell y a z;exact Ydj (Ybm q.lt hC)
 refine ⟨m,hn.sameBut ac ad,λh' ae=>⟨_,H',XO (C:=C) (σ:=σ) L hC aa I4 ae,q⟩⟩
end
noncomputable abbrev Vn (J:It)(D:AD)(g:TG)(tc:TT)(te:TE)(j:St)(R:Hp->Prop)(H1:Hp):Prop:=∃W:Nat->Nat->List V->Hp->Prop,(∃m,W 0 m [] (upd H1 D (.lst [])))/\OF J D g tc te j W R
theorem OG (j:Nat->List V->Hp->Prop)(h0:j 0 [] (upd H1 D (.lst [])))(Y:∀i ys H,i<=n->j i ys H->(i<n->J.go i H)/\(i=n->J.stop i H))(Z:∀i ys H x H',i<n->j i ys H->J.yld i H x H'->g x L H' λN H4=>JJ L N/\tc N H4 λb O=>if b=true then te N O λy U=>U D=some (.lst ys)/\ys.length<sizeLine/\j (i+1) (ys++[y]) (upd U D (.lst (ys++[y]))) else j (i+1) ys O)(hd:∀ys H,j n ys H->R H):Vn J D g tc te L R H1:=by
 refine ⟨λi m ys H=>m=n-i/\i<=n/\j i ys H,⟨_,rfl,Yax _,h0⟩,?_⟩;rintro i m ys H ⟨rfl,hi,p⟩;have q:=Y i ys H hi p;by_cases B:i<n
 ·exact .inr ⟨q.1 B,j (i+1),λys' H' p'=>⟨n-(i+1),by lia,rfl,B,p'⟩,λx H' y=>Z i ys H x H' B p y⟩
 ·have e:i=n:=by lia
  subst e;exact .inl ⟨q.2 rfl,hd ys H p⟩
theorem Jo {K:FG}(j:Nat->List V->Hp->Prop)(h0:j 0 [] (upd H1 D (.lst [])))(B:∀i ys H,i<=xs.length->j i ys H->SqL K H a xs)(U:∀i x ys H,xs[i]?=some x->j i ys H->g x q H λL Y=>JJ q L/\tc L Y λb N=>if b=true then te L N λy O=>O D=some (.lst ys)/\ys.length<sizeLine/\j (i+1) (ys++[y]) (upd O D (.lst (ys++[y]))) else j (i+1) ys N)(Z:∀ys H,j xs.length ys H->R H):Vn (Itl K a) D g tc te q R H1:=OG j h0 (λi s H hi p=>⟨λz=>⟨xs,xs[i],B i s H hi p,by simp [z]⟩,λe=>⟨xs,B i s H hi p,by lia⟩⟩) (λi s H x H' z p y=>by obtain ⟨rfl,y⟩:=y;exact U i x s _ (y xs (B i s _ (Ycw z) p)) p) Z
theorem Od {lo:Int}(j:Nat->List V->Hp->Prop)(h0:j 0 [] (upd H1 D (.lst [])))(O:∀i ys H,i<n->j i ys H->g (.int (lo+i)) q H λB U=>JJ q B/\tc B U λb L=>if b=true then te B L λy N=>N D=some (.lst ys)/\ys.length<sizeLine/\j (i+1) (ys++[y]) (upd N D (.lst (ys++[y]))) else j (i+1) ys L)(Y:∀ys H,j n ys H->R H):Vn (Itr lo n) D g tc te q R H1:=OG j h0 (λi s H hi p=>⟨id,λe=>Nat.le_of_eq e.symm⟩) (λi s H x H' z p y=>by obtain ⟨rfl,rfl⟩:=y;exact O i s _ z p) Y
theorem UN (j:∀y∈scope.names,y.2≠.free)(D:∀y∈scope.names,y.2≠.cell)(L:scope.kind=.function)(N:∀y∈scope.names,y.2=.local->scope.names.lookup y.1=some .local):Jn X scope [] own []:=by
 have q:(relabel scope X.env).names=scope.names:=by
  unfold relabel;dsimp only;refine (List.map_congr_left λp B=>?_).trans (List.map_id _);obtain ⟨n,k⟩:=p;have:(k == NameKind.free)=false:=by
   have:=j _ B;cases k <;> first | rfl | exact absurd rfl this
  simp [this]
 refine ⟨closureFor_none j,D,L,N,λy c h=>by simp at h,λy h=>?_,λp B=>by simp at B⟩;rw [q] at h;rcases h with h | h
 ·exact absurd rfl (D _ (Ydu h))
 ·exact absurd rfl (j _ (Ydu h))
noncomputable def YS (a C:AD)(h:Heap):Prop:=∃j vs,h.get? a=some j/\j.cls=.ref C/\j.data=.fields vs
noncomputable def ZeC (a C:AD):HO:=.ext (YS a C)
theorem ZdH (x:YS a C h):ObjOk P w H h a (ZeC a C):=by
 refine ⟨x,?_,λh1 h2 p k=>?_⟩
 ·obtain ⟨j,_,e,_⟩:=x;exact ⟨j,e⟩
 ·obtain ⟨j,vs,e,c,d⟩:=p;exact ⟨j,vs,k j e,c,d⟩
theorem ObjOk.there (ok:ObjOk P w H h a u):∃v,h.get? a=some v:=by
 cases u with
 | lst xs=>obtain ⟨_,_,_,_,e⟩:=ok;exact ⟨_,e⟩
 | tup xs=>obtain ⟨_,_,_,o,e,_⟩:=ok;exact ⟨_,e⟩
 | dK kvs=>obtain ⟨_,_,_,_,o,_,_,e,_⟩:=ok;exact ⟨_,e⟩
 | dT kvs=>obtain ⟨_,_,_,_,o,_,_,e,_⟩:=ok;exact ⟨_,e⟩
 | set S n=>obtain ⟨o,_,_,_,e,_⟩:=ok;exact ⟨_,e⟩
 | ins C dx fs=>obtain ⟨_,_,_,e,_⟩:=ok;exact ⟨_,e⟩
 | own y=>obtain ⟨_,e⟩:=ok;exact ⟨_,e⟩
 | xd fs=>obtain ⟨_,⟨_,_,_,e,_⟩,_⟩:=ok;exact ⟨_,e⟩
 | rng lo hi=>obtain ⟨_,_,_,e⟩:=ok;exact ⟨_,e⟩
 | frz ob u=>obtain ⟨e,_⟩:=ok;exact ⟨_,e⟩
 | tbl ps=>exact ⟨_,show h.get? a=some _ from ok⟩
 | met f y=>exact ⟨_,show h.get? a=some _ from ok⟩
 | ext φ=>obtain ⟨_,⟨_,e⟩,_⟩:=ok;exact ⟨_,e⟩
noncomputable def Zhq (P:PP)(w:Ab)(outer:List Env)(H H':Hp)(s:SS)(a C:AD)(s':SS):Prop:=
 ∃(t:AD)(B:Heap),s'.os=s.os/\AllBare s'.gens/\Un (frs outer) [] H H' s.heap s'.heap/\HOk P w H' s'.heap/\Heap.FlyingW B outer a (.ref C) (.ref t) s'.heap /\
  (∀b o,s'.heap.get? b=some o->H' b≠none->B.get? b=some o)/\(∀b j o,s.heap.get? b=some j->s'.heap.get? b=some o->b ∉ frs outer->B.get? b=some o)
noncomputable def CXr (P:PP)(w:Ab):CXT:=λj H s E e s'=>∃(a C:AD)(H':Hp),e=.ref a/\Zhq P w j H H' s a C s'/\E (.ref C) none H'
section
variable {X:Cx}{qQ:List (AD×Obj)}{σ:St}{H:Hp}{s:SS}
noncomputable def XQ (X:Cx)(E:XK):Prop:=∀(qQ:List (AD×Obj))(σ:St)(H:Hp)(s:SS)(h':Heap)(a C:AD)(vs:LW),Inv X qQ σ H s->Heap.MadeExcOf s.heap h' a (.ref C) vs->E (.ref C) none H->X.xe (.ref a) { s with heap:=h' }
theorem Ui {K:FG}{s:SS}{H:Hp} :
  XQ (YN (CXr P w) P w K mg base N qual scope f L A outer s H E) E:=by
 intro qQ σ H1 s1 h' a C vs I hx hE;have ad:=I.ok.frames;have aa:s1.heap.FunFrames base (envOfC qual scope s.heap.objs.size f L::outer):=I.stack;have ae:∀Y∈(envOfC qual scope s.heap.objs.size f L::outer),∀b,Y.frame=some b->b∈frs (envOfC qual scope s.heap.objs.size f L::outer):=λY he b O=>Ydk.mpr ⟨Y,he,O⟩;have j:∀b o,s1.heap.get? b=some o->b ∉ frs (envOfC qual scope s.heap.objs.size f L::outer)->(W.hideAll s1.heap (frs (envOfC qual scope s.heap.objs.size f L::outer))).get? b=some o:=λb o e n=>W.hideAll_get _ e n;refine wpAny_leaves_madeW (base:=W.hideAll s1.heap (frs (envOfC qual scope s.heap.objs.size f L::outer))) ad rfl (λb o q=>W.of_hideAll _ q) (W.funFrames_hide aa ae) hx λh2 t fl tu tn sm=>?_;refine ⟨a,C,H1,rfl,⟨t,_,I.os,I.bare,⟨λb o e n O _=>?_,λb o e n O _=>?_,λb o e n _=>?_,λb o e _=>?_,I.base.tups,I.base.frzs,I.base.tbls⟩,λb u e=>?_,fl,λb o e n=>?_,λb o0 o e0 e nb=>?_⟩,hE⟩
 ·have B:s1.heap.get? b=some o:=I.base.keep b o e n O (by intro z;exact absurd (show b∈([]:List AD) from z) (by simp));refine fl.1 b o (j b o B λz=>?_);rcases Yav.mp (I.stkSub b z) with q | q
  ·exact absurd (Ybm (Yag e) I.ok.above) (by rw [q];exact Ych _)
  ·exact O q
 ·obtain ⟨sl,B⟩:=I.base.slot b o e n O (by intro z;exact absurd (show b∈([]:List AD) from z) (by simp));have nf:∀vs,o.data≠.fields vs:=by
   obtain ⟨_,o',D,Z⟩:=I.funs.mem (show b∈(outer.filterMap (·.frame)) from O);rw [B] at D;cases D;exact Z
  obtain ⟨ab,U⟩:=sm b { o with slots:=sl } (hx.keeps b _ B) nf;exact ⟨ab,U⟩
 ·exact I.base.free b o e n (by intro z;exact absurd (show b∈([]:List AD) from z) (by simp))
 ·obtain ⟨o1,B⟩:=I.base.there b o e (by intro z;exact absurd (show b∈([]:List AD) from z) (by simp));by_cases O:b∈frs (envOfC qual scope s.heap.objs.size f L::outer)
  ·obtain ⟨_,o',D,Z⟩:=aa.mem O;rw [B] at D;cases D;obtain ⟨ab,U⟩:=sm b o1 (hx.keeps b _ B) Z;exact ⟨_,U⟩
  ·exact ⟨o1,fl.1 b o1 (j b o1 B O)⟩
 ·have trk:∀c v,s1.heap.get? c=some v->H1 c≠none->h2.get? c=some v:=λc v q hc=>fl.1 c v (j c v q λz=>hc (I.stkFree c z));refine (I.hok b u e).stay (λc v hc q=>trk c v q ?_) (λ_ q=>q) λ_ _ q=>q;rcases hc with z | z
  ·rw [z,e];simp
  ·rw [z];simp
 ·cases q':H1 b with
  | none=>exact absurd q' n
  | some u=>
   obtain ⟨v,q⟩:=(I.hok b u q').there;have nb:b ∉ frs (envOfC qual scope s.heap.objs.size f L::outer):=λz=>n (I.stkFree b z);have U:=fl.1 b v (j b v q nb);rw [e] at U;cases U;exact j b _ q nb
 ·obtain ⟨o1,B⟩:=I.base.there b o0 e0 (by intro z;exact absurd (show b∈([]:List AD) from z) (by simp));have ac:b ∉ frs (envOfC qual scope s.heap.objs.size f L::outer):=λz=>by
   rcases Yav.mp (I.stkSub b z) with q | q
   ·exact absurd (Ybm (Yag e0) I.ok.above) (by rw [q];exact Ych _)
   ·exact nb q
  have U:=fl.1 b o1 (j b o1 B ac);have e':h2.get? b=some o:=e;rw [e'] at U;cases U;exact j b _ B ac
theorem XR {P:PP}{w:Ab}{outer:List Env}{H H':Hp}{s s':SS}{a C t:AD}{B h2:Heap}(un:Un (frs outer) [] H H' s.heap s'.heap)(Y:HOk P w H' s'.heap)(fr:s'.heap.FunFrames B outer)(trk:∀b o,s'.heap.get? b=some o->H' b≠none->B.get? b=some o)(old:∀b o0 o,s.heap.get? b=some o0->s'.heap.get? b=some o->b ∉ frs outer->B.get? b=some o)(st:B.StaysIn h2)(sm:s'.heap.UpToSlots h2) :
  Un (frs outer) [] H H' s.heap h2/\HOk P w H' h2:=by
 refine ⟨⟨λb o e n D O=>st b o (old b o o e (un.keep b o e n D O) D),λb o e n D O=>?_,un.free,λb o e O=>?_,un.tups,un.frzs,un.tbls⟩,λb u e=>?_⟩
 ·obtain ⟨sl,N⟩:=un.slot b o e n D O;obtain ⟨_,o',j,L⟩:=fr.mem D;rw [N] at j;cases j;obtain ⟨U,Z⟩:=sm b _ N L;exact ⟨U,Z⟩
 ·obtain ⟨o1,N⟩:=un.there b o e O;by_cases D:b∈frs outer
  ·obtain ⟨_,o',j,L⟩:=fr.mem D;rw [N] at j;cases j;obtain ⟨U,Z⟩:=sm b _ N L;exact ⟨_,Z⟩
  ·exact ⟨o1,st b o1 (old b o o1 e N D)⟩
 ·refine (Y b u e).stay (λc v hc q=>st c v (trk c v q ?_)) (λ_ q=>q) λ_ _ q=>q;rcases hc with z | z
  ·rw [z,e];simp
  ·rw [z];simp
theorem Inv.track (I:Inv X qQ σ H s)(j:H a=none)(L:a≠X.env.locals)(N:∀x c,X.env.cells.lookup x=some c->c≠a)(O:∀p∈X.pn++qQ,p.1≠a)(U:X.s₀.heap.get? a=none)(ok:∀H',ObjOk X.prog X.w H' s.heap a u):Inv X qQ σ (upd H a u) s:=by
 refine ⟨I.ok,I.os,I.bare,⟨I.base.keep,I.base.slot,λb o e n z=>?_,I.base.there,λb xs e=>?_,λb o x e=>?_,λb ps e=>?_⟩,I.loc,I.cell,?_,λx c e=>?_,λp B=>?_,λb v e=>?_,I.len⟩
 ·rw [Gi (show b≠a from λq=>by rw [q,U] at e;cases e)];exact I.base.free b o e n z
 ·have:=I.base.tups b xs e;rw [Gi (Gh this j)];exact this
 ·have:=I.base.frzs b o x e;rw [Gi (Gh this j)];exact this
 ·obtain ⟨more,this⟩:=I.base.tbls b ps e;exact ⟨more,by rw [Gi (Gh this j)];exact this⟩
 ·rw [Gi (Ne.symm L)];exact I.free
 ·rw [Gi (N x c e)];exact I.freeC x c e
 ·obtain ⟨e,n,r⟩:=I.pin p B;exact ⟨e,by rw [Gi (O p B)];exact n,r⟩
 ·by_cases D:b=a
  ·subst D;rw [Gb] at e;cases e;exact ok _
  ·rw [Gi D] at e;exact (I.hok b v e).stay (λ_ _ _ q=>q) (λc q=>by rw [Gi (Gh q j)];exact q) λc xs q=>by rw [Gi (Gh q j)];exact q
end
abbrev Zh1:LW:=[.type "ValueError", .type "Exception", .type "BaseException", .type "object"]
abbrev ExcC (K:FG)(C:AD):Prop:=W.excIn K C Zh1 "ValueError.__new__" = true
theorem Xi {K:FG}(Z:K.In h)(ex:ExcC K C):∃q B D,(∃aa ab ac ad ae L af N O j0 j1 j2 j3 j5,
  h.get? C=some (excClassObj aa ab C B ac q ad ae L af N O j0 j1 j2 j3 j5 "ValueError.__new__"))/\h.Ns B D/\D "__init__" = none/\OwnTail h Zh1 q:=by
 have ex':=ex;unfold ExcC W.excIn at ex';split at ex'
 ·rename_i O U Y lk;have ag:=Z _ _ lk;split at ex'
  ·rename_i C' j j0 j1 j2 j3 n' j5 hm hs;rw [Ycl,Ycl,Ycl,Ycl,Ycl,Ybh,Ybh,Ybh] at ex';obtain ⟨⟨⟨⟨⟨z1,z2⟩,z3⟩,z4⟩,z5⟩,z6⟩:=ex';have ah:U.hasDel=false:=by simpa using z3
   subst z1 z2;cases U with
   | mk a1 a2 a3 a4 a5 a6 a7 a8 a9 a10 a11=>
    have ai:a3=.ref C'::j:=hm;have aj:a11=false:=ah;subst ai aj;have es:Y=#[j0,j1,j2,j3,some (.builtin "ValueError.__new__"),j5]:=by
     cases Y with
     | mk l=>exact Ybg Array.mk hs
    subst es;exact ⟨j,a4,_,⟨_,_,_,_,_,_,_,_,_,_,_,_,_,_,ag⟩,.of_isNs (W.isNs_of_in Z z5),W.nsMap_none_of_in Z z5 z6,W.tail_of_in Z z4⟩
  ·cases ex'
 ·cases ex'
section
variable {X:Cx}
noncomputable def Ze6 (C:AD)(E:XK)(t:TA):TS:=λ_ σ H=>t σ H λvs H1=>vs.length<=sizeLine/\E (.ref C) none H1
theorem XS (hc:X.calm=true)(hR:XQ X E)(hg:Gl X x)(U:X.mg x=some (.ref C))(ex:ExcC X.K C)(ha:PA X (e::es) t)(Y:(x == ("__debug__" : Str))=false:=by decide)(he:starEach (e::es) X.env=(false,eval e X.env)::starEach es X.env:=by rfl)(Z:(backTo qG (starEach es X.env)).any (·.1)=false:=by rfl) :
  PS X (.Raise (some (.Call (.Name x np) (e::es) [] qG)) none pos) (Ze6 C E t):=by
 intro qQ s σ H D I h;obtain ⟨j,aa,ac,⟨ad,ae,af,ag,ah,B,ai,L,aj,j0,j1,j2,j3,j5,hC⟩,hN,ak,T⟩:=Xi I.mod.kin ex;refine wpAny_Raise_call_subT (C:=C) (nm:=ad) (q:=ae) (N:=aa) (bs:=af) (bm:=j) (hdct:=ag) (sn:=ah) (sub:=B) (ab:=ai) (col:=L) (dd:=aj) (k0:=j0) (k1:=j1) (k2:=j2) (k3:=j3) (k5:=j5)
  PySem.F.excBase_ValueError (mN:=ac) (T.hasType PySem.F.excBase_ValueError.hasBase) (I.ok.hd hc) (by rw [he];show (false || (backTo qG (starEach es X.env)).any (·.1))=false;rw [Z];rfl) ak (O4 I hg U ⟨rfl,?_⟩ Y)
 have hA:=ha qG qQ s σ H _ I h;rw [he] at hA ⊢;refine Calls.evalArgs_plain (thn hA λus s2 ⟨vs,H2,O,r2,hl,q2⟩=>?_);exact ⟨rfl,by rw [<-r2.length];exact hl,O.bk _ _ hC,hN.keeps O.bk,T.keeps O.bk,λh' a U=>hR qQ σ H2 s2 h' a C us O U q2⟩
noncomputable def Cx.inExc (X:Cx)(a:AD):Cx:={ X with A:=X.A.mark (some (.ref a)),calm:=false,xe:=λ_ _=>False }
theorem Cx.Ok.inExc {X:Cx}(ok:X.Ok)(a:AD):(X.inExc a).Ok:=
 ⟨ok.mod,ok.kind,ok.glob,ok.blt,ok.above,ok.inj,ok.has,ok.cab,(λz=>nomatch z),ok.frames,ok.stk,ok.exf,ok.bs,ok.bsz,ok.noex,ok.exfs,ok.funs,ok.frf⟩
variable {qQ:List (AD×Obj)}{σ:St}{H:Hp}{s:SS}
theorem Inv.inExc (I:Inv X qQ σ H s)(a:AD):Inv (X.inExc a) qQ σ H s:=⟨I.ok.inExc a,I.os,I.bare,I.base,I.loc,I.cell,I.free,I.freeC,I.pin,I.hok,I.len⟩
theorem Inv.outExc (ok:X.Ok)(I:Inv (X.inExc a) qQ σ H s):Inv X qQ σ H s:=⟨ok,I.os,I.bare,I.base,I.loc,I.cell,I.free,I.freeC,I.pin,I.hok,I.len⟩
theorem Uv (I:Inv X qQ σ H s)(hN:X.N.Nodup)(hi:X.N[i]?=some n)(hl:X.env.scope.names.lookup n=some .local)(h:∀s',Inv X qQ (σ.set i none) H s'->Q () s'):wpAny M A (do bindName X.env n .none;unbindBehindTheSuite X.env n pos) Q E s:=by
 obtain ⟨m,hn,Y⟩:=id I.loc;refine wpAny_nameGoes_keeps hl hn (by rw [I.ok.kind];rfl) λh' v Z B=>h _ ?_;have old:∀b o,X.s₀.heap.get? b=some o->b≠X.env.locals:=λb o e=>Yar (Ybm (Yag e) I.ok.above);have D:∀b u,H b=some u->b≠X.env.locals:=λb u e z=>by rw [z,I.free] at e;cases e
 refine ⟨I.ok,I.os,I.bare,⟨λb o e z hb L=>(B.2 b (old b o e)).trans (I.base.keep b o e z hb L),λb o e z hb L=>?_,I.base.free,λb o e L=>?_,I.base.tups,I.base.frzs,I.base.tbls⟩,
  ⟨_,Z,λj y O e1 U e3=>?_⟩,λy c e=>?_,I.free,I.freeC,λp hp=>?_,λb u e=>?_,by simpa using I.len⟩
 ·obtain ⟨sl,q⟩:=I.base.slot b o e z hb L;exact ⟨sl,(B.2 b (old b o e)).trans q⟩
 ·obtain ⟨o',q⟩:=I.base.there b o e L;exact ⟨o',(B.2 b (old b o e)).trans q⟩
 ·by_cases hj:j=i
  ·subst hj;have aa:j<σ.length:=by rw [I.len];exact (Yal.mp hi).1
   rw [List.getElem?_set_self aa] at U;cases U
  ·rw [List.getElem?_set_ne (Ne.symm hj)] at U;obtain ⟨u,ru,lk⟩:=Y j y O e1 U e3;refine ⟨u,ru,?_⟩;have ab:y≠n:=λz=>hj (VF hN e1 (z▸hi));rcases lk with ⟨k,e⟩ | ⟨k,c,e,z⟩
   ·exact .inl ⟨k,by simp [ab,e]⟩
   ·exact .inr ⟨k,c,e,z.sameBut B (I.cne y c e)⟩
 ·obtain ⟨O,z⟩:=I.cell y c e;exact ⟨O,z.sameBut B (I.cne y c e)⟩
 ·obtain ⟨e,z,ne,nf,d⟩:=I.pin p hp;exact ⟨(B.2 p.1 ne).trans e,z,ne,nf,d⟩
 ·refine (I.hok b u e).stay (λc O hc q=>(B.2 c ?_).trans q) (λ_ q=>q) λ_ _ q=>q;rcases hc with z | z
  ·rw [z];exact D b u e
  ·exact D c _ z
end
theorem VP (j:YS a C h):W.Looks M h (typeOf (.ref a)) (.ref C):=by
 obtain ⟨q,vs,e,c,d⟩:=j;exact c▸(W.Looks.ld e).andThen .now
theorem ZY {K:PySem.W.Frag}(D:K.In s.heap)(L:YS a C s.heap)(N:PySem.W.kitCls K (.ref C) (.ref W)=some b)(O:PySem.W.subIn K (.ref W) (.type "BaseException")=some true)(h:Q b s):wpAny M A (excMatches (.ref a) (.ref W)) Q E s:=by
 obtain ⟨q,B,j⟩:=PySem.W.kit_cls (M:=M) D N;have U:=PySem.W.looks_subIn (M:=M) D O;have Y:=VP (M:=M) L;obtain ⟨h0,g,Z,tk,os⟩:=s;have f:=tc_notTuple;unfold excMatches isInstance isExcClass;refine Yaa (Yaa (q.at (wpAny_of_eq f ?_)));simp only [Ydl,Ycj];refine Yaa (Yab ?_);simp only [List.forIn_cons,List.forIn_nil];refine Yaa (Yaa (Yaa (Yaa (B.at ?_))));simp only [if_true];refine U.at ?_;simp only [Bool.not_true,Ydl,Ycj];refine Yab (Yab ?_);refine Yaa (Y.at ?_);refine Yaa (Yaa (Yaa (j.at ?_)));cases b with
 | true=>simp only [if_true];first | exact Yab (Yab (Yab h)) | exact Yab (Yab h) | exact Yab h
 | false=>simp only [Ydl,Ycj];first | exact Yab (Yab (Yab h)) | exact Yab (Yab h) | exact Yab h
section
variable {X:Cx}{k:Nat}{f:AD}{fd:FuncData}{ps:List Str}{sp:Sp}{dvs:List V}{ds:LW}{fx:Str}{fp qG bpos np hpos pos:Pos}{e:Expr}{es:List Expr}{t:TA}
noncomputable def ZcV (K:PySem.W.Frag)(W:AD)(i:Nat)(ts:TS)(D:Ut)(σ:St):XK:=λcls _ H2=>∃C,cls=.ref C/\PySem.W.kitCls K (.ref C) (.ref W)=some true /\
 ∀a,H2 a=none->ts { nx:=λj H'=>D.nx (j.set i none) H',rt:=D.rt,bk:=λj H'=>D.bk (j.set i none) H',ct:=λj H'=>D.ct (j.set i none) H' } (σ.set i (some (.ref a))) (upd H2 a (ZeC a C))
theorem handled (hc:X.calm=true)(ab:X.stack=X.env::X.outer)(ak:X.env.frame=some X.env.locals)(al:X.ex=[])(hN:X.N.Nodup)(hi:X.N[i]?=some n)(hl:X.env.scope.names.lookup n=some .local)(am:Gl X wx)(an:X.mg wx=some (.ref W))(ao:PySem.W.subIn X.K (.ref W) (.type "BaseException")=some true)(ap:∀a,PSs (X.inExc a) (b0::O) ts)(I:Inv X qQ σ H s)(h:CXr X.prog X.w X.stack H s (ZcV X.K W i ts D σ) ev s')(aq:(wx == ("__debug__" : Str))=false:=by decide) :
  wpAny (model X.prog X.w) X.A (noteFrame ev X.env) (λ_ s2=>wpAny (model X.prog X.w) X.A (setFlight ev none) (λ_ s3=>
   wpAny (model X.prog X.w) X.A (handleBy ev X.env (.ExceptHandler (some (.Name wx np)) (some n) (b0::O) hpos::rest)) (SP X qQ D) X.xe s3) X.xe s2) X.xe s':=by
 obtain ⟨a,C,H',rfl,⟨t,B,os,ac,un,ar,U,trk,old⟩,C',eC,hk,q⟩:=h;cases eC;have ff:∀{E:Aa->SS->Prop},∀(x:Aa)(s:SS),(λ(_:Aa) (_:SS)=>False) x s->E x s:=λ_ _ z=>False.elim z;have ad:=U;rw [ab] at ad;have ae:=I.ok.frames;rw [ab] at ae;have new:s.heap.get? a=none:=by
  cases z:s.heap.get? a with
  | none=>rfl
  | some o0=>
   exfalso;obtain ⟨ob,vs,e1,c1,d1,_⟩:=U.first;by_cases hb:a∈frs X.stack
   ·obtain ⟨_,o',af,as⟩:=U.2.2.1.mem hb;rw [e1] at af;cases af;exact as vs d1
   ·have:=old a o0 ob z e1 hb;rw [U.2.1] at this;cases this
 have ag:H' a=none:=by
  cases z:H' a with
  | none=>rfl
  | some u=>
   exfalso;obtain ⟨ob,vs,e1,_⟩:=U.first;have:=trk a ob e1 (by rw [z];simp);rw [U.2.1] at this;cases this
 have au:a≠X.env.locals:=λz=>by
  obtain ⟨m,⟨o,_,_,ho,_⟩,_⟩:=I.loc;rw [<-z,new] at ho;cases ho
 have av:∀x c,X.env.cells.lookup x=some c->c≠a:=λx c e z=>by
  obtain ⟨v,o,ho,_⟩:=I.cell x c e;rw [z,new] at ho;cases ho
 have aw:∀p∈X.pn++qQ,p.1≠a:=λp hp z=>by
  have:=(I.pin p hp).1;rw [z,new] at this;cases this
 have ax:X.s₀.heap.get? a=none:=by
  cases z:X.s₀.heap.get? a with
  | none=>rfl
  | some o=>
   obtain ⟨o',e'⟩:=I.base.there a o z (by rw [al];simp);rw [new] at e';cases e'
 have at_:∀{h2:Heap}{tk:Nat},B.StaysIn h2->s'.heap.UpToSlots h2->Inv X qQ σ H' { s' with heap:=h2,toks:=tk }:=λ{h2 tk} st sm=>by
  obtain ⟨u2,k2⟩:=XR (t:=t) (a:=a) (C:=C) un ar U.2.2.1 trk old st sm;exact I.call' (ch:=[]) os u2 k2 ac (λb z=>absurd z (by simp))
 refine wpAny_looks_onW ae ak ad λh4 Y ah=>?_;refine wpAny_landsW Y λh5 Z ai=>?_;have I5:Inv X qQ σ H' { s' with heap:=h5 }:=at_ (tk:=s'.toks) Z.1 (ah.trans ai);refine wpAny_handleBy_cons (codeAny_handlers_test ?_) (by intro q;cases q);refine O4 (X:=X.inExc a) (I5.inExc a) am an ?_ aq;obtain ⟨ob,vs,e1,c1,d1,_⟩:=Z.first;refine ZY (b:=true) I5.kIn ⟨ob,vs,e1,c1,d1⟩ hk ao ?_;refine codeAny_handlers_suite_as ?_;refine lands_againW Z λh6 aj ay=>?_;have I6:Inv X qQ σ H' { s' with heap:=h6 }:=at_ (tk:=s'.toks) aj.1 ((ah.trans ai).trans ay);obtain ⟨az,a1,e6,c6,d6,_⟩:=aj.first;have I7:=I6.track (u:=ZeC a C) ag au av aw ax λH2=>ZdH ⟨az,a1,e6,c6,d6⟩;refine OA (X:=X.inExc a) (I7.inExc a) hN hi (.inl hl) (v:=.ref a) rfl (λs8 I8=>?_) (.inr hl);refine Ybs (ap a qQ s8 _ _ _ I8 (q a ag)) (λU s9 L=>?_) ff;show wpAny _ _ (do bindName X.env n .none;unbindBehindTheSuite X.env n hpos) _ _ s9;cases U with
 | next=>
  obtain ⟨σ9,H9,I9,L⟩:=L;exact Uv (I9.outExc I.ok) hN hi hl λaa j=>⟨_,_,j,L⟩
 | brk=>
  obtain ⟨σ9,H9,I9,L⟩:=L;exact Uv (I9.outExc I.ok) hN hi hl λaa j=>⟨_,_,j,L⟩
 | cont=>
  obtain ⟨σ9,H9,I9,L⟩:=L;exact Uv (I9.outExc I.ok) hN hi hl λaa j=>⟨_,_,j,L⟩
 | ret u=>
  obtain ⟨v,σ9,H9,I9,r9,L⟩:=L;exact Uv (I9.outExc I.ok) hN hi hl λaa j=>⟨v,_,_,j,r9,L⟩
theorem ZbN (F:GG X.prog X.w X.K X.mg X.base (CXr X.prog X.w) k f fd ps sp)(hr:Room k X.A)(hg:Gl X fx)(hm:X.mg fx=some (.ref f))(hk:W.keepIn X.K (.ref f)=true)(hb:Binds X.K fd ps ds)(hd:Vals dvs ds)(ha:PA X.nox (e::es) t)(I:Inv X qQ σ H s)(h:t σ H λvs H1=>sp (vs++dvs) H1 Q E)(hQ:∀u s',EP X qQ σ Q u s'->U u s')(hE:∀L H1 B s',Inv X qQ σ H1 B->CXr X.prog X.w X.stack H1 B E L s'->Y L s')(N:(fx == ("__debug__" : Str))=false:=by decide)(he:starEach (e::es) X.env=(false,eval e X.env)::starEach es X.env:=by rfl)(O:(backTo qG (starEach es X.env)).any (·.1)=false:=by rfl) :
  wpAny (model X.prog X.w) X.A (eval (.Call (.Name fx fp) (e::es) [] qG) X.env) U Y s:=by
 refine Yeg (O4 I hg hm ?_ N);refine W.callWith_K (h₀:=X.base) I.ok.mod.kin hk (Ybs (ha qG qQ s σ H _ (I.wish _) h) (λus B ⟨vs,H1,j,r,q⟩=>⟨j.unwish.kIn,?_⟩) (λ_ _ z=>False.elim z)) he O;have j:=j.unwish;have Z:Vals (vs++dvs) (us++ds):=r.append hd;have hl:(us++ds).length=ps.length:=by rw [<-Z.length];exact F.len _ _ _ _ q
 refine wpAny_call (codeAny_mono (F.run X.A X.stack B H1 ⟨us,[]⟩ (us++ds) (vs++dvs) Q E hr j.env0 (hb B us j.kIn hl) Z q) λr s' D=>?_);cases r with
 | error L=>exact hE L H1 B s' j D
 | ok fl=>
  cases fl with
  | ret u=>exact hQ u s' (j.after D)
  | next=>exact False.elim D
  | brk=>exact False.elim D
  | cont=>exact False.elim D
noncomputable def Zin (K:PySem.W.Frag)(W:AD)(i:Nat)(sp:Sp)(dvs:List V)(t:TA)(ts:TS):TS:=λD σ H=>t σ H λvs H1=>sp (vs++dvs) H1 (λ_ H2=>D.nx σ H2) (ZcV K W i ts D σ)
theorem Ze7 (F:GG X.prog X.w X.K X.mg X.base (CXr X.prog X.w) k f fd ps sp)(hr:Room k X.A)(hg:Gl X fx)(hm:X.mg fx=some (.ref f))(hk:PySem.W.keepIn X.K (.ref f)=true)(hb:Binds X.K fd ps ds)(hd:Vals dvs ds)(ha:PA X.nox (e::es) t)(hc:X.calm=true)(O:X.stack=X.env::X.outer)(U:X.env.frame=some X.env.locals)(Y:X.ex=[])(hN:X.N.Nodup)(hi:X.N[i]?=some n)(hl:X.env.scope.names.lookup n=some .local)(Z:Gl X L)(aa:X.mg L=some (.ref W))(ab:PySem.W.subIn X.K (.ref W) (.type "BaseException")=some true)(ac:∀a,PSs (X.inExc a) (b0::j) ts)(ad:(fx == ("__debug__" : Str))=false:=by decide)(B:(L == ("__debug__" : Str))=false:=by decide)(he:starEach (e::es) X.env=(false,eval e X.env)::starEach es X.env:=by rfl)(ae:(backTo qG (starEach es X.env)).any (·.1)=false:=by rfl)(hs:swapsWith (.Call (.Name fx fp) (e::es) [] qG) none bpos.line X.env=pure false:=by rfl) :
  PS X (.Try [.Expr (.Call (.Name fx fp) (e::es) [] qG) bpos] [.ExceptHandler (some (.Name L np)) (some n) (b0::j) hpos] [] [] pos) (Zin X.K W i sp dvs t ts):=by
 intro qQ s σ H D I h;refine wpAny_Try_except (wpAny_execs_cons (wpAny_Expr_any (ZbN F hr hg hm hk hb hd ha I h (λu s' hq=>?_) (λev H1 s1 s' I1 hq=>?_) ad he ae) I.quiet hs))
 ·obtain ⟨v,H2,I2,_,q⟩:=hq;exact wpAny_execs_nil (wpAny_execs_nil ⟨σ,H2,I2,q⟩)
 ·exact handled hc O U Y hN hi hl Z aa ab ac I1 hq B
end
theorem ZZ {K:FG}(q:K.In s.heap)(hx:YS a C s.heap)(D:W.findIn K (.ref C) "__getattribute__" = some (some (.builtin "BaseException.__getattribute__")))(B:W.findIn K (.ref C) "__getattr__" = some none)(L:W.findIn K (.ref C) "__class__" = some (some (.builtin "object.__class__")))(hm:W.mroIn K C (.type "object")=some true)(hB:W.subIn K (.ref C) (.type "BaseException")=some true)(h:Q (some (.ref C)) { s with toks:=s.toks+1 }):wpAny (model prog w) A (getAttr? (.ref a) "__class__") Q E s:=by
 have j:=VP (M:=model prog w) hx;have L1:=W.looks_findIn (M:=model prog w) q D;have L2:=W.looks_findIn (M:=model prog w) q B;have L3:=W.looks_findIn (M:=model prog w) q L;have L4:=W.looks_subIn (M:=model prog w) q hB;obtain ⟨h0,g,d,t,Z⟩:=s;have f3:=PySem.F.attr_ValueError.ga.bind (.ref a);unfold getAttr? getAttrBy? getAttrBy;refine Yaa (wpAny_mkText (Yaa (Yea (Ycd (Yaa (j.at (Yaa (L1.at ?_))))))));dsimp only;have N:(onTheHeap (Value.ref C) && Value.builtin "BaseException.__getattribute__" == Value.builtin "object.__getattribute__")=false:=by
  have z:(Value.builtin "BaseException.__getattribute__" == Value.builtin "object.__getattribute__")=false:=by decide +kernel
  rw [z,Bool.and_false]
 rw [N];simp only [Ydl,Ycj];unfold getAttrByItsOwn
 repeat (any_goals (first | assumption | with_reducible refine j.at ?_ | with_reducible refine L2.at ?_ | wp_step))
 have O:splitId "BaseException.__getattribute__" = some ("BaseException", "__getattribute__"):=by decide +kernel
 have U:builtinKind "BaseException.__getattribute__" = some .slot:=by decide +kernel
 have aa:=PySem.F.args_bexc_ga (.ref a) (.str (Str.ofString "__class__") t);refine codeAny_call_builtin PySem.F.attr_ValueError.ga.plain PySem.F.entry_bexc_ga ?_;show wpAny _ _ (checkBuiltinCall "BaseException.__getattribute__" ⟨[.ref a,.str (Str.ofString "__class__") t],[]⟩) _ _ _;simp only [checkBuiltinCall,U,O];refine Yaa ?_;unfold isInstance;have f5:=PySem.F.typeOf_object_class;have f6:=PySem.F.slot_gs_get.lookup;have f7:=PySem.F.slot_gs_set.lookup;have ab:(⟨h0,g,d,t+1,Z⟩:SS).TypeIs (.builtin "object.__class__") "getset_descriptor" := PySem.F.typeOf_object_class;refine Yaa (j.at (L4.at ?_))
 repeat (any_goals (first | assumption | with_reducible refine j.at ?_ | with_reducible refine L3.at ?_ | wp_step))
 have Lo:W.Looks (model prog w) h0 (isSubtype (.ref C) (.type (".".intercalate ("object.__class__".cutAt '.').dropLast))) true:=by
  rw [PySem.F.owner_object_class];exact W.looks_mroIn q hm
 have Y:(⟨h0,g,d,t+1,Z⟩:SS).TypeIs (.builtin "object.__class__") "getset_descriptor" := PySem.F.typeOf_object_class;refine codeAny_call_builtin PySem.F.slot_gs_get.plain PySem.F.entry_gs_get (PySem.F.slot_gs_get.check _ _ _ _ _ _ _ _ Y (PySem.F.args_gs_get _ _ _) ?_)
 repeat (any_goals (first | assumption | with_reducible refine j.at ?_ | with_reducible refine Lo.at ?_ | wp_step))
 refine ⟨Code.quiet_builtin _ (by decide +kernel),Ycz PySem.F.entry_object_class ?_⟩
 repeat (any_goals (first | assumption | with_reducible refine j.at ?_ | wp_step))
structure ZgM (K:FG)(C:AD):Prop where
 ex:ExcC K C
 ga:W.findIn K (.ref C) "__getattribute__" = some (some (.builtin "BaseException.__getattribute__"))
 nga:W.findIn K (.ref C) "__getattr__" = some none
 cl:W.findIn K (.ref C) "__class__" = some (some (.builtin "object.__class__"))
 ob:W.mroIn K C (.type "object")=some true
 be:W.subIn K (.ref C) (.type "BaseException")=some true
theorem XT {K:FG}{a C:AD}(k:ZgM K C):W.KitX K (.ref a) (.ref C) (YS a C) where
 ty:=λ_ _ _ p=>VP p
 it:=λM h KX _=>by
  obtain ⟨_,_,_,⟨_,_,_,_,_,_,_,_,_,_,_,_,_,_,hC⟩,_⟩:=Xi KX k.ex;intro A Q E s kk q;unfold isType loadHead;exact Yaa (wpAny_loadPart (kk _ _ hC) (Yab q))
 ne:=λh tp dd its n sl KX htp=>by
  obtain ⟨_,_,_,⟨_,_,_,_,_,_,_,_,_,_,_,_,_,_,hC⟩,_⟩:=Xi KX k.ex;refine Yep.mpr λq=>?_;have e:C=tp:=Value.ref.inj (Ybh.mp q);rw [<-e,hC] at htp;have z:=Ybg Obj.data (Ybk htp);unfold excClassObj at z;cases z
 ca:=λKX p q=>ZZ KX p k.ga k.nga k.cl k.ob k.be q
noncomputable def WE:V->Aa
 | .ty n=>.type n
 | .ref a=>.ref a
 | _=>.none
noncomputable def Z0:V->Bool
 | .ty _=>true
 | .ref _=>true
 | _=>false
theorem RelV.cls (r:RelV c u)(h:Z0 c=true):u=WE c:=by
 cases c with
 | ty n=>exact r
 | ref a=>exact r
 | _=>cases h
theorem Vals.cls:∀{cs:List V}{us:LW},Vals cs us->cs.all Z0=true->us=cs.map WE
 | _,_,.nil,_=>rfl
 | _,_,.cons r t,h=>by
  rw [List.all_cons,Ycl] at h;rw [Yap,r.cls h.1,Vals.cls t h.2]
noncomputable def Zh2 (K:FG):List V->Hp->VK->Prop:=λxs H Q=>∃x c b,xs=[x,c]/\Q (.bl b) H /\
 ((∃t,YK K H x t/\Z0 c=true/\W.kitOne K t (WE c)=some b) \/
  (∃a C,x=.ref a/\H a=some (ZeC a C)/\ZgM K C/\Z0 c=true/\W.kitOne K (.ref C) (WE c)=some b) \/
  (∃a C tp cs,x=.ref a/\H a=some (ZeC a C)/\ZgM K C/\c=.ref tp/\H tp=some (.tup cs)/\cs.all Z0=true/\W.kitAny K (.ref C) (cs.map WE)=some b))
theorem ZbO :JG X (.builtin "isinstance") (Zh2 X.K):=by
 intro qQ s σ H xs us Q I O h;obtain ⟨x,c,b,rfl,q,h⟩:=h;obtain ⟨u,U,rfl,B,D⟩:=O.two;have fin:∀tk,EP X qQ σ Q (.bool b) { s with toks:=tk }:=λtk=>⟨.bl b,H,I.tok tk,rfl,q⟩;rcases h with ⟨t,ty,j,e⟩ | ⟨a,C,rfl,ha,k,j,e⟩ | ⟨a,C,tp,cs,rfl,ha,k,rfl,Y,j,e⟩
 ·rw [D.cls j];exact ZK I B ty e fin
 ·rw [D.cls j];cases (show u=Value.ref a from B);obtain ⟨p,_⟩:=I.hok a _ ha;exact Ydd (XT k) I.kIn p e (λz=>nomatch z) fin
 ·cases (show u=Value.ref a from B);cases (show U=Value.ref tp from D);obtain ⟨p,_⟩:=I.hok a _ ha;obtain ⟨_,its,r,o,Z,co,n,dn⟩:=I.hok tp _ Y;obtain ⟨L,aa,N,ab⟩:=o;cases (show L=.type "tuple" from co);cases (show N=.seq its.toArray n from dn);exact W.kia_tup (its:=its) (XT k) I.kIn p Z (by rw [r.cls j];exact e) (λz=>nomatch z) fin
mutual
inductive DatV (K:FG)(H:Hp):V->PyData->Prop
 | non:DatV K H .non .none
 | bl (b:Bool):DatV K H (.bl b) (.bool b)
 | int (i:Int):DatV K H (.int i) (.int i)
 | str (x:Str):DatV K H (.str x) (.str x)
 | lst {a:AD} {xs:List V} {ds:List PyData}:SqL K H a xs->DatVs K H xs ds->DatV K H (.ref a) (.list ds)
 | tup {a:AD} {xs:List V} {ds:List PyData}:SqT K H a xs->DatVs K H xs ds->DatV K H (.ref a) (.tuple ds)
inductive DatVs (K:FG)(H:Hp):List V->List PyData->Prop
 | nil:DatVs K H [] []
 | cons {x:V} {d:PyData} {xs:List V} {ds:List PyData}:DatV K H x d->DatVs K H xs ds->DatVs K H (x::xs) (d::ds)
end
section
variable {X:Cx}{qQ:List (AD×Obj)}{σ:St}{H:Hp}{s:SS}
mutual
theorem DatV.reads (I:Inv X qQ σ H s):∀{x:V}{d:PyData}{u:Aa},DatV X.K H x d->RelV x u->∃j,Reads s.heap u d j
 | _,_,_,.non,r=>by cases r;exact ⟨_,.none⟩
 | _,_,_,.bl b,r=>by cases r;exact ⟨_,.bool b⟩
 | _,_,_,.int i,r=>by obtain ⟨t,rfl⟩:=r;exact ⟨_,.int i t⟩
 | _,_,_,.str x,r=>by obtain ⟨t,rfl⟩:=r;exact ⟨_,.str x t⟩
 | _,_,_,.lst hq hs,r=>by
  cases r;obtain ⟨its,q,⟨o,n,e,c,L,B⟩,_⟩:=I.list hq;obtain ⟨j,D⟩:=DatVs.reads I hs q;exact ⟨_,.list e c B (by simpa using D)⟩
 | _,_,_,.tup hq hs,r=>by
  cases r;obtain ⟨its,q,⟨o,e,c,n,B⟩,_⟩:=I.tuple hq;obtain ⟨j,D⟩:=DatVs.reads I hs q;exact ⟨_,.tuple e c B (by simpa using D)⟩
theorem DatVs.reads (I:Inv X qQ σ H s):∀{xs:List V}{ds:List PyData}{us:LW},DatVs X.K H xs ds->Vals xs us->∃j,ReadsAll s.heap us ds j
 | _,_,_,.nil,.nil=>⟨_,.nil⟩
 | _,_,_,.cons h hs,.cons r rs=>by
  obtain ⟨j,ra⟩:=DatV.reads I h r;obtain ⟨bs,q⟩:=DatVs.reads I hs rs;exact ⟨_,.cons ra q⟩
end
end
noncomputable def ZgN (K:FG)(j:Bool):R2:=λx y H Q=>∃q B,DatV K H x q/\DatV K H y B/\SeqAt.shaped q=true/\SeqAt.shaped B=true/\Q (.bl (j != PyData.eqv q B)) H
theorem Ze8 (j:X.A.units+64<cLine):OpR X (compareOp .Eq) (ZgN X.K false):=by
 intro qQ s σ H x y v u Q I B D h;obtain ⟨L,N,h1,h2,O,U,q⟩:=h;obtain ⟨as,Y⟩:=h1.reads I B;obtain ⟨bs,Z⟩:=h2.reads I D;exact eq_dataH Y Z O U j ⟨.bl _,H,I,by cases PyData.eqv L N <;> rfl,q⟩
theorem Ze9 (j:X.A.units+64<cLine):OpR X (compareOp .NotEq) (ZgN X.K true):=by
 intro qQ s σ H x y v u Q I B D h;obtain ⟨L,N,h1,h2,O,U,q⟩:=h;obtain ⟨as,Y⟩:=h1.reads I B;obtain ⟨bs,Z⟩:=h2.reads I D;exact ne_dataH Y Z O U j ⟨.bl _,H,I,by cases PyData.eqv L N <;> rfl,q⟩
noncomputable def Lt2 (p:Nat)(a:Int):Prop:=a.natAbs<2 ^ p
noncomputable def Zhr (i j:Int):Prop:=0<j/\Lt2 9000 j
theorem GD :OpR X (binaryOp .FloorDiv) (rI Zhr λi j=>.int (i / j)):=opI λi j _ _ _ _ _ B q=>by
 have h1:(0:Int)<j:=B.1;have h2:j.natAbs<2 ^ 9000:=B.2;refine floordiv_int (by lia) (by rw [Int.fdiv_eq_ediv_of_nonneg i (by lia)];exact q) (.inl (PyProof.noPylong_of_log2 ?_));exact (Nat.log2_lt (by lia)).mpr h2
theorem Same.new (h:H p=none):Same H (upd H p o):=λb u e=>by rw [Gi (Gh e h)];exact e
theorem nwU (h:H p=none):∃H1,upd H p o=H1/\Same H H1/\H1 p=some o:=⟨_,rfl,Same.new h,Gb⟩
theorem Same.put (s:Same H H1)(h:H p=none):Same H (upd H1 p o):=λb u e=>by rw [Gi (Gh e h)];exact s b u e
theorem Gj (h:H b=some u)(n:b≠p):upd H p o b=some u:=by rw [Gi n];exact h
theorem GR (h:H l=some (.lst zs)):∀p ys,H p=some (.tup ys)->upd H l o p=some (.tup ys):=λp ys e=>Gj e (Ja e h (λz=>by cases z))
section
variable {P:PP}{w:Ab}{K:FG}{mg:Str->Option Aa}{base:Heap}
theorem Fun.okR {st:Stmt}(F:Fun K x qual st f fd)(S:Go N ps (Gf st))(len:∀vs H Q E,sp vs H Q E->vs.length=ps.length)(L:∀(j:Aa)(A:Around)(outer:List Env)(s:SS)(H:Hp)(vs:List V)(Q:VK)(E:XK),Room k (A.deeper (envOfC qual (Gf st) s.heap.objs.size f j))->sp vs H Q E ->
   ∃t,PSs (YN (CXr P w) P w K mg base N qual (Gf st) f j A outer s H E) (GP st) t/\t { nx:=λ_ H'=>Q .non H',rt:=Q } (start N vs) H):GG P w K mg base (CXr P w) (k+1) f fd ps sp:=by
 obtain ⟨oc,od,kV,O,pm,an,j,ct,U,rfl,Y,B⟩:=F.ex;refine ZO Y B S len λA outer s H vs Q E Z D=>?_;obtain ⟨t,h,q⟩:=L j A outer s H vs Q E Z D;exact ⟨t,h,q⟩
theorem ZdI :Oo (CXr X.prog X.w) X E0:=λ_ _ _ _ _ _ _ ⟨_,_,_,_,_,h⟩=>h.elim
end
section
variable {X:Cx}
theorem Z1 (j:X.mg x=some (.ref a))(q:Gl X x:=by rfl)(B:(x == ("__debug__" : Str))=false:=by decide):PE X (.Name x pos) (tC (.ref a)):=Xg q j rfl B
theorem UO (j:X.mg x=none)(q:bootBuiltins x=some (.type T))(B:Gl X x:=by rfl)(D:x ≠ "__name__" := by decide)(L:(x == ("__debug__" : Str))=false:=by decide):PE X (.Name x pos) (tC (.ty T)):=Zdo B j q rfl D L
end
theorem Jj:bootBuiltins "isinstance" = some (.builtin "isinstance"):=by first | rfl | decide +kernel
theorem ZdJ:bootBuiltins "ValueError" = some (.type "ValueError"):=by first | rfl | decide +kernel
theorem Jv:bootBuiltins "tuple" = some (.type "tuple"):=by first | rfl | decide +kernel
theorem J3:bootBuiltins "list" = some (.type "list"):=by first | rfl | decide +kernel
theorem Z2:bootBuiltins "bool" = some (.type "bool"):=by first | rfl | decide +kernel
theorem XU:bootBuiltins "int" = some (.type "int"):=by first | rfl | decide +kernel
theorem Oe {K:FG}:W.kitOne K t t=some true:=by
 unfold W.kitOne;rw [if_pos (Yfe t)]
section
variable {X:Cx}(K:FG)
theorem ZbB (h:X.K=K:=by rfl):JG X (.builtin "isinstance") (Zh2 K):=h▸ZbO
theorem Of (h:X.K=K:=by rfl):IxR X (Zhm K):=h▸ZdD
theorem YT (h:X.K=K:=by rfl):IxR X (Zh0 K):=h▸Ze1
theorem Ur (h:X.K=K:=by rfl):JG X (.builtin "len") (λxs H Q=>∃p ys,xs=[.ref p]/\(SqL K H p ys\/SqT K H p ys)/\Q (.int ys.length) H):=h▸WA
theorem VQ (h:X.K=K:=by rfl):JG X (.type "list") (λxs H Q=>∃p ys,xs=[.ref p]/\(SqL K H p ys\/SqT K H p ys)/\∀l,H l=none->Q (.ref l) (upd H l (.lst ys))):=h▸WB
theorem Zfa (j:X.A.units+64<cLine)(h:X.K=K:=by rfl):OpR X (compareOp .Eq) (ZgN K false):=h▸Ze8 j
theorem Zh3 (j:X.A.units+64<cLine)(h:X.K=K:=by rfl):OpR X (compareOp .NotEq) (ZgN K true):=h▸Ze9 j
theorem kSl (h:X.K=K:=by rfl):SlR X (Zhn K):=h▸ZdE
theorem Xc (q:X.calm=true)(h:PGs X es t)(B:X.K=K:=by rfl)(D:(assignEach es X.env).length=n:=by rfl)(j:(assignEach es X.env).findIdx? (·.1)=none:=by rfl):PG X (.Tuple es k pos) (Zg9 K n t):=B▸ZeP q h D j
theorem Om (j:PE X l tl)(h:X.K=K:=by rfl):PI X tg l (ZeS K tl):=h▸Zdr j
end
end L2
namespace L2
open PySem PySem.Spec PyProof.Rows
noncomputable def AllP {α:Type}(P:α->Prop):List α->Prop
 | []=>True
 | x::r=>P x/\AllP P r
theorem AllP.mem {α:Type}{P:α->Prop}:∀{l:List α},AllP P l->∀x∈l,P x
 | _::_,h,_,.head _=>h.1
 | _::_,h,x,.tail _ m=>AllP.mem h.2 x m
theorem Vc (L:List (Str×NameKind))(j:closureFor scope X.env=pure cl)(D:(relabel scope X.env).names=L)(U:∀y∈scope.names,y.2≠.cell)(Y:scope.kind=.function)(Z:∀y∈scope.names,y.2=.local->scope.names.lookup y.1=some .local)(q:AllP (λp=>X.env.cells.lookup p.1=some p.2) cl)(O:AllP (λp=>(p.2=.cell\/p.2=.free)->∃c,cl.lookup p.1=some c) L)(B:AllP (λp=>X.N[p.2]?=some p.1/\(X.env.kindOf p.1=some .cell\/X.env.kindOf p.1=some .free)/\(L.lookup p.1=some .cell\/L.lookup p.1=some .free)) fr):Jn X scope cl own fr:=
 ⟨j,U,Y,Z,λy c h=>q.mem (y,c) (Ydu h),λy h=>by
  rw [D] at h;rcases h with h | h
  ·exact O.mem _ (Ydu h) (.inl rfl)
  ·exact O.mem _ (Ydu h) (.inr rfl),λp hp=>by
  rw [D];exact B.mem p hp⟩
theorem Zhs {k:NameKind}{P:Prop}(h:k=.cell\/k=.free)(h1:(k == .cell)=false:=by rfl)(h2:(k == .free)=false:=by rfl):P:=by
 rcases h with z | z
 ·subst z;exact absurd h1 (by decide)
 ·subst z;exact absurd h2 (by decide)
theorem VR:bootBuiltins "min" = some (.builtin "min"):=by first | rfl | decide +kernel
theorem Gn (q:St->Hp->Prop)(h2:∀ j H',q j H'->u D j H')(h1:(∀ j H',q j H'->u D j H')->t { D with nx:=u D } σ H):Gu t u D σ H:=h1 h2
theorem XV {α:Type}:∀(ps rs:List α)(k:Nat)(y:α),ps[k]?=some y->((rs++[y])++ps.eraseIdx k).Perm (rs++ps)
 | [],_,k,y,h=>by simp at h
 | x::r,rs,0,y,h=>by
  simp at h;subst h;rw [Ybw];exact List.Perm.refl _
 | x::r,rs,k+1,y,h=>by
  have ih:=XV r [] k y (by simpa using h);rw [List.eraseIdx_cons_succ,Ybw];refine Yfr rs ?_;have j:(y::r.eraseIdx k).Perm r:=by simpa using ih
  exact (List.Perm.swap x y _).trans (j.cons x)
section
variable {X:Cx}
theorem Z3:UnR X (unaryOp .USub) (rU λi=>.int (-i)):=by
 intro qQ s σ H x v Q I j h;obtain ⟨i,rfl,q⟩:=h;obtain ⟨t,rfl⟩:=j;exact neg_int ⟨.int (-i),H,I.tok _,⟨_,rfl⟩,q⟩
theorem GV {K:FG}{H:Hp}:∀ns:LI,DatVs K H (ns.map V.int) (ns.map PyData.int)
 | []=>.nil
 | n::ns=>.cons (.int n) (GV ns)
theorem OH:∀ns:LI,PyData.canLayAll0 (ns.map PyData.int)=true
 | []=>by simp [PyData.canLayAll0]
 | n::ns=>by
  rw [Yap];simp [PyData.canLayAll0,PyData.canLay0,OH ns]
theorem Jw:∀ns:LI,PyData.depthAll (ns.map PyData.int)<=1
 | []=>by simp [PyData.depthAll]
 | n::ns=>by
  have ih:=Jw ns;rw [Yap];simp only [PyData.depthAll,PyData.depth]
  lia
theorem JY (ns:LI):SeqAt.shaped (.list (ns.map PyData.int))=true:=by
 unfold SeqAt.shaped;rw [Ycl];have:=Jw ns;refine ⟨by simp only [PyData.canLay0];exact OH ns,Yau ?_⟩;simp only [PyData.depth]
 lia
theorem OI (ns ms:LI):PyData.eqv (.list (ns.map PyData.int)) (.list (ms.map PyData.int))=decide (ns=ms):=by
 rw [<-W.ked_eqvAll];simp only [PyData.eqv]
theorem ZdK {K:FG} :
  Oo (CXr P w) (YN (CXr P w) P w K mg base N qual scope f U A outer s H E) E:=by
 intro qQ σ H1 s1 ev s' I h;obtain ⟨a,C,H',rfl,⟨t,B,os,Y,un,Z,fl,trk,old⟩,hE⟩:=h;have ac:=I.ok.frames;have nox:∀b:AD,b ∉ (YN (CXr P w) P w K mg base N qual scope f U A outer s H E).ex:=λb z=>absurd (show b∈([]:List AD) from z) (by simp);refine wpAny_leaves_onW ac rfl fl λh2 D sm=>?_;obtain ⟨u2,k2⟩:=XR (t:=t) (a:=a) (C:=C) un Z fl.2.2.1 trk old D.1 sm;have u1:Un (frs (envOfC qual scope s.heap.objs.size f U::outer)) [] H H1 s.heap s1.heap:=Un.mono I.base (λb j=>by
  have ad:b∈frs outer:=j;obtain ⟨L,he,q⟩:=Ydk.mp ad;exact Ydk.mpr ⟨L,Ybf _ he,q⟩) (λb j=>absurd j (nox b))
 have O:=u1.trans u2;have aa:∀b o,s.heap.get? b=some o->b ∉ frs outer->b ∉ frs (envOfC qual scope s.heap.objs.size f U::outer):=λb o e j z=>by
  rcases Yav.mp (I.stkSub b z) with q | q
  ·exact absurd (Ybm (Yag e) I.ok.above) (by rw [q];exact Ych _)
  ·exact j q
 have ab:∀b,b∈frs outer->b∈frs (envOfC qual scope s.heap.objs.size f U::outer):=λb j=>by
  obtain ⟨L,he,q⟩:=Ydk.mp j;exact Ydk.mpr ⟨L,Ybf _ he,q⟩
 refine ⟨a,C,H',rfl,⟨t,B,os.trans I.os,Y,⟨λb o e n j hx=>O.keep b o e n (aa b o e j) hx,λb o e n j hx=>O.slot b o e n (ab b j) hx,O.free,O.there,O.tups,O.frzs,O.tbls⟩,k2,D,λb o e n=>?_,λb o0 o e0 e nb=>?_⟩,hE⟩
 ·cases q':H' b with
  | none=>exact absurd q' n
  | some u=>
   obtain ⟨v,q⟩:=(Z b u q').there;have e1:=trk b v q n;have e2:=D.1 b v e1;have e':h2.get? b=some o:=e;rw [e'] at e2;cases e2;exact e1
 ·obtain ⟨o1,e1⟩:=u1.there b o0 e0 (by simp);obtain ⟨o2,e2⟩:=un.there b o1 e1 (by simp);have e3:=old b o1 o2 e1 e2 (aa b o0 e0 nb);have e4:=D.1 b o2 e3;have e':h2.get? b=some o:=e;rw [e'] at e4;cases e4;exact e3
noncomputable def Zh4 (K:FG)(j:Bool):R2:=λx y H Q=>∃p xs d ds,y=.ref p/\(SqL K H p xs\/SqT K H p xs)/\DatV K H x d/\DatVs K H xs ds/\SeqAt.shaped d=true/\(∀e∈ds,SeqAt.shaped e=true)/\Q (.bl (j != ds.any λe=>PyData.eqv e d)) H
open Classical in
noncomputable def O6 (h:Heap)(u:Aa):PyData:=if q:∃d j,Reads h u d j/\SeqAt.shaped d=true then choose q else .none
theorem ZbP (r:Reads h u d j)(B:SeqAt.shaped d=true):O6 h u=d:=by
 have q:∃d j,Reads h u d j/\SeqAt.shaped d=true:=⟨d,j,r,B⟩;unfold O6;rw [dif_pos q];obtain ⟨D,r',s'⟩:=Classical.choose_spec q;exact SeqAt.Reads.unique _ _ _ _ _ (SeqAt.canLay_of_shaped s') r' r
theorem ZcW {h:Heap}:∀{us:LW}{ds:List PyData}{as:List AD},ReadsAll h us ds as->(∀e∈ds,SeqAt.shaped e=true)->(∀u∈us,∃q,Reads h u (O6 h u) q/\SeqAt.shaped (O6 h u)=true)/\us.map (O6 h)=ds
 | _,_,_,.nil,_=>⟨λu j=>by simp at j,rfl⟩
 | _,_,_,.cons r rs,hs=>by
  obtain ⟨i1,i2⟩:=ZcW rs λe D=>hs e (Ybf _ D);have h0:=hs _ (Ybj ..);have B:=ZbP r h0;refine ⟨λu j=>?_,by rw [Yap,B,i2]⟩;rcases Yav.mp j with rfl | j
  ·rw [B];exact ⟨_,r,h0⟩
  ·exact i1 u j
theorem ZbQ {us:LW}(e:us.map (O6 h)=ds):us.any (λu=>PyData.eqv (O6 h u) d)=ds.any λe=>PyData.eqv e d:=by
 rw [<-e,List.any_map]
 rfl
theorem Zfb (hc:(B=false/\c=.In)\/(B=true/\c=.NotIn))(hu:X.A.units+65<cLine):OpR X (compareOp c) (Zh4 X.K B):=by
 intro qQ s σ H x y v u Q I rx ry h;obtain ⟨p,xs,d,ds,rfl,N,hd,U,sd,Y,q⟩:=h;cases ry;obtain ⟨as,ra⟩:=hd.reads I rx;have Z:X.A.in1.units+64<cLine:=by rw [Ydm];lia
 have key:∀its:LW,Vals xs its->(∀w∈its,SeqAt.EqAt X.A.in1 s w v (PyData.eqv (O6 s.heap w) d))/\its.toArray.any (λw=>PyData.eqv (O6 s.heap w) d)=ds.any λe=>PyData.eqv e d:=λits r=>by
  obtain ⟨bs,rb⟩:=U.reads I r;obtain ⟨D,L⟩:=ZcW rb Y;refine ⟨λw j=>?_,?_⟩
  ·obtain ⟨aa,r',s'⟩:=D w j;exact W.keq_at r' ra s' sd Z
  ·rw [List.any_toArray];exact ZbQ L
 rcases N with N | N
 ·obtain ⟨its,r,O,hz⟩:=I.list N;obtain ⟨D,L⟩:=key its r;rcases hc with ⟨rfl,rfl⟩ | ⟨rfl,rfl⟩
  ·refine SeqAt.in_listAt (λw=>PyData.eqv (O6 s.heap w) d) O.isList (λw j=>D w (by simpa using j)) ⟨.bl _,H,I,rfl,?_⟩;rw [L];simpa using q
  ·refine SeqAt.notIn_listAt (λw=>PyData.eqv (O6 s.heap w) d) O.isList (λw j=>D w (by simpa using j)) ⟨.bl _,H,I,rfl,?_⟩;rw [L];simpa using q
 ·obtain ⟨its,r,O,hz⟩:=I.tuple N;obtain ⟨D,L⟩:=key its r;rcases hc with ⟨rfl,rfl⟩ | ⟨rfl,rfl⟩
  ·refine SeqAt.in_tupleAt (λw=>PyData.eqv (O6 s.heap w) d) O (λw j=>D w (by simpa using j)) ⟨.bl _,H,I,rfl,?_⟩;rw [L];simpa using q
  ·refine SeqAt.notIn_tupleAt (λw=>PyData.eqv (O6 s.heap w) d) O (λw j=>D w (by simpa using j)) ⟨.bl _,H,I,rfl,?_⟩;rw [L];simpa using q
theorem ZdL (K:FG)(j:X.A.units+65<cLine)(h:X.K=K:=by rfl):OpR X (compareOp .NotIn) (Zh4 K true):=h▸Zfb (.inr ⟨rfl,rfl⟩) j
end
section
variable {X:Cx}
theorem Vals.drop' (h:Vals xs us):∀k:Nat,Vals (xs.drop k) (us.drop k):=by
 induction h with
 | nil=>intro k;rw [List.drop_nil,List.drop_nil];exact .nil
 | cons r t ih=>
  intro k;cases k with
  | zero=>exact .cons r t
  | succ k=>rw [List.drop_succ_cons,List.drop_succ_cons];exact ih k
noncomputable def Ite (K:FG)(a:AD):It:=
 ⟨λi H=>∃xs x,SqL K H a xs/\xs[i]?=some x,λi H x H'=>∃T y,x=.ref T/\H T=none/\H'=upd H T (.tup [.int (i:Nat),y])/\∀xs,SqL K H a xs->xs[i]?=some y,λi H=>∃xs,SqL K H a xs/\xs.length<=i⟩
theorem Z4 {P:PP}{w:Ab}{K:FG}{elts:List Expr}{k:Nat}{pos:Pos}(a e it:AD)(hne:e≠it) :
  ZcP P w K (.Tuple elts k pos) (Ite K a) [e,it] e (λi h=>(∃old,IsEnum h e it ((i:Nat):Int) old)/\h.IsListIter it a i) where
 mem:=by simp
 obj:=λi h st b hb=>by
  obtain ⟨⟨old,he⟩,⟨o,ei,c,d⟩⟩:=st;rcases Yav.mp hb with rfl | hb
  ·exact ⟨_,he,λv z=>by
    have z':Data.fields _=Data.cell v:=z;cases z'⟩
  ·have eb:b=it:=by simpa using hb
   subst eb;exact ⟨o,ei,λv z=>by rw [d] at z;cases z⟩
 keep:=λi h h' st q=>by
  obtain ⟨⟨old,he⟩,hi⟩:=st;exact ⟨⟨old,q e (by simp) _ he⟩,hi.at λo ho=>q it (by simp) o ho⟩
 item:=by
  intro X hP hw hK hc i qQ s σ H E I hf st hg;subst hP hw hK;obtain ⟨xs,x,hq,hx⟩:=hg;obtain ⟨its,rv,p,hz⟩:=I.list hq;obtain ⟨u,hu,ru⟩:=rv.get hx;obtain ⟨⟨old,he⟩,hit⟩:=st;refine wpAny_pyNext_enum_item he hit p.isList (x:=u) (by simpa using hu) hne λh1 heo hit1 ht1 hz1 hk1=>?_;refine ⟨_,rfl,wpAny_letOwnedTupleGo_enum (s:={ s with heap:=h1,toks:=s.toks+1 }) heo λh2 he2 hs2=>?_⟩;have hs2':Heap.SameBut e h1 h2:=hs2;have hfr:H s.heap.objs.size=none:=I.fresh;have hel:e<s.heap.objs.size:=Yag he;have kk:∀b o,b ∉ [e,it]->s.heap.get? b=some o->h2.get? b=some o:=λb o hb q=>by
   have n1:b≠e:=λz=>hb (by simp [z]);have n2:b≠it:=λz=>hb (by simp [z]);exact (hs2'.2 b n1).trans (hk1 b o n1 n2 q)
  have nT:∀b o,s.heap.get? b=some o->b≠s.heap.objs.size:=λb o q=>Yar (Yag q);have trk:∀c u,H c=some u->c ∉ [e,it]:=λc u q z=>by
   rw [(hf c z).1] at q;cases q
  refine ⟨.ref s.heap.objs.size,upd H s.heap.objs.size (.tup [.int (i:Nat),x]),I.call' (ch:=[e,it]) rfl ⟨λb o q _ _ hb=>kk b o hb q,λb o q _ _ hb=>⟨o.slots,kk b o hb q⟩,λb o q n _=>by rw [Gi (nT b o q)];exact n,
   λb o q hb=>⟨o,kk b o hb q⟩,λb ys q=>by rw [Gi (Gh q hfr)];exact q,λb o u q=>by rw [Gi (Gh q hfr)];exact q,λb ps q=>⟨#[],by rw [Gi (Gh q hfr),q];simp⟩⟩ (λb v q=>?_) I.bare (λb hb=>?_),
   rfl,⟨_,x,rfl,hfr,rfl,λys hy=>by rw [I.list_inj hy hq];exact hx⟩,⟨⟨_,by rw [Int.natCast_add];exact he2⟩,hit1.extBut hs2'.extBut (Ne.symm hne)⟩,λb hb=>?_⟩
  ·by_cases hb:b=s.heap.objs.size
   ·subst hb;rw [Gb] at q;cases q;refine ⟨by have h16:=Ybd.symm;rw [<-h16];show 2<=16777216;lia,[.int (i:Nat) s.toks,u],.cons ⟨_,rfl⟩ (.cons ru .nil),⟨_,(hs2'.2 _ (Ydj hel)).trans ht1,rfl,_,rfl⟩⟩
   ·rw [Gi hb] at q;refine (I.hok b v q).stay (λc v' hc z=>kk c v' ?_ z) (λc z=>by rw [Gi (Gh z hfr)];exact z) λc ys z=>by rw [Gi (Gh z hfr)];exact z
    rcases hc with rfl | hc
    ·exact trk _ _ q
    ·exact trk _ _ hc
  ·obtain ⟨f0,f1,f2,f3,f4,f5⟩:=hf b hb;exact ⟨f3,f1,f4,f5⟩
  ·have ho:∃o,s.heap.get? b=some o:=by
    rcases Yav.mp hb with rfl | hb
    ·exact ⟨_,he⟩
    ·have eb:b=it:=by simpa using hb
     subst eb;obtain ⟨o,ei,_⟩:=hit;exact ⟨o,ei⟩
   obtain ⟨o,ho⟩:=ho;rw [Gi (nT b o ho)];exact (hf b hb).1
 done:=by
  intro X hP hw hK hc i qQ s σ H E I hf st hg;subst hP hw hK;obtain ⟨xs,hq,hx⟩:=hg;obtain ⟨its,rv,p,hz⟩:=I.list hq;obtain ⟨⟨old,he⟩,hit⟩:=st;obtain ⟨f0,f1,f2,f3,f4,f5⟩:=hf it (by simp);have hl:=rv.length;exact wpAny_pyNext_enum_end (I.ok.hd hc) he hit p.isList (by simp;lia) λh' eb=>⟨rfl,I.turned (t':=s.toks) (λb o hb q=>eb b o hb q) f0 f1 f3 f4 f5⟩
 self:=λ_ _ _ _ _ ⟨⟨_,he⟩,_⟩ h=>wpAny_pyIter_enum he h
noncomputable def Zfc (K:FG)(ta:TA):TI:=λσ H R=>ta σ H λvs H1=>∃a xs,vs=[.ref a]/\SqL K H1 a xs/\R (Ite K a) H1
theorem ZdM (U:Gl X "enumerate")(Y:X.mg "enumerate" = none)(ha:PA X [l] ta)(Z:starEach [l] X.env=[(false,eval l X.env)]:=by rfl) :
  PI X (.Tuple B k O) (.Call (.Name "enumerate" p) [l] [] pos) (Zfc X.K ta):=by
 intro qQ s σ H R I h;refine Call_ (OB I U Y boot_enumerate (Yfq (thG (ha pos qQ s σ H _ I h) λus j vs H1 D r1 q1=>?_) Z rfl));obtain ⟨a,xs,e,hq,q⟩:=q1;subst e;obtain ⟨u,rfl,ru⟩:=r1.one;cases ru;obtain ⟨its,rv,pl,hz⟩:=D.list hq;refine call_enumerate_list pl.isList λh' N hI aa hk=>?_;refine wpAny_pyIter_enum N ?_;refine ⟨j.heap.objs.size+1,[j.heap.objs.size+1,j.heap.objs.size],_,_,H1,rfl,D.kept (t':=j.toks) hk,Z4 a _ _ (Nat.succ_ne_self _),⟨⟨_,N⟩,hI⟩,λb L=>?_,q⟩;have e:j.heap.objs.size<=b:=by
  rcases Yav.mp L with rfl | L
  ·exact Yde _
  ·have eb:b=j.heap.objs.size:=by simpa using L
   rw [eb];exact Yae _
 exact D.fpOk e (D.hok.fresh e)
theorem Zht (K:FG)(B:Gl X "enumerate")(D:X.mg "enumerate" = none)(ha:PA X [l] ta)(h:X.K=K:=by rfl)(L:starEach [l] X.env=[(false,eval l X.env)]:=by rfl) :
  PI X (.Tuple j k q) (.Call (.Name "enumerate" p) [l] [] pos) (Zfc K ta):=h▸ZdM B D ha L
end
section
variable {X:Cx}{a b c d:Expr}{ta tb tc td:TE}{pos:Pos}
theorem ZbR:bootBuiltins "all" = some (.builtin "all"):=by first | rfl | decide +kernel
theorem ZbS:bootBuiltins "set" = some (.type "set"):=by first | rfl | decide +kernel
theorem WF:∀{bs:List Bool}{us:LW},Vals (bs.map V.bl) us->us=bs.map Value.bool
 | [],_,.nil=>rfl
 | b::bs,_,.cons r t=>by rw [Yap,<-WF t];cases r;rfl
theorem Z5 (bs:List Bool):(List.range bs.length).all (λi=>bs.getD i false)=bs.all id:=by
 induction bs with
 | nil=>rfl
 | cons b bs ih=>
  rw [Ybo,List.range_succ_eq_map,List.all_cons,List.all_map,List.all_cons];show (b && _)=(b && _)
  congr 1
theorem Zio (K:FG)(O:X.calm=true)(h:X.K=K:=by rfl):JG X (.builtin "all") (λxs H Q=>∃(p:AD)(bs:List Bool),xs=[.ref p]/\SqL K H p (bs.map V.bl)/\Q (.bl (bs.all id)) H):=by
 subst h;intro qQ s σ H xs us Q I U h;obtain ⟨p,bs,rfl,Y,q⟩:=h;obtain ⟨u,rfl,Z⟩:=U.one;cases Z;obtain ⟨its,r,B,hz⟩:=I.list Y;have e:=WF r;have hh:X.A.in1.handled=none:=I.ok.hd O;obtain ⟨o,eo,_⟩:=id B.isList;have D:p<s.heap.objs.size:=Yag eo;refine call_all_walk (wpAny_pyIter_list B.isList ?_);refine ⟨s.heap.objs.size,_,_,_,_,_,λi=>bs.getD i false,rfl,Walks.list hh s.heap.objs.size p (Yar D) its.toArray,⟨⟨_,Ybb _ rfl,rfl,rfl⟩,B.isList.at λo e=>Yah _ e⟩,?_,λh' tk hk=>?_⟩
 ·intro i v s' Q' E' hv L;have j:its[i]?=some v:=by simpa using hv
  rw [e,Yay] at j;cases z:bs[i]? with
  | none=>rw [z] at j;cases j
  | some b=>
   rw [z] at j;cases j;have eb:bs.getD i false=b:=by rw [Yca,z];rfl
   exact Yds (by rw [<-eb];exact L)
 ·have hl:its.toArray.size=bs.length:=by rw [Yas,e,Yac]
  have I1:Inv X qQ σ H { s with heap:=s.heap.push { cls:=.type "list_iterator", data:=.fields #[.ref p,.int 0 0] } }:=I.kept (t':=s.toks) λb o e=>Yah _ e;refine ⟨.bl _,H,I.kept λb o N=>hk b o ?_ (Yah _ N),?_,q⟩
  ·intro z;have:b=s.heap.objs.size:=by simpa using z
   exact absurd (Yag N) (by rw [this];exact Ych _)
  ·show Value.bool _=Value.bool _;rw [hl,Z5]
end
section
variable {κ:Type}[DecidableEq κ]
noncomputable def JF (kvs:List (κ×V))(k:κ):Option V:=(kvs.find? λj=>decide (j.1=k)).map (·.2)
noncomputable def JH (kvs:List (κ×V))(k:κ)(v:V):List (κ×V):=
 if (kvs.any λj=>decide (j.1=k))=true then kvs.map (λj=>if j.1=k then (j.1,v) else j) else kvs++[(k,v)]
theorem Je {k:κ}(e:p.1=k):JF (p::r) k=some p.2:=by simp [JF,Ydn,e]
theorem Jf {k:κ}(e:¬ p.1=k):JF (p::r) k=JF r k:=by simp [JF,Ydn,e]
theorem Uw (k:κ):∀kvs:List (κ×V),(kvs.any λkv=>decide (kv.1=k))=(JF kvs k).isSome
 | []=>rfl
 | p::r=>by
  rw [List.any_cons];by_cases e:p.1=k
  ·simp only [Je e,Yau e,Bool.true_or,Option.isSome_some]
  ·rw [Jf e,Ybl e,Bool.false_or];exact Uw k r
theorem XW (k j:κ)(y:V):∀kvs:List (κ×V),JF (kvs.map λq=>if q.1=k then (q.1,y) else q) j=(JF kvs j).map λx=>if j=k then y else x
 | []=>rfl
 | p::r=>by
  have ih:=XW k j y r;rw [Yap];by_cases h:p.1=k
  ·rw [if_pos h];by_cases e:p.1=j
   ·rw [Je (p:=(p.1,y)) e,Je e,Option.map_some,if_pos (e.symm.trans h)]
   ·rw [Jf (p:=(p.1,y)) e,Jf e,ih]
  ·rw [if_neg h];by_cases e:p.1=j
   ·rw [Je (p:=p) e,Je e,Option.map_some,if_neg (λz=>h (e.trans z))]
   ·rw [Jf (p:=p) e,Jf e,ih]
theorem WG (k j:κ)(y:V):∀kvs:List (κ×V),JF kvs k=none->JF (kvs++[(k,y)]) j=if j=k then some y else JF kvs j
 | [],_=>by
  by_cases e:k=j
  ·rw [if_pos e.symm];exact Je (p:=(k,y)) e
  ·rw [if_neg (λz=>e z.symm)];exact Jf (p:=(k,y)) e
 | p::r,hn=>by
  rw [List.cons_append];have hk:¬ p.1=k:=λz=>by rw [Je z] at hn;cases hn
  rw [Jf hk] at hn;have q:=WG k j y r hn;by_cases e:p.1=j
  ·rw [Je e,Je e,if_neg (λz=>hk (e.trans z))]
  ·rw [Jf e,Jf e,q]
theorem GZ (kvs:List (κ×V))(k j:κ)(y:V):JF (JH kvs k y) j=if j=k then some y else JF kvs j:=by
 unfold JH;by_cases a:(kvs.any λB=>decide (B.1=k))=true
 ·rw [if_pos a,XW];rw [Uw] at a;by_cases e:j=k
  ·obtain ⟨x,D⟩:=Yeh.mp a;rw [if_pos e,e,D,Option.map_some,if_pos rfl]
  ·rw [if_neg e];cases JF kvs j with
   | none=>rfl
   | some x=>rw [Option.map_some,if_neg e]
 ·rw [if_neg a];refine WG k j y kvs ?_;rw [Uw] at a;cases q:JF kvs k with
  | none=>rfl
  | some x=>rw [q] at a;exact (a rfl).elim
theorem GM (kvs:List (κ×V))(k:κ)(v:V):(JH kvs k v).length<=kvs.length+1:=by
 unfold JH;split
 ·rw [Yac];lia
 ·rw [Yam,Ybo,List.length_nil];lia
theorem RelO.isSome_eq (r:RelO o u):o.isSome=u.isSome:=by
 cases o with
 | none=>cases u with
  | none=>rfl
  | some _=>exact (show False from r).elim
 | some _=>cases u with
  | none=>exact (show False from r).elim
  | some _=>rfl
theorem KV.val (r:KV kvs vs)(k:κ):RelO (JF kvs k) (valueAt vs k):=by
 unfold KV at r
 induction r with
 | nil=>exact True.intro
 | @cons p q ps qs h t B=>
  obtain ⟨h1,h2⟩:=h;by_cases e:p.1=k
  ·have j:q.1=k:=h1.symm.trans e;have b:valueAt (q::qs) k=some q.2:=by simp [valueAt,Ydn,j]
   rw [Je e,b];exact h2
  ·have j:¬ q.1=k:=λz=>e (h1.trans z);have b:valueAt (q::qs) k=valueAt qs k:=by simp [valueAt,Ydn,j]
   rw [Jf e,b];exact B
theorem KV.any (r:KV kvs vs)(k:κ):(kvs.any λj=>decide (j.1=k))=vs.any λj=>decide (j.1=k):=by
 unfold KV at r
 induction r with
 | nil=>rfl
 | cons h t ih=>rw [List.any_cons,List.any_cons,ih,h.1]
theorem KV.repl (r:KV kvs vs)(k:κ)(B:RelV y u) :
  KV (kvs.map λj=>if j.1=k then (j.1,y) else j) (vs.map λj=>if j.1=k then (j.1,u) else j):=by
 unfold KV at r ⊢
 induction r with
 | nil=>exact .nil
 | @cons p q ps qs h t ih=>
  rw [Yap,Yap];refine .cons ?_ ih;obtain ⟨h1,h2⟩:=h;by_cases e:p.1=k
  ·rw [if_pos e,if_pos (h1.symm.trans e)];exact ⟨h1,B⟩
  ·rw [if_neg e,if_neg (λz=>e (h1.trans z))];exact ⟨h1,h2⟩
theorem KV.put (r:KV kvs vs)(k:κ)(j:RelV y u):KV (JH kvs k y) (stored vs k u):=by
 unfold JH stored;rw [r.any k];by_cases e:(vs.any λq=>decide (q.1=k))=true
 ·rw [if_pos e,if_pos e];exact r.repl k j
 ·rw [if_neg e,if_neg e];exact Paired.snoc r ⟨rfl,j⟩
theorem KV.length {kvs:List (κ×V)}{vs:List (κ×Aa)}(r:KV kvs vs):kvs.length=vs.length:=Ycv r
end
theorem Z6 (r:RelV (kV k) u):(G7 P w).is k u=true:=by
 cases k with
 | inl i=>obtain ⟨t,e⟩:=(show ∃t,u=Value.int i t from r);subst e;exact Xe P w i t
 | inr x=>obtain ⟨t,e⟩:=(show ∃t,u=Value.str x t from r);subst e;exact Xf P w x t
theorem WH {P:PP}{w:Ab}:∀{ks:List Key}{us:LW},Vals (ks.map kV) us->ItemsAre (G7 P w) ks us
 | [],_,r=>by rw [List.map_nil] at r;cases r;exact .nil
 | k::ks,_,r=>by
  rw [Yap] at r;cases r with
  | cons h t=>exact .cons (Z6 h) (WH t)
noncomputable abbrev KT (H:Hp):List (List Key×V)->List (List Key×AD×Aa)->Prop:=Paired λp q=>p.1=q.1/\H q.2.1=some (.tup (p.1.map kV))/\RelV p.2 q.2.2
theorem KT.val (r:KT H kvs xs)(k:List Key):RelO (JF kvs k) ((atKey xs k).map (·.2)):=by
 induction r with
 | nil=>exact True.intro
 | @cons p q ps qs h t B=>
  obtain ⟨h1,_,h2⟩:=h;by_cases e:p.1=k
  ·have j:q.1=k:=h1.symm.trans e;have b:atKey (q::qs) k=some q.2:=by simp [atKey,Ydn,j]
   rw [Je e,b];exact h2
  ·have j:¬ q.1=k:=λz=>e (h1.trans z);have b:atKey (q::qs) k=atKey qs k:=by simp [atKey,Ydn,j]
   rw [Jf e,b];exact B
theorem KT.repl (r:KT H kvs xs)(k:List Key)(B:RelV y u) :
  KT H (kvs.map λj=>if j.1=k then (j.1,y) else j) (xs.map (putAt k u)):=by
 induction r with
 | nil=>exact .nil
 | @cons p q ps qs h t ih=>
  rw [Yap,Yap];refine .cons ?_ ih;obtain ⟨h1,h2,D⟩:=h;unfold putAt;by_cases e:p.1=k
  ·rw [if_pos e,if_pos (h1.symm.trans e)];exact ⟨h1,h2,B⟩
  ·rw [if_neg e,if_neg (λz=>e (h1.trans z))];exact ⟨h1,h2,D⟩
theorem KT.put (r:KT H kvs xs)(k:List Key)(B:H b=some (.tup (k.map kV)))(j:RelV y u) :
  KT H (JH kvs k y) (storedH xs k b u):=by
 have e:(kvs.any λD=>decide (D.1=k))=(atKey xs k).isSome:=by
  rw [Uw,(r.val k).isSome_eq,Option.isSome_map]
 unfold JH storedH;rw [e];by_cases q:(atKey xs k).isSome=true
 ·rw [if_pos q,if_pos q];exact r.repl k j
 ·rw [if_neg q,if_neg q];exact Paired.snoc r ⟨rfl,B,j⟩
theorem KT.keeps (r:KT H kvs xs)(j:∀b ys,H b=some (.tup ys)->H' b=some (.tup ys)):KT H' kvs xs:=
 Paired.mapP r λ_ _ z=>⟨z.1,j _ _ z.2.1,z.2.2⟩
section
variable {P:PP}{w:Ab}{H:Hp}{h:Heap}{a:AD}
theorem Zfd (ok:HOk P w H h)(e:Rd H a u):ObjOk P w H h a u:=e.ok ok
theorem ZbT (ok:HOk P w H h)(e:Rd H a (.dK kvs)):kvs.length<=sizeLine/\(a == sysModules)=false/\∃vs,KV kvs vs/\h.DictOf (G7 P w) a vs:=
 show ObjOk P w H h a (.dK kvs) from Zfd ok e
theorem Zfe (ok:HOk P w H h)(e:H a=some (.dK kvs)):kvs.length<=sizeLine/\(a == sysModules)=false/\∃vs,KV kvs vs/\h.DictOf (G7 P w) a vs:=ZbT ok (.inl e)
theorem XX (ok:HOk P w H h)(e:H a=some (.tup (ks.map kV))):(tupleKind (G7 P w)).is h ks a:=by
 obtain ⟨_,its,r,o,h1,h2,n,j⟩:=(show ObjOk P w H h a (.tup (ks.map kV)) from ok a _ e);exact ⟨o,its.toArray,n,h1,h2,j,by simpa using WH r⟩
theorem ZbU (ok:HOk P w H h)(e:Rd H a (.dT kvs)):kvs.length<=sizeLine/\(a == sysModules)=false /\
  ∃xs,KT H kvs xs/\h.DictOfH (tupleKind (G7 P w)) a xs:=by
 obtain ⟨z,y,xs,r,o,es,ep,h1,h2,B,D,L⟩:=(show ObjOk P w H h a (.dT kvs) from Zfd ok e);refine ⟨z,y,xs,r,o,es,ep,h1,h2,B,D,λx j=>?_,L⟩;have all:∀{l:List (List Key×V)}{m:List (List Key×AD×Aa)},KT H l m->∀x∈m,(tupleKind (G7 P w)).is h x.1 x.2.1:=by
  intro l m q
  induction q with
  | nil=>intro x j;exact nomatch j
  | @cons p q ps qs hq t ih=>
   intro x j;rcases Yav.mp j with e | j
   ·subst e;exact XX ok (by rw [<-hq.1];exact hq.2.1)
   ·exact ih x j
 exact all r x j
theorem Zhu (ok:HOk P w H h)(e:H a=some (.dT kvs)):kvs.length<=sizeLine/\(a == sysModules)=false /\
  ∃xs,KT H kvs xs/\h.DictOfH (tupleKind (G7 P w)) a xs:=ZbU ok (.inl e)
end
noncomputable def DGet (H:Hp)(a:AD)(y:V)(r:Option V):Prop:=
 (∃kvs k,Rd H a (.dK kvs)/\y=kV k/\r=JF kvs k)\/∃kvs k b,Rd H a (.dT kvs)/\y=.ref b/\H b=some (.tup (k.map kV))/\r=JF kvs k
noncomputable def DPut (H:Hp)(a:AD)(y v:V)(H':Hp):Prop:=
 (∃kvs k,H a=some (.dK kvs)/\y=kV k/\kvs.length<sizeLine/\H'=upd H a (.dK (JH kvs k v))) \/
 ∃kvs k b,H a=some (.dT kvs)/\y=.ref b/\H b=some (.tup (k.map kV))/\kvs.length<sizeLine/\H'=upd H a (.dT (JH kvs k v))
theorem DGet.k {k:Key}(e:H a=some (.dK kvs)):DGet H a (kV k) (JF kvs k):=.inl ⟨kvs,k,.inl e,rfl,rfl⟩
theorem DGet.t {k:List Key}(e:H a=some (.dT kvs))(j:H b=some (.tup (k.map kV))):DGet H a (.ref b) (JF kvs k):=.inr ⟨kvs,k,b,.inl e,rfl,j,rfl⟩
theorem DPut.k {k:Key}(e:H a=some (.dK kvs))(j:kvs.length<sizeLine):DPut H a (kV k) v (upd H a (.dK (JH kvs k v))):=.inl ⟨kvs,k,e,rfl,j,rfl⟩
theorem DPut.t {k:List Key}(e:H a=some (.dT kvs))(j:H b=some (.tup (k.map kV)))(q:kvs.length<sizeLine) :
  DPut H a (.ref b) v (upd H a (.dT (JH kvs k v))):=.inr ⟨kvs,k,b,e,rfl,j,q,rfl⟩
section
variable {X:Cx}{qQ:List (AD×Obj)}{σ:St}{H:Hp}{s:SS}{a:AD}{y v:V}{u r:Aa}{o:Option V}{A:Around}{E:Aa->SS->Prop}
theorem Inv.big (I:Inv X qQ σ H s):sysModules<s.heap.objs.size:=by
 have h:mainGlobals<s.heap.objs.size:=(I.mod.glob.keeps I.bk).lt;exact Nat.lt_trans (by decide) h
theorem Z7 (Y:A.units+1<cLine)(I:Inv X qQ σ H s)(g:DGet H a y (some v))(U:RelV y u)(h:∀B s',Inv X qQ σ H s'->RelV v B->Q B s') :
  wpAny (model X.prog X.w) A (getItem (.ref a) u) Q E s:=by
 rcases g with ⟨kvs,k,e,D,l⟩ | ⟨kvs,k,b,e,D,Z,l⟩
 ·subst D;obtain ⟨z,hd,vs,j,L⟩:=ZbT I.hok e;obtain ⟨B,N,q⟩:=RelO.some_of (v:=v) (o:=valueAt vs k) (by rw [l];exact j.val k);exact wpAny_getItem_of (Z6 U) L.mapOf N (h B _ (I.tok _) q)
 ·subst D;cases (show u=Value.ref b from U);obtain ⟨z,hd,xs,j,L⟩:=ZbU I.hok e;obtain ⟨B,N,q⟩:=RelO.some_of (v:=v) (o:=(atKey xs k).map (·.2)) (by rw [l];exact j.val k);obtain ⟨p,hp,O⟩:=Ybt.mp N;refine wpAny_getItem_heap (tupleKind_room_in1 Y) (XX I.hok Z) L hp ?_;rw [O];exact h B _ (I.tok _) q
theorem ZdN (O:A.units+1<cLine)(I:Inv X qQ σ H s)(g:DGet H a y o)(N:RelV y u)(h:∀s',Inv X qQ σ H s'->Q (.bool (!o.isSome)) s') :
  wpAny (model X.prog X.w) A (compareOp .NotIn u (.ref a)) Q E s:=by
 rcases g with ⟨kvs,k,e,B,l⟩ | ⟨kvs,k,b,e,B,U,l⟩
 ·subst B;obtain ⟨z,D,vs,j,L⟩:=ZbT I.hok e;refine wpAny_notIn_of (Z6 N) D L.mapOf ?_;rw [<-(j.val k).isSome_eq,<-l];exact h _ (I.tok _)
 ·subst B;cases (show u=Value.ref b from N);obtain ⟨z,D,xs,j,L⟩:=ZbU I.hok e;refine wpAny_notIn_heap (tupleKind_room_in1 O) (XX I.hok U) D L ?_;have q:=(j.val k).isSome_eq;rw [Option.isSome_map] at q;rw [<-q,<-l];exact h _ (I.tok _)
theorem VS (I:Inv X qQ σ H s)(B:Mut (H a))(D:Heap.SameBut a s.heap h')(L:∃q,h'.get? a=some q)(new:ObjOk X.prog X.w (upd H a j) h' a j) :
  Inv X qQ σ (upd H a j) { s with heap:=h',toks:=t' }:=
 I.write (x:=a) (e:=a) B (.inl rfl) (λb q N z=>(D.2 b N).trans z) L new
theorem ZcX (z:kvs.length<=sizeLine)(q:(a == sysModules)=false)(j:KV kvs vs)(dd:h'.DictOf (G7 P w) a vs) :
  ObjOk P w H' h' a (.dK kvs):=⟨z,q,vs,j,dd⟩
theorem Z8 (hu:A.units+1<cLine)(I:Inv X qQ σ H s)(g:DPut H a y v H')(ry:RelV y u)(rv:RelV v r)(h:∀s',Inv X qQ σ H' s'->Q () s') :
  wpAny (model X.prog X.w) A (setItem (.ref a) u r) Q E s:=by
 rcases g with ⟨kvs,k,e,L,l,N⟩ | ⟨kvs,k,b,e,L,eb,l,N⟩
 ·subst L N;obtain ⟨z,O,vs,j,U⟩:=Zfe I.hok e;have Y:vs.length<=sizeLine:=by rw [<-j.length];exact z
  have Z:(JH kvs k v).length<=sizeLine:=by have:=GM kvs k v;lia
  refine wpAny_setItem_pairs (hsz:=Y) (Z6 ry) U λh' B hs=>h _ ?_;have he:∃q,h'.get? a=some q:=let ⟨q,_,_,D,_⟩:=B;⟨q,D⟩;exact VS I (by rw [e];exact True.intro) hs he (ZcX Z O (j.put k rv) B)
 ·subst L N;cases (show u=Value.ref b from ry);obtain ⟨z,O,xs,j,U⟩:=Zhu I.hok e;have Y:xs.length<=sizeLine:=by rw [<-Ycv j];exact z
  have Z:(JH kvs k v).length<=sizeLine:=by have:=GM kvs k v;lia
  refine wpAny_setItem_heap (hsz:=Y) (tupleKind_room_in1 hu) (XX I.hok eb) U λh' B hs=>h _ ?_;obtain ⟨q,es,ep,D,h2,h3,h4,_,h5⟩:=B;refine VS I (by rw [e];exact True.intro) hs ⟨q,D⟩ ⟨Z,O,_,(j.put k eb rv).keeps λc ys ec=>?_,q,es,ep,D,h2,h3,h4,h5⟩;rw [Gi (Ja ec e (λz=>nomatch z))];exact ec
end
noncomputable def Zff (i:Expr):Prop:=∀j q,subscripted i false j q=operate [j,q] (getItem j q)
theorem Z9 {T id:String}(O:typeLookup (.type T) "__getitem__" = pure (some (.builtin id)))(U:Zff j)(h:wpAny (model prog w) A (eval value env) (λo D=>wpAny (model prog w) A (eval j env) (λi q=>q.TypeIs o T/\wpAny (model prog w) A (getItem o i) Q E q) E D) E s) :
  wpAny (model prog w) A (eval (.Subscript value j pos) env) Q E s:=by
 refine Subscript_ (Ybs h (λo D Y=>Ybs Y (λi q B=>?_) λ_ _ x=>x) λ_ _ x=>x);obtain ⟨L,B⟩:=B;unfold subscriptTail;refine Yaa ?_;rw [getitemInPython_of_ne L.not_modules];refine Yaa (wpAny_specialOf L O ?_);have fin:wpAny (model prog w) A (subscripted j false o i) (λr N=>wpAny (model prog w) A (letTemporaryGo value o r >>= λ_=>pure r) Q E N) E q:=by
  rw [U o i];exact wpAny_operating (Ybs B (λr N Z=>Yaa (wpAny_letTemporaryGo (Yab Z))) λ_ _ x=>x)
 first
  | exact Yab (Yaa fin)
  | exact Yaa (Yab (Yaa fin))
  | exact Yaa fin
theorem Xj (I:Inv X qQ σ H s)(g:DGet H a y o):s.TypeIs (.ref a) "dict" := by
 rcases g with ⟨kvs,k,e,_,_⟩ | ⟨kvs,k,b,e,_,_,_⟩
 ·obtain ⟨_,_,vs,_,j⟩:=ZbT I.hok e;exact j.typeIs
 ·obtain ⟨_,_,xs,_,j⟩:=ZbU I.hok e;exact j.typeIs
noncomputable def ZdO (td ty:TE):TE:=λσ H Q=>td σ H λx H1=>ty σ H1 λy H2=>∃a v,x=.ref a/\DGet H2 a y (some v)/\Q v H2
noncomputable def ZdP (ty td:TE):TE:=λσ H Q=>ty σ H λy H1=>td σ H1 λx H2=>∃a o,x=.ref a/\DGet H2 a y o/\Q (.bl (!o.isSome)) H2
noncomputable def Zhv (td ty tv:TE):TS:=λD σ H=>tv σ H λv H1=>td σ H1 λx H2=>ty σ H2 λy q=>∃a j,x=.ref a/\DPut q a y v j/\D.nx σ j
section
variable {X:Cx}{o i e value:Expr}{pos pos' tpos:Pos}{td ty tv:TE}
theorem ZdQ (B:X.A.units+1<cLine)(D:PE X o td)(hi:PE X i ty)(L:Zff i):PE X (.Subscript o i pos) (ZdO td ty):=by
 intro qQ s σ H Q I h;refine Z9 PySem.F.slot_dict_getitem.lookup L (thG (D qQ s σ H _ I h) λu N x H1 O U Y=>thG (hi qQ N σ H1 _ O Y) λiv s2 y H2 q Z ⟨a,v,ex,g,q2⟩=>?_);subst ex;obtain rfl:u=Value.ref a:=U;exact ⟨Xj q g,Z7 B q g Z λw' s3 I3 j=>⟨v,H2,I3,j,q2⟩⟩
theorem UP (j:X.A.units+1<cLine)(hi:PE X i ty)(q:PE X o td):PC X .NotIn i o (ZdP ty td):=by
 intro qQ s σ H Q I h;refine thG (hi qQ s σ H _ I h) λiv B y H1 D L N=>thG (q qQ B σ H1 _ D N) λu s2 x H2 O U ⟨a,Y,ex,g,Z⟩=>?_;subst ex;obtain rfl:u=Value.ref a:=U;exact ZdN j O g L λs3 I3=>⟨.bl (!Y.isSome),H2,I3,rfl,Z⟩
theorem Ow (j:X.A.units+1<cLine)(q:PE X o td)(hi:PE X i ty)(B:PE X value tv)(L:swapsWith value (some (.Subscript o i pos')) pos.line X.env=pure false) :
  PS X (.Assign [.Subscript o i pos'] value pos) (Zhv td ty tv):=by
 intro qQ s σ H D I h;refine wpAny_Assign_Subscript (thG (B qQ s σ H _ I h) λr N v H1 O U Y=>thG (q qQ N σ H1 _ O Y) λu Z x H2 I2 rx q2=>thG (hi qQ Z σ H2 _ I2 q2) λiv s3 y H3 I3 ry ⟨a,H4,ex,g,q3⟩=>?_) L;subst ex;obtain rfl:u=Value.ref a:=rx;exact Z8 j I3 g ry U λs4 I4=>⟨σ,H4,I4,q3⟩
end
theorem ZbV (h:Heap)(j:sysModules<h.objs.size):ObjOk P w H (h.push { cls:=.type "dict", data:=.dict #[] }) h.objs.size (.dK []):=
 ⟨Yax _,Ydy.mpr (Ne.symm (Yar j)),[],.nil,Heap.DictOf.new h⟩
theorem ZbW (h:Heap)(j:sysModules<h.objs.size):ObjOk P w H (h.push { cls:=.type "dict", data:=.dict #[] }) h.objs.size (.dT []):=
 ⟨Yax _,Ydy.mpr (Ne.symm (Yar j)),[],.nil,_,#[],0,Ybb _ rfl,⟨rfl,rfl,rfl⟩,rfl,rfl,Yeb⟩
noncomputable def Zfg:TE:=λ_ H Q=>∀p,H p=none->Q (.ref p) (upd H p (.dT []))
section
variable {X:Cx}{pos:Pos}
theorem ZbX:PE X (.Dict [] [] pos) Zfg:=λqQ s σ H Q I h=>
 wpAny_Dict_empty ⟨.ref s.heap.objs.size,_,I.laid (a:=s.heap.objs.size) (o:=.dT []) (t':=s.toks) (λ_ _ q=>Yah _ q) (Yae _) (ZbW s.heap I.big),rfl,h _ (I.hok.fresh (Yae _))⟩
end
noncomputable def Zaa:List (TE×TE)->St->Hp->(List (V×V)->Hp->Prop)->Prop
 | [],_,H,Q=>Q [] H
 | (tk,tv)::r,σ,H,Q=>tk σ H λx H1=>tv σ H1 λy H2=>Zaa r σ H2 λps H3=>Q ((x,y)::ps) H3
noncomputable abbrev VV:List (V×V)->List (Aa×Aa)->Prop:=Paired λp q=>RelV p.1 q.1/\RelV p.2 q.2
noncomputable def PPs (X:Cx)(pos:Pos)(q:List (Option Expr))(j:List Expr)(B:List (TE×TE)):Prop:=
 ∀(qQ:List (AD×Obj))(s:SS)(σ:St)(H:Hp)(Q:List (V×V)->Hp->Prop),Inv X qQ σ H s->Zaa B σ H Q ->
  wpAny (model X.prog X.w) X.A (evalPairs (pairTrees q j X.env pos)) (λvs s'=>∃ps H',Inv X qQ σ H' s'/\VV ps vs/\Q ps H') X.xe s
theorem UQ :PPs X pos [] [] []:=λqQ s σ H Q I h=>pairTrees_nil_walk ⟨[],H,I,.nil,h⟩
theorem Jk (B:PE X k tk)(D:PE X v tv)(L:PPs X pos ks vs j) :
  PPs X pos (some k::ks) (v::vs) ((tk,tv)::j):=λqQ s σ H Q I h=>
 pairTrees_cons_walk (thG (B qQ s σ H _ I h) λu N x H1 O U Y=>thG (D qQ N σ H1 _ O Y) λw2 Z y H2 I2 ry q2=>
  thG (L qQ Z σ H2 _ I2 q2) λws s3 ps H3 I3 q q3=>⟨(x,y)::ps,H3,I3,.cons ⟨U,ry⟩ q,q3⟩)
noncomputable def G6 (kvs more:List (Key×V)):List (Key×V):=more.foldl (λacc j=>JH acc j.1 j.2) kvs
theorem KV.merge:∀{more:List (Key×V)}{rs:List (Key×Aa)}{kvs:List (Key×V)}{vs:List (Key×Aa)},KV more rs->KV kvs vs->KV (G6 kvs more) (merged vs rs):=by
 intro more rs kvs vs r;unfold KV at r
 induction r generalizing kvs vs with
 | nil=>intro q;exact q
 | @cons p q ps qs h t ih=>
  intro j;have e:KV (JH kvs p.1 p.2) (stored vs q.1 q.2):=by
   have:=j.put p.1 h.2;rw [<-h.1];exact this
  exact ih e
theorem OJ:∀(more kvs:List (Key×V)),(G6 kvs more).length<=kvs.length+more.length
 | [],kvs=>by show kvs.length<=kvs.length+0;lia
 | p::r,kvs=>by
  have h1:=OJ r (JH kvs p.1 p.2);have h2:=GM kvs p.1 p.2;show (G6 (JH kvs p.1 p.2) r).length<=_;rw [Ybo];lia
theorem Vo {P:PP}{w:Ab}:∀{kvs:List (Key×V)}{ws:List (Aa×Aa)},VV (kvs.map λj=>(kV j.1,j.2)) ws->∃rs,Carries (G7 P w) ws rs/\KV kvs rs
 | [],_,r=>by rw [List.map_nil] at r;cases r;exact ⟨[],True.intro,.nil⟩
 | p::kvs,_,r=>by
  rw [Yap] at r;cases r with
  | @cons a b as bs h t=>
   obtain ⟨rs,c,q⟩:=Vo (P:=P) (w:=w) t;obtain ⟨D,B⟩:=b;exact ⟨(p.1,B)::rs,⟨Z6 h.1,rfl,c⟩,.cons ⟨rfl,h.2⟩ q⟩
noncomputable def Zfh (j:List (TE×TE)):TE:=λσ H Q=>∀p,H p=none->Zaa j σ (upd H p (.dK [])) λps H2=>H2 p=some (.dK [])/\∃kvs:List (Key×V),ps=kvs.map (λq=>(kV q.1,q.2))/\kvs.length<=15/\Q (.ref p) (upd H2 p (.dK (G6 [] kvs)))
theorem UR {X:Cx}{pos:Pos}{j:List (Option Expr)}{B:List Expr}{D:List (TE×TE)}(h:PPs X pos j B D)(Y:j.all (·.isSome)=true)(Z:j.length=B.length)(h0:j≠[])(N:j.length<=15):PE X (.Dict j B pos) (Zfh D):=by
 intro qQ s σ H Q I q;have hn:=I.hok.fresh (Yae s.heap.objs.size);have I1:=I.laid (a:=s.heap.objs.size) (o:=.dK []) (h':=s.heap.push { cls:=.type "dict", data:=.dict #[] }) (t':=s.toks) (λ_ _ q=>Yah _ q) (Yae _) (ZbV s.heap I.big);refine wpAny_Dict_walk (knd:=G7 X.prog X.w) Y Z h0 N (thG (h qQ _ σ _ _ I1 (q _ hn)) λws s2 ps H2 U O ⟨e,kvs,ep,lk,q2⟩=>?_);subst ep;obtain ⟨rs,c,rk⟩:=Vo (P:=X.prog) (w:=X.w) O;obtain ⟨z,hd,aa,r0,dd⟩:=Zfe U.hok e;cases r0;refine ⟨rs,c,dd,λh' L hs=>⟨.ref s.heap.objs.size,_,?_,rfl,q2⟩⟩;have hz:(G6 [] kvs).length<=sizeLine:=by
  have h1:=OJ kvs [];rw [List.length_nil] at h1;rw [Ybd];lia
 have he:∃q,h'.get? s.heap.objs.size=some q:=let ⟨q,_,_,hq,_⟩:=L;⟨q,hq⟩;exact VS U (by rw [e];exact True.intro) hs he (ZcX hz hd (rk.merge .nil) L)
section
variable {X:Cx}
theorem kBm {id:String}(K:FG)(O:PlainAttrs T)(D:Slot T name id)(N:typeOf (.builtin id)=pure (.type "method_descriptor"))(U:MtM X id r)(Y:PE X o to)(ha:PA X (e::es) t)(Z:X.K=K:=by rfl)(q:attributeBase o name X.env (eval o X.env)=eval o X.env:=by rfl)(L:((backTo qG (starEach (e::es) X.env)).all (λx=>!x.1) && (backToKw qG (keywordEach [] X.env)).all (λx=>x.1.isSome)
   && decide ((e::es).length+([]:List Keyword).length+(if ([]:List Keyword).isEmpty then 0 else 1)<30))=true:=by rfl)(B:(apos.endLine == qG.line)=true:=by rfl)(hs:starEach (e::es) X.env=(false,eval e X.env)::starEach es X.env:=by rfl)(j:(backTo qG (starEach es X.env)).any (·.1)=false:=by rfl) :
  PE X (.Call (.Attribute o name apos) (e::es) [] qG) (tBM K T r to t):=Z▸Zho O D N U Y ha q L B hs j
theorem Zip (K:FG)(hc:X.calm=true)(h:X.K=K:=by rfl):JG X (.builtin "min") (λxs H Q=>∃(p:AD)(ns:LI),xs=[.ref p]/\SqL K H p (ns.map V.int)/\ns≠[]/\∀m,m∈ns->(∀n∈ns,m<=n)->Q (.int m) H):=by
 subst h;intro qQ s σ H xs us Q I rv h;obtain ⟨p,ns,rfl,hq,U,q⟩:=h;obtain ⟨u,rfl,Y⟩:=rv.one;cases Y;obtain ⟨its,r,Z,hz⟩:=I.list hq;have hh:X.A.in1.handled=none:=I.ok.hd hc;have hl:=r.length;rw [Yac] at hl;have hpos:0<ns.length:=List.length_pos_iff.mpr U;obtain ⟨o,eo,_⟩:=id Z.isList;have L:p<s.heap.objs.size:=Yag eo;have B:∀(i:Nat)(v:Aa),its.toArray[i]?=some v->∃t,v=Value.int (ns.getD i 0) t:=λi v hv=>by
  have D:its[i]?=some v:=by simpa using hv
  have hi:i<its.length:=(Yal.mp D).1;have ex:(ns.map V.int)[i]?=some (.int (ns[i]'(by lia))):=by rw [Yay,Yaw (by lia)];rfl
  obtain ⟨u,gu,Y⟩:=r.get ex;rw [gu] at D;cases D;obtain ⟨t,rfl⟩:=Y;exact ⟨t,by rw [Yca,Yaw (by lia)];rfl⟩
 refine call_min_walk (wpAny_pyIter_list Z.isList ?_);refine ⟨s.heap.objs.size,_,_,_,_,_,_,rfl,Walks.list hh s.heap.objs.size p (Yar L) its.toArray,⟨⟨_,Ybb _ rfl,rfl,rfl⟩,Z.isList.at λo e=>Yah _ e⟩,?_,by rw [Yas];lia,CmpOf.ints_lt (λi=>ns.getD i 0) B,λv h' tk hv hk=>?_⟩
 ·intro b hb;have e:b=s.heap.objs.size\/b=p:=by simpa using hb
  have N:(s.heap.push { cls:=.type "list_iterator", data:=.fields #[.ref p,.int 0 0] }).objs.size=s.heap.objs.size+1:=Ybz ..;show b<(s.heap.push { cls:=.type "list_iterator", data:=.fields #[.ref p,.int 0 0] }).objs.size;rw [N];rcases e with e | e
  ·rw [e];exact Nat.lt_succ_self _
  ·rw [e];exact Ydw L
 ·obtain ⟨t,rfl⟩:=B _ v hv;have hA:=argBest_lt (λi=>ns.getD i 0) (its.toArray.size-1);have N:its.toArray.size=ns.length:=by rw [Yas];exact hl.symm
  generalize hg:argBest (λi j=>decide (ns.getD i 0<ns.getD j 0)) (its.toArray.size-1)=g at hA ⊢;have O:g<ns.length:=by lia
  have eg:ns.getD g 0=ns[g]:=by rw [Yca,Yaw O];rfl
  refine ⟨.int (ns.getD g 0),H,I.kept λb o e'=>hk b o ?_ (Yah _ e'),⟨t,rfl⟩,q _ (by rw [eg];exact List.getElem_mem O) λn hn=>?_⟩
  ·intro z;have:b=s.heap.objs.size:=by simpa using z
   exact absurd (Yag e') (by rw [this];exact Ych _)
  ·obtain ⟨j,hj,rfl⟩:=Yck hn;have:=hA.2 j (by lia);have ej:ns.getD j 0=ns[j]:=by rw [Yca,Yaw hj];rfl
   rw [<-ej];exact this
end
theorem ZbY {K:FG}(j:Nat->St->Hp->Prop)(h0:j 0 σ H)(q:∀i σ H,i<=xs.length->j i σ H->SqL K H a xs)(B:∀i x σ H T,xs[i]?=some x->j i σ H->H T=none->g (.ref T) σ (upd H T (.tup [.int (i:Nat),x])) λL H2=>tb { D with nx:=j (i+1),ct:=j (i+1),bk:=D.nx } L H2)(N:∀ σ H,j xs.length σ H->D.nx σ H) :
  YF (Ite K a) g tb D σ H:=UG j h0 (λi s H hi p=>⟨λz=>⟨xs,xs[i],q i s H hi p,by simp [z]⟩,λe=>⟨xs,q i s H hi p,by lia⟩⟩) (λi s H x H' z p y=>by obtain ⟨T,O,rfl,U,rfl,y⟩:=y;exact B i O s H T (y xs (q i s _ (Ycw z) p)) p U) N
theorem VT (its:LW):∀m:Nat,m<=its.length->((List.range m).map λ(k:Nat)=>((its.length:Int)-1+(-1) * (k:Int)).toNat).filterMap (its.toArray[·]?)=(its.drop (its.length-m)).reverse
 | 0,_=>by simp
 | m+1,h=>by
  have ih:=VT its m (by lia);have hi:its.length-(m+1)<its.length:=by lia
  have j:((its.length:Int)-1+(-1) * (m:Int)).toNat=its.length-(m+1):=by lia
  rw [List.range_succ,Yao,List.filterMap_append,ih,Yap,List.map_nil,j];rw [Yfs hi,show its.length-(m+1)+1=its.length-m by lia,List.reverse_cons]
  congr 1
  have q:its.toArray[its.length-(m+1)]?=some its[its.length-(m+1)]:=by simp [hi]
  rw [List.filterMap_cons,q]
  rfl
theorem VU (its:LW):slicePick its.toArray none none (some (-1))=its.reverse.toArray:=by
 unfold slicePick sliceBounds sliceRange;simp only [Option.getD_some,Yas,show ¬ ((-1:Int) > 0) by decide,Ycj];have e:((if ((its.length:Int)-1 > -1) then (((its.length:Int)-1 - -1 - -1-1) / - -1) else 0:Int)).toNat=its.length:=by
  rw [show (- -1:Int)=1 by decide,Int.ediv_one];split <;> lia
 rw [e,VT its its.length (Yae _),Nat.sub_self,List.drop_zero]
theorem Vd (its:LW):slicePick its.toArray none (some 0) (some (-1))=(its.drop 1).reverse.toArray:=by
 unfold slicePick sliceBounds sliceRange;simp only [Option.getD_some,Yas,show ¬ ((-1:Int) > 0) by decide,show ¬ ((0:Int)<0) by decide,Ycj];have e:((if ((its.length:Int)-1 > max (-1) (min 0 ((its.length:Int)-1))) then (((its.length:Int)-1-max (-1) (min 0 ((its.length:Int)-1)) - -1-1) / - -1) else 0:Int)).toNat=its.length-1:=by
  rw [show (- -1:Int)=1 by decide,Int.ediv_one];split <;> lia
 rw [e,VT its (its.length-1) (Nat.sub_le _ _)];cases its with
 | nil=>rfl
 | cons a r=>
  rw [show (a::r).length-((a::r).length-1)=1 by simp]
section
variable {X:Cx}
noncomputable def ZgO (hi:Option Int)(xs:List V):List V:=match hi with
 | none=>xs.reverse
 | some _=>(xs.drop 1).reverse
noncomputable def Ziq (K:FG)(te:TE)(th:TO):TE:=λσ H Q=>te σ H λx H1=>th σ H1 λu H2=>∃a xs,x=.ref a/\SqL K H2 a xs/\(u=none\/u=some 0)/\∀p,H2 p=none->Q (.ref p) (upd H2 p (.lst (ZgO u xs)))
theorem Zab {e st:Expr}(K:FG)(he:PE X e te)(hu:PO X hi th)(L:PE X st (tUn (rU λi=>.int (-i)) (tC (.int 1))))(hK:X.K=K:=by rfl)(ht:∀o r,letTemporaryGo e o r=pure ():=by intro _ _;rfl) :
  PE X (.Subscript e (.Slice none hi (some st) p2) pos) (Ziq K te th):=by
 subst hK;intro qQ s σ H Q I h;refine wpAny_Subscript_Slice_step slot_list_getitem.lookup (thG (he qQ s σ H _ I h) λv s1 x H1 I1 r1 q1=>?_) ht;refine wpAny_Slice ?_;rw [evalPart_none];refine Yab (thG (hu qQ s1 σ H1 _ I1 q1) λvu s3 u U I3 pu q3=>?_);rw [evalPart_some];refine thG (L qQ s3 σ U (λy N=>y=.int (-1)/\N=U) I3 ⟨1,rfl,rfl,rfl⟩) λvs j y N I4 r4 ⟨ey,eH⟩=>?_;subst ey eH;obtain ⟨Y,rfl⟩:=r4;obtain ⟨a,xs,rfl,hx,O,q⟩:=q3;cases r1;have D:Inv X qQ σ N { j with heap:=j.heap.push { cls:=.type "slice", data:=.fields #[.none,vu,.int (-1) Y] } }:=I4.kept (t':=j.toks) λb ob q=>Yah _ q;obtain ⟨its,r,Z,hz⟩:=D.list hx;have qV:=r.length;refine ⟨Z.isList.typeIs,?_⟩;refine wpAny_getItem_list_slice Z.isList ⟨_,Ybb _ rfl,rfl,rfl⟩ .none pu (.int (-1) Y) (by decide) ?_ (by rw [Yas] <;> lia);have B:=D.fresh;rcases O with rfl | rfl
 ·rw [VU];exact ⟨.ref _,_,D.lnew (ys:=xs.reverse) (t':=j.toks) r.reverse (by rw [List.length_reverse];exact hz),rfl,q _ B⟩
 ·rw [Vd];exact ⟨.ref _,_,D.lnew (ys:=(xs.drop 1).reverse) (t':=j.toks) (Vals.reverse (Vals.drop' r 1)) (by rw [List.length_reverse,Yei];lia),rfl,q _ B⟩
end
structure FunD (K:FG)(x qual:Str)(st:Stmt)(dV:Aa)(f:AD)(fd:FuncData):Prop where
 ex:∃(oc:Aa)(od:Option AD)(kV doc pm:Aa)(an:Option AD)(cdv ct:Aa)(osl:Array (Option Aa)),
  fd=W.fnOf x qual (Ji st) (GP st) (Gf st) dV kV doc pm an cdv ct/\K.lookup f=some ⟨oc,od,.func fd,osl⟩/\W.codeIn K cdv qual=true
 kp:W.keepIn K (.ref f)=true
section
variable {P:PP}{w:Ab}{K:FG}{mg:Str->Option Aa}{base:Heap}
theorem FunD.ok {st:Stmt}(F:FunD K x qual st L f fd)(S:Go N ps (Gf st))(len:∀vs H Q E,sp vs H Q E->vs.length=ps.length)(O:∀(j:Aa)(A:Around)(outer:List Env)(s:SS)(H:Hp)(vs:List V)(Q:VK)(E:XK),Room k (A.deeper (envOfC qual (Gf st) s.heap.objs.size f j))->sp vs H Q E ->
   ∃t,PSs (YN CX0 P w K mg base N qual (Gf st) f j A outer s H E).nox (GP st) t/\t { nx:=λ_ H'=>Q .non H',rt:=Q } (start N vs) H):GG P w K mg base CX0 (k+1) f fd ps sp:=by
 obtain ⟨oc,od,kV,U,pm,an,j,ct,Y,rfl,Z,B⟩:=F.ex;refine ZO Z B S len λA outer s H vs Q E hr D=>?_;obtain ⟨t,h,q⟩:=O j A outer s H vs Q E hr D;exact ⟨t,h.nox,q⟩
theorem ZdR {st:Stmt}{L kV q pm j ct:Aa}(l:K.lookup f=some ⟨N,O,.func (W.fnOf x qual (Ji st) (GP st) (Gf st) L kV q pm D j ct),B⟩)(c:W.codeIn K j qual=true)(k:W.keepIn K (.ref f)=true):FunD K x qual st L f (W.fnOf x qual (Ji st) (GP st) (Gf st) L kV q pm D j ct):=⟨⟨N,O,kV,q,pm,D,j,ct,B,rfl,l,c⟩,k⟩
end
end L2
namespace L2
open PySem
noncomputable def itf (M:Nat):Nat->Nat->Nat
 | 0,x=>x
 | k+1,x=>itf M k ((x * 5+1) % M)
theorem VW (M:Nat):∀(a b x:Nat),itf M (a+b) x=itf M b (itf M a x)
 | 0,b,x=>by rw [Ydo];rfl
 | a+1,b,x=>by rw [Nat.add_right_comm];exact VW M a b _
noncomputable def ZgP (M:Nat):Nat->Nat->Nat->Nat
 | 0,_,m=>m
 | n+1,x,m=>ZgP M n ((x * 5+1) % M) (m ||| 2 ^ x)
theorem XY {M j:Nat}:∀{n x m:Nat},(ZgP M n x m).testBit j=true->m.testBit j=true\/∃k,k<n/\itf M k x=j
 | 0,x,m,h=>.inl h
 | n+1,x,m,h=>by
  rcases XY (n:=n) h with z | ⟨k,h1,h2⟩
  ·rw [Nat.testBit_or,Bool.or_eq_true] at z;rcases z with z | z
   ·exact .inl z
   ·rw [Nat.testBit_two_pow,decide_eq_true_eq] at z;exact .inr ⟨0,by lia,z⟩
  ·exact .inr ⟨k+1,by lia,h2⟩
noncomputable def XZ (M:Nat):Bool:=ZgP M M 0 0 == 2 ^ M-1 && itf M M 0 == 0
theorem Zir:XZ 8=true:=by decide +kernel
theorem Zfi:XZ 32=true:=by decide +kernel
theorem ZcY:XZ 128=true:=by decide +kernel
theorem ZcZ:XZ 512=true:=by decide +kernel
theorem Zac:XZ 2048=true:=by decide +kernel
theorem ZdS (h:XZ M=true)(hi:i<M)(q:j<M):∃k,k<M/\itf M k i=j:=by
 unfold XZ at h;rw [Ycl,Ybh,Ybh] at h;obtain ⟨h1,h2⟩:=h;have all:∀j,j<M->∃k,k<M/\itf M k 0=j:=λj q=>by
  have z:(ZgP M M 0 0).testBit j=true:=by rw [h1,Nat.testBit_two_pow_sub_one];exact Yau q
  rcases XY z with z | z
  ·simp at z
  ·exact z
 obtain ⟨a,ha,D⟩:=all i hi;obtain ⟨b,N,L⟩:=all j q;by_cases B:a<=b
 ·refine ⟨b-a,by lia,?_⟩;rw [<-D,<-VW,Ydp B];exact L
 ·refine ⟨b+M-a,by lia,?_⟩;rw [<-D,<-VW,show a+(b+M-a)=M+b by lia,VW,h2];exact L
noncomputable def adv (mask:Nat)(p:SetTable.Probe):SetTable.Probe:=
 if p.more > 0 then { p with j:=p.j+1,more:=p.more-1 }
 else { p with j:=(SetTable.leap mask p.i p.perturb).1,more:=SetTable.runEnd mask (SetTable.leap mask p.i p.perturb).1-(SetTable.leap mask p.i p.perturb).1,i:=(SetTable.leap mask p.i p.perturb).1,perturb:=(SetTable.leap mask p.i p.perturb).2 }
theorem Zc0 (t:SetTable)(p:SetTable.Probe):t.advance p=adv t.mask p:=rfl
noncomputable def GJ (mask:Nat):Nat->SetTable.Probe->SetTable.Probe
 | 0,p=>p
 | n+1,p=>GJ mask n (adv mask p)
theorem G3 (mask:Nat):∀(a b:Nat)(p:SetTable.Probe),GJ mask (a+b) p=GJ mask b (GJ mask a p)
 | 0,b,p=>by rw [Ydo];rfl
 | a+1,b,p=>by rw [Nat.add_right_comm];exact G3 mask a b _
theorem WI (mask n:Nat)(p:SetTable.Probe):GJ mask (n+1) p=adv mask (GJ mask n p):=G3 mask n 1 p
theorem WJ (mask:Nat)(p:SetTable.Probe):(adv mask p).dummy=p.dummy:=by
 unfold adv;split <;> rfl
theorem Vp (mask:Nat):∀(n:Nat)(p:SetTable.Probe),(GJ mask n p).dummy=p.dummy
 | 0,_=>rfl
 | n+1,p=>(Vp mask n (adv mask p)).trans (WJ mask p)
noncomputable def rs (mask i pt:Nat):SetTable.Probe:={ j:=i,more:=SetTable.runEnd mask i-i,i:=i,perturb:=pt,dummy:=none }
noncomputable def st0 (mask:Nat)(h:Int):SetTable.Probe:=rs mask (SetTable.bits h % (mask+1)) (SetTable.bits h)
theorem Zfj (t:SetTable)(h:Int):t.probeStart h=st0 t.mask h:=rfl
theorem US (h:i<=mask):SetTable.runEnd mask i<=mask:=by
 unfold SetTable.runEnd;split <;> lia
theorem YU (mask i:Nat):SetTable.runEnd mask i-i<=9:=by
 unfold SetTable.runEnd;split <;> lia
theorem UT (mask i:Nat):i<=SetTable.runEnd mask i:=by
 unfold SetTable.runEnd;split <;> lia
theorem Og (mask i pt:Nat):∀k,k<=SetTable.runEnd mask i-i->GJ mask k (rs mask i pt)={ j:=i+k,more:=SetTable.runEnd mask i-i-k,i:=i,perturb:=pt,dummy:=none }
 | 0,_=>rfl
 | k+1,h=>by
  rw [WI,Og mask i pt k (by lia)];unfold adv;rw [if_pos (by show SetTable.runEnd mask i-i-k > 0;lia)];show SetTable.Probe.mk _ _ _ _ _=_
  congr 1
theorem OK (mask i pt:Nat):GJ mask (SetTable.runEnd mask i-i+1) (rs mask i pt)=rs mask (SetTable.leap mask i pt).1 (SetTable.leap mask i pt).2:=by
 rw [WI,Og mask i pt _ (Yae _)];unfold adv;rw [if_neg (by show ¬ (SetTable.runEnd mask i-i-(SetTable.runEnd mask i-i) > 0);lia)]
 rfl
theorem Vq (x mask:Nat):x % (mask+1)<=mask:=Nat.le_of_lt_succ (Nat.mod_lt _ (Nat.succ_pos _))
noncomputable def lps (mask:Nat):Nat->Nat×Nat->Nat×Nat
 | 0,x=>x
 | m+1,x=>lps mask m (SetTable.leap mask x.1 x.2)
theorem Zad (mask:Nat):∀(a b:Nat)(x:Nat×Nat),lps mask (a+b) x=lps mask b (lps mask a x)
 | 0,b,x=>by rw [Ydo];rfl
 | a+1,b,x=>by rw [Nat.add_right_comm];exact Zad mask a b _
theorem X0 (mask:Nat):∀(m:Nat)(x:Nat×Nat),∃n,n<=10 * m/\GJ mask n (rs mask x.1 x.2)=rs mask (lps mask m x).1 (lps mask m x).2
 | 0,x=>⟨0,Yae _,rfl⟩
 | m+1,x=>by
  obtain ⟨n,h1,h2⟩:=X0 mask m (SetTable.leap mask x.1 x.2);refine ⟨SetTable.runEnd mask x.1-x.1+1+n,?_,?_⟩
  ·have:=YU mask x.1
   lia
  ·rw [G3,OK];exact h2
theorem X1 (mask:Nat):∀(m i:Nat),lps mask m (i,0)=(itf (mask+1) m i,0)
 | 0,i=>rfl
 | m+1,i=>by
  show lps mask m (SetTable.leap mask i 0)=_;have e:SetTable.leap mask i 0=((i * 5+1) % (mask+1),0):=by unfold SetTable.leap;simp
  rw [e];exact X1 mask m _
theorem X2 (mask:Nat):∀(m i b:Nat),(lps mask m (i,b)).2=b / 32 ^ m
 | 0,i,b=>by simp [lps]
 | m+1,i,b=>by
  show (lps mask m (SetTable.leap mask i b)).2=_;have e:SetTable.leap mask i b=((SetTable.leap mask i b).1,b / 32):=rfl;rw [e,X2 mask m _ _,Nat.div_div_eq_div_mul,Nat.pow_succ,Nat.mul_comm]
theorem Zc1 (mask:Nat):∀(m i b:Nat),i<=mask->(lps mask m (i,b)).1<=mask
 | 0,i,b,h=>h
 | m+1,i,b,h=>Zc1 mask m _ _ (Vq _ _)
theorem ZdT (h:Int):SetTable.bits h<2 ^ 64:=by
 unfold SetTable.bits;have h1:=Ycm h (show (2 ^ 64:Int)≠0 by decide);have h2:=Ycn h (show (0:Int)<2 ^ 64 by decide)
 lia
theorem WK (D:XZ (mask+1)=true)(h:Int)(L:j<=mask):∃m,m<mask+14/\(lps mask m (SetTable.bits h % (mask+1),SetTable.bits h)).1=j:=by
 have B:=ZdT h;generalize SetTable.bits h=b at B ⊢;have q:(lps mask 13 (b % (mask+1),b)).2=0:=by
  rw [X2];exact Nat.div_eq_of_lt (Nat.lt_trans B (by decide))
 have hi:(lps mask 13 (b % (mask+1),b)).1<=mask:=Zc1 mask 13 _ _ (Vq _ _);obtain ⟨k,O,N⟩:=ZdS D (Nat.lt_succ_of_le hi) (Nat.lt_succ_of_le L);refine ⟨13+k,by lia,?_⟩;rw [Zad];have e:lps mask 13 (b % (mask+1),b)=((lps mask 13 (b % (mask+1),b)).1,0):=by rw [<-q]
 rw [e,X1];exact N
theorem Zae (q:XZ (mask+1)=true)(h:Int)(B:j<=mask):∃n,n+10<10 * SetTable.turns mask/\(GJ mask n (st0 mask h)).j=j:=by
 obtain ⟨m,N,D⟩:=WK q h B;obtain ⟨n,O,L⟩:=X0 mask m (SetTable.bits h % (mask+1),SetTable.bits h);refine ⟨n,by unfold SetTable.turns;lia,?_⟩;show (GJ mask n (rs mask _ _)).j=j;rw [L];exact D
theorem Zfk (h:p.j+p.more<=mask):(adv mask p).j+(adv mask p).more<=mask:=by
 unfold adv;split
 ·show p.j+1+(p.more-1)<=mask
  lia
 ·have h1:(SetTable.leap mask p.i p.perturb).1<=mask:=Vq _ _;have h2:=US h1;have q:=UT mask (SetTable.leap mask p.i p.perturb).1;show (SetTable.leap mask p.i p.perturb).1+(SetTable.runEnd mask (SetTable.leap mask p.i p.perturb).1-(SetTable.leap mask p.i p.perturb).1)<=mask
  lia
theorem Zaf {mask:Nat}:∀{n:Nat}{p:SetTable.Probe},p.j+p.more<=mask->(GJ mask n p).j+(GJ mask n p).more<=mask
 | 0,_,h=>h
 | n+1,p,h=>Zaf (n:=n) (Zfk h)
theorem Zfl (mask:Nat)(h:Int):(st0 mask h).j+(st0 mask h).more<=mask:=by
 have h1:SetTable.bits h % (mask+1)<=mask:=Vq _ _;have h2:=US h1;have q:=UT mask (SetTable.bits h % (mask+1));show SetTable.bits h % (mask+1)+(SetTable.runEnd mask (SetTable.bits h % (mask+1))-SetTable.bits h % (mask+1))<=mask
 lia
theorem Zag (mask n:Nat)(h:Int):(GJ mask n (st0 mask h)).j<=mask:=by
 have:=Zaf (n:=n) (Zfl mask h)
 lia
noncomputable def Rise (xs:Array Nat):Prop:=xs.toList.Pairwise (· < ·)
theorem Rise.lt (h:Rise xs){q r a b:Nat}(j:q<r)(ha:xs[q]?=some a)(B:xs[r]?=some b):a<b:=by
 rw [<-Yba] at ha B;obtain ⟨h1,D⟩:=Yal.mp ha;obtain ⟨h2,L⟩:=Yal.mp B;have:=Yec.mp h q r h1 h2 j;rw [D,L] at this;exact this
theorem VX {xs:Array Nat}{j:Nat}(O:Rise xs):∀(B lo hi:Nat),hi-lo<=B->lo<=hi->hi<=xs.size ->
  (∀q a,q<lo->xs[q]?=some a->a<j)->(∀q a,hi<=q->xs[q]?=some a->j<=a) ->
  SetTable.below.go xs j B lo hi<=xs.size/\(∀q a,q<SetTable.below.go xs j B lo hi->xs[q]?=some a->a<j)/\(∀q a,SetTable.below.go xs j B lo hi<=q->xs[q]?=some a->j<=a)
 | 0,lo,hi,h0,h1,h2,hl,hh=>by
  have e:hi=lo:=by lia
  subst e;exact ⟨h2,hl,hh⟩
 | B+1,lo,hi,h0,h1,h2,hl,hh=>by
  unfold SetTable.below.go;by_cases L:lo<hi
  ·rw [if_pos L];have Y:(lo+hi) / 2<xs.size:=by lia
   have N:xs[(lo+hi) / 2]?=some xs[(lo+hi) / 2]:=Ybe Y;have Z:xs.getD ((lo+hi) / 2) j=xs[(lo+hi) / 2]:=by
    rw [Yeq,N];rfl
   dsimp only;rw [Z];by_cases U:xs[(lo+hi) / 2]<j
   ·rw [if_pos U];refine VX O B _ _ (by lia) (by lia) h2 (λq a hq ha=>?_) hh;by_cases D:q=(lo+hi) / 2
    ·rw [D,N] at ha;cases ha;exact U
    ·exact Nat.lt_trans (O.lt (by lia) ha N) U
   ·rw [if_neg U];refine VX O B _ _ (by lia) (by lia) (by lia) hl (λq a hq ha=>?_);by_cases D:q=(lo+hi) / 2
    ·rw [D,N] at ha;cases ha;lia
    ·have:=O.lt (show (lo+hi) / 2<q by lia) N ha
     lia
  ·rw [if_neg L];have e:hi=lo:=by lia
   subst e;exact ⟨h2,hl,hh⟩
theorem O7 (D:Rise xs):SetTable.below xs j<=xs.size/\(∀q a,q<SetTable.below xs j->xs[q]?=some a->a<j)/\(∀q a,SetTable.below xs j<=q->xs[q]?=some a->j<=a):=by
 unfold SetTable.below;refine VX D xs.size 0 xs.size (by lia) (by lia) (Yae _) (λq a B=>absurd B (Yda _)) λq a B ha=>?_;rw [Yft B] at ha;cases ha
theorem Ux (q:Rise xs)(h:xs[i]?=some j):SetTable.below xs j=i:=by
 obtain ⟨h1,h2,D⟩:=O7 (j:=j) q;rcases Yff (SetTable.below xs j) i with z | z | z
 ·have B:SetTable.below xs j<xs.size:=by
   have:=(Yfu.mp h).1
   lia
  have:=q.lt z (Ybe B) h;have:=D _ _ (Yae _) (Ybe B)
  lia
 ·exact z
 ·have:=h2 i j z h
  lia
theorem YV (t:SetTable)(B:Rise t.place)(D:t.dummies=#[])(j:Nat):(t.slot j=.empty/\j ∉ t.place.toList)\/∃i,t.slot j=.live i/\t.place[i]?=some j:=by
 unfold SetTable.slot;dsimp only;by_cases h:t.place[SetTable.below t.place j]?=some j
 ·refine .inr ⟨SetTable.below t.place j,?_,h⟩;rw [if_pos (by rw [h];exact Yfe _)]
 ·refine .inl ⟨?_,λL=>?_⟩
  ·rw [if_neg (by rw [Ybh];exact h),D];have e:SetTable.has #[] j=false:=by unfold SetTable.has;simp
   rw [e]
   rfl
  ·obtain ⟨i,hi,e⟩:=Yck L;have q:t.place[i]?=some j:=by
    rw [<-Yba,Yaw hi,e]
   rw [Ux B q] at h;exact h q
theorem Zah (t:SetTable)(q:Rise t.place)(h:t.place[i]?=some j):t.slot j=.live i:=by
 unfold SetTable.slot;dsimp only;rw [Ux q h,if_pos (by rw [h];exact Yfe _)]
theorem JR {xs:Array Nat}{i j:Nat}(h:xs[i]?=some j):j∈xs.toList:=by
 rw [<-Yba] at h;exact Yaz h
section
variable {t:SetTable}{ha:Nat->Int}{h:Int}
theorem Zai (O:Rise t.place)(U:t.dummies=#[]):∀(F:Nat)(p:SetTable.Probe),(∃n,n<F/\(GJ t.mask n p).j ∉ t.place.toList) ->
  (∃n,SetTable.probe.go t ha h F p=some (.empty (GJ t.mask n p).j p.dummy)/\(GJ t.mask n p).j ∉ t.place.toList/\∀q,q<n->∃i,t.place[i]?=some (GJ t.mask q p).j/\ha i≠h) \/
  (∃n i,SetTable.probe.go t ha h F p=some (.candidate (GJ t.mask n p).j i (GJ t.mask (n+1) p))/\t.place[i]?=some (GJ t.mask n p).j/\ha i=h/\∀q,q<n->∃i,t.place[i]?=some (GJ t.mask q p).j/\ha i≠h)
 | 0,p,⟨n,hn,_⟩=>absurd hn (Yda _)
 | F+1,p,⟨n,hn,hf⟩=>by
  rcases YV t O U p.j with ⟨e,hm⟩ | ⟨i,e,hi⟩
  ·refine .inl ⟨0,?_,hm,λq B=>absurd B (Yda _)⟩;unfold SetTable.probe.go;rw [e]
   rfl
  ·by_cases hh:ha i=h
   ·refine .inr ⟨0,i,?_,hi,hh,λq B=>absurd B (Yda _)⟩;unfold SetTable.probe.go;rw [e];dsimp only;rw [if_pos (by rw [hh];exact Yfe _),Zc0]
    rfl
   ·have hs:SetTable.probe.go t ha h (F+1) p=SetTable.probe.go t ha h F (adv t.mask p):=by
     rw [SetTable.probe.go,e];dsimp only;rw [if_neg (by rw [Ybh];exact hh),Zc0]
    cases n with
    | zero=>exact absurd (JR hi) hf
    | succ n=>
     rw [hs];rcases Zai O U F (adv t.mask p) ⟨n,by lia,hf⟩ with ⟨m,D,L,N⟩ | ⟨m,Y,D,L,N,Z⟩
     ·refine .inl ⟨m+1,?_,L,λq B=>?_⟩
      ·rw [D,WJ];rfl
      ·cases q with
       | zero=>exact ⟨i,hi,hh⟩
       | succ q=>exact N q (by lia)
     ·refine .inr ⟨m+1,Y,D,L,N,λq B=>?_⟩;cases q with
      | zero=>exact ⟨i,hi,hh⟩
      | succ q=>exact Z q (by lia)
theorem Vr {l:List Nat}(h:l.length<=mask):∃j,j<=mask/\j ∉ l:=by
 apply Classical.byContradiction;intro q;have B:List.range (mask+1) ⊆ l:=λj D=>Classical.byContradiction λL=>q ⟨j,by have:=Ycc.mp D;lia,L⟩;have:=Ydb List.nodup_range B;rw [Ydg] at this
 lia
end
theorem isN {j:Array (Option Nat)}(q:x<j.size):(j.getD x (some 0)).isNone=true↔j[x]?=some none:=by
 rw [Yeq,Ybe q];show j[x].isNone=true↔some j[x]=some none;cases j[x] <;> simp
theorem WL {mask:Nat}{B:Array (Option Nat)}(hz:B.size=mask+1):∀(F i pt:Nat),i<=mask ->
  (∃m,m<F/\B[(lps mask m (i,pt)).1]?=some none) ->
  ∃n,SetTable.layClean.free mask B F i pt=some (GJ mask n (rs mask i pt)).j/\B[(GJ mask n (rs mask i pt)).j]?=some none/\∀q,q<n->B[(GJ mask q (rs mask i pt)).j]?≠some none
 | 0,i,pt,_,⟨m,hm,_⟩=>absurd hm (Yda _)
 | F+1,i,pt,hi,⟨m,hm,em⟩=>by
  have hre:=US hi;have O:=UT mask i;unfold SetTable.layClean.free;cases hf:List.find? (λk=>(B.getD (i+k) (some 0)).isNone) (List.range (SetTable.runEnd mask i+1-i)) with
  | some k=>
   obtain ⟨U,p2,Y⟩:=List.find?_range_eq_some.mp hf;have hk:=Ycc.mp p2;refine ⟨k,?_,?_,λq N=>?_⟩
   ·rw [Og mask i pt k (by lia)]
   ·rw [Og mask i pt k (by lia)];show B[i+k]?=some none;exact (isN (by lia)).mp U
   ·rw [Og mask i pt q (by lia)];show B[i+q]?≠some none;intro z;have h1:=Y q N;rw [(isN (by lia)).mpr z] at h1;cases h1
  | none=>
   have Z:=List.find?_eq_none.mp hf;have D:∀q,q<=SetTable.runEnd mask i-i->B[i+q]?≠some none:=λq N z=>Z q (Ycc.mpr (by lia)) ((isN (by lia)).mpr z);cases m with
   | zero=>exact absurd em (D 0 (Yax _))
   | succ m=>
    obtain ⟨n,g1,g2,g3⟩:=WL hz F (SetTable.leap mask i pt).1 (SetTable.leap mask i pt).2 (Vq _ _) ⟨m,by lia,em⟩;refine ⟨SetTable.runEnd mask i-i+1+n,?_,?_,λq N=>?_⟩
    ·rw [G3,OK];exact g1
    ·rw [G3,OK];exact g2
    ·by_cases L:q<=SetTable.runEnd mask i-i
     ·rw [Og mask i pt q L];exact D q L
     ·have e:q=SetTable.runEnd mask i-i+1+(q-(SetTable.runEnd mask i-i+1)):=by lia
      rw [e,G3,OK];exact g3 _ (by lia)
noncomputable def X3 (mask:Nat)(acc:Option (Array (Option Nat)×Nat))(h:Int):Option (Array (Option Nat)×Nat):=
 acc.bind λx=>(SetTable.layClean.free mask x.1 (SetTable.turns mask) (SetTable.bits h % (mask+1)) (SetTable.bits h)).bind λj=>some (x.1.setIfInBounds j (some x.2),x.2+1)
theorem VY (mask:Nat)(j:Array Int):SetTable.layClean mask j=(j.toList.foldl (X3 mask) (some (Array.replicate (mask+1) none,0))).map (·.1):=by
 unfold SetTable.layClean;rw [Array.foldl_toList]
 rfl
structure Lc (mask:Nat)(ow:Array (Option Nat))(js:List Nat)(hs:LI):Prop where
 sz:ow.size=mask+1
 len:js.length=hs.length
 at_:∀(q j:Nat),js[q]?=some j↔ow[j]?=some (some q)
 rch:∀(q:Nat)(h:Int)(j:Nat),hs[q]?=some h->js[q]?=some j->∃n,(GJ mask n (st0 mask h)).j=j/\∀r,r<n->ow[(GJ mask r (st0 mask h)).j]?≠some none
theorem Lc.nil (mask:Nat):Lc mask (Array.replicate (mask+1) none) [] []:=
 ⟨Array.size_replicate,rfl,λq j=>⟨λz=>by simp at z,λz=>by
  rw [Array.getElem?_replicate] at z;split at z <;> simp at z⟩,λq h j z=>by simp at z⟩
theorem Lc.step (L:Lc mask D Y B)(hc:XZ (mask+1)=true)(hl:B.length<=mask)(h:Int) :
  ∃j,X3 mask (some (D,B.length)) h=some (D.setIfInBounds j (some B.length),B.length+1)/\Lc mask (D.setIfInBounds j (some B.length)) (Y++[j]) (B++[h]):=by
 have Z:=L.len;obtain ⟨j0,ac,ad⟩:=Vr (mask:=mask) (l:=Y) (by lia);have e0:D[j0]?=some none:=by
  have aa:j0<D.size:=by rw [L.sz];lia
  rw [Ybe aa];cases q:D[j0] with
  | none=>rfl
  | some k=>
   exact absurd (Yaz ((L.at_ k j0).mpr (by rw [Ybe aa,q]))) ad
 obtain ⟨m,hm,em⟩:=WK hc h ac;obtain ⟨n,g1,g2,g3⟩:=WL L.sz (SetTable.turns mask) (SetTable.bits h % (mask+1)) (SetTable.bits h) (Vq _ _) ⟨m,by unfold SetTable.turns;lia,by rw [em];exact e0⟩;have ae:rs mask (SetTable.bits h % (mask+1)) (SetTable.bits h)=st0 mask h:=rfl;rw [ae] at g1 g2 g3;have O:(GJ mask n (st0 mask h)).j<D.size:=by rw [L.sz];have:=Zag mask n h;lia
 refine ⟨(GJ mask n (st0 mask h)).j,?_,?_⟩
 ·unfold X3;rw [Option.bind_some,g1]
  rfl
 ·generalize hj:(GJ mask n (st0 mask h)).j=j at g2 O ⊢;have U:∀x,(D.setIfInBounds j (some B.length))[x]?=if j=x then some (some B.length) else D[x]?:=λx=>by
   rw [Array.getElem?_setIfInBounds,if_pos O]
  have af:j ∉ Y:=λhm=>by
   obtain ⟨q,hq,e⟩:=Yck hm;have:=(L.at_ q j).mp (by rw [Yaw hq,e]);rw [g2] at this;cases this
  have ab:∀x,D[x]?≠some none->(D.setIfInBounds j (some B.length))[x]?≠some none:=λx N=>by
   rw [U];split
   ·simp
   ·exact N
  refine ⟨by rw [Array.size_setIfInBounds];exact L.sz,by simp [Z],λq x=>?_,λq g x e1 e2=>?_⟩
  ·rw [U];by_cases hq:q<Y.length
   ·rw [Ycx hq];by_cases N:j=x
    ·rw [if_pos N];constructor
     ·intro z;exact absurd (N▸Yaz z) af
     ·intro z;have:B.length=q:=by simpa using z
      lia
    ·rw [if_neg N];exact L.at_ q x
   ·rw [Ydv (by lia)];by_cases N:j=x
    ·rw [if_pos N];by_cases ag:q=Y.length
     ·subst ag;simp [N,Z]
     ·constructor
      ·intro z;have:([j]:List Nat)[q-Y.length]?=none:=List.getElem?_eq_none (by simp;lia);rw [this] at z;cases z
      ·intro z;have:B.length=q:=by simpa using z
       lia
    ·rw [if_neg N];constructor
     ·intro z;have:=Yaz z;simp at this;exact absurd this.symm N
     ·intro z;have:=(L.at_ q x).mpr z;rw [List.getElem?_eq_none (by lia)] at this;cases this
  ·by_cases hq:q<B.length
   ·rw [Ycx hq] at e1;rw [Ycx (by lia)] at e2;obtain ⟨n',r1,r2⟩:=L.rch q g x e1 e2;exact ⟨n',r1,λr hr=>ab _ (r2 r hr)⟩
   ·rw [Ydv (by lia)] at e1 e2;have h1:=Yaz e1;have h2:=Yaz e2;simp at h1 h2;subst h1 h2;exact ⟨n,hj,λr hr=>ab _ (g3 r hr)⟩
theorem Zaj {mask:Nat}(N:XZ (mask+1)=true):∀(rest:LI)(ow:Array (Option Nat))(js:List Nat)(hs:LI),Lc mask ow js hs->hs.length+rest.length<=mask ->
  ∃q B,rest.foldl (X3 mask) (some (ow,hs.length))=some (q,(hs++rest).length)/\Lc mask q B (hs++rest)
 | [],ow,js,hs,L,_=>⟨ow,js,by simp,by simpa using L⟩
 | h::rest,ow,js,hs,L,hl=>by
  rw [Ybo] at hl;obtain ⟨j,e,L'⟩:=L.step N (by lia) h;obtain ⟨q,B,O,D⟩:=Zaj N rest _ _ (hs++[h]) L' (by simp;lia);refine ⟨q,B,?_,by simpa using D⟩;rw [List.foldl_cons,e];have U:(hs++[h]).length=hs.length+1:=by simp
  rw [U] at O;rw [O];simp
theorem Uj {α β:Type}(f:α->Option β):∀(l:List α),(∀x∈l,(f x).isSome=true)->∀r:Nat,(l.filterMap f)[r]?=(l[r]?).bind f
 | [],_,r=>by simp
 | x::l,h,r=>by
  obtain ⟨y,hy⟩:=Yeh.mp (h x (Ybj));rw [List.filterMap_cons_some hy];cases r with
  | zero=>simp [hy]
  | succ r=>
   rw [Yfg,Yfg];exact Uj f l (λz j=>h z (Ybf _ j)) r
structure Zis (t:SetTable)(od:Array Nat)(mask finger moves:Nat)(led plain:Bool)(qY:Array Int):Prop where
 tm:t.mask=mask
 tl:t.led=led
 tp:t.plain=plain
 td:t.dummies=#[]
 rise:Rise t.place
 le:∀j∈t.place.toList,j<=mask
 perm:od.toList.Perm (List.range qY.size)
 sz:t.place.size=qY.size
 rch:∀(r q j:Nat)(h:Int),od[r]?=some q->t.place[r]?=some j->qY[q]?=some h->∃n,(GJ mask n (st0 mask h)).j=j/\∀r',r'<n->(GJ mask r' (st0 mask h)).j∈t.place.toList
theorem Zak (hc:XZ (mask+1)=true)(B D:Nat)(ab plain:Bool)(Y:Array Int)(hz:Y.size<=mask) :
  ∃t od,SetTable.laid mask B D ab plain Y=some (t,od)/\Zis t od mask B D ab plain Y:=by
 obtain ⟨Z,js,e,L⟩:=Zaj hc Y.toList _ [] [] (Lc.nil mask) (by simpa using hz);simp only [List.nil_append,List.length_nil] at e L;have hn:js.length=Y.size:=by rw [L.len,Yan]
 have e':SetTable.layClean mask Y=some Z:=by rw [VY,e];rfl
 generalize hlive:(List.range (mask+1)).filterMap (λj=>(Z.getD j none).map (j,·))=live;have mem:∀j q,(j,q)∈live↔j<=mask/\Z[j]?=some (some q):=by
  intro j q;rw [<-hlive,Ydk];constructor
  ·rintro ⟨a,ha,U⟩;have am:=Ycc.mp ha;have N:a<Z.size:=by rw [L.sz];lia
   rw [Yeq,Ybe N] at U;cases hq:Z[a] with
   | none=>rw [hq] at U;cases U
   | some k=>
    rw [hq] at U;have aa:(a,k)=(j,q):=Ybk U;cases aa;exact ⟨by lia,by rw [Ybe N,hq]⟩
  ·rintro ⟨h1,h2⟩;refine ⟨j,Ycc.mpr (by lia),?_⟩;rw [Yeq,h2]
   rfl
 have ac:(live.map (·.1)).Pairwise (· < ·):=by
  rw [Ybp,<-hlive];refine List.Pairwise.filterMap (R:=(· < ·)) _ (λa a' ad b U b' aa=>?_) List.pairwise_lt_range;obtain ⟨x,_,rfl⟩:=Ybt.mp U;obtain ⟨x',_,rfl⟩:=Ybt.mp aa;exact ad
 have ae:(live.map (·.2)).Nodup:=by
  unfold List.Nodup;rw [Ybp];have:=List.Pairwise.and_mem.mp (Ybp.mp ac);refine this.imp λ{a b} af z=>?_;obtain ⟨ha,U,an⟩:=af;have h1:=(L.at_ a.2 a.1).mpr ((mem a.1 a.2).mp ha).2;have h2:=(L.at_ b.2 b.1).mpr ((mem b.1 b.2).mp U).2;rw [z,h2] at h1;have:=Ybk h1
  lia
 have O:(live.map (·.2)).Perm (List.range Y.size):=by
  refine (List.perm_ext_iff_of_nodup ae List.nodup_range).mpr λq=>?_;rw [Ycc,Yai];constructor
  ·rintro ⟨⟨j,q'⟩,hm,rfl⟩;have h1:=(L.at_ q' j).mpr ((mem j q').mp hm).2;have:=(Yal.mp h1).1;show q'<_
   lia
  ·intro hq;have ag:q<js.length:=by lia
   have h1:=(L.at_ q js[q]).mp (Yaw ag);have h2:=(Yfu.mp h1).1;rw [L.sz] at h2;exact ⟨(js[q],q),(mem _ _).mpr ⟨by lia,h1⟩,rfl⟩
 refine ⟨_,_,by unfold SetTable.laid;rw [e'];rfl,rfl,rfl,rfl,rfl,?_,?_,?_,?_,?_⟩
 ·unfold Rise;dsimp only;rw [hlive];exact ac
 ·dsimp only;rw [hlive];intro j hj;obtain ⟨⟨a,q⟩,hm,rfl⟩:=Yai.mp (show j∈live.map (·.1) from hj);exact ((mem a q).mp hm).1
 ·dsimp only;rw [hlive];exact O
 ·dsimp only;rw [hlive,Yas,Yac];have:=O.length_eq;rw [Yac,Ydg] at this;exact this
 ·dsimp only;rw [hlive];intro r q j h e1 e2 e3;rw [List.getElem?_toArray,Yay] at e1 e2;cases hl:live[r]? with
  | none=>rw [hl] at e1;cases e1
  | some x=>
   rw [hl] at e1 e2;have ah:x.2=q:=Ybk e1;have ai:x.1=j:=Ybk e2;subst ah ai;have h1:=(L.at_ x.2 x.1).mpr ((mem x.1 x.2).mp (Yaz hl)).2;obtain ⟨n,r1,r2⟩:=L.rch x.2 h x.1 (by rw [Yba];exact e3) h1;refine ⟨n,r1,λr' aj=>?_⟩;have h2:=r2 r' aj;have ak:=Zag mask r' h;have N:(GJ mask r' (st0 mask h)).j<Z.size:=by rw [L.sz];lia
   rw [Ybe N] at h2;cases hq:Z[(GJ mask r' (st0 mask h)).j] with
   | none=>rw [hq] at h2;exact absurd rfl h2
   | some k=>
    show _∈live.map (·.1);exact Yai.mpr ⟨(_,k),(mem _ _).mpr ⟨ak,by rw [Ybe N,hq]⟩,rfl⟩
noncomputable def ins {α:Type}(l:List α)(p:Nat)(x:α):List α:=l.take p++x::l.drop p
theorem X4 {α:Type}{l:List α}{x:α}(q:p<=l.length)(i:Nat):(ins l p x)[i]?=if i<p then l[i]? else if i=p then some x else l[i-1]?:=by
 unfold ins;have j:(l.take p).length=p:=by rw [Ybn];lia
 by_cases h:i<p
 ·rw [if_pos h,Ycx (by lia),Yer,if_pos h]
 ·rw [if_neg h,Ydv (by lia),j];by_cases h':i=p
  ·subst h';simp
  ·rw [if_neg h'];have e:i-p=(i-p-1)+1:=by lia
   rw [e,Yfg,Yes]
   congr 1
   lia
theorem VZ {α:Type}{l:List α}{x:α}(j:p<=l.length):(ins l p x).length=l.length+1:=by
 unfold ins;simp
 lia
theorem ZdU {α β:Type}(f:α->β)(l:List α)(p:Nat)(x:α):(ins l p x).map f=ins (l.map f) p (f x):=by
 unfold ins;simp
theorem ins_mem {α:Type}{l:List α}{x y:α}:y∈ins l p x↔y=x\/y∈l:=by
 unfold ins;rw [Yak,Yav];constructor
 ·rintro (h | h | h)
  ·exact .inr (Yfv h)
  ·exact .inl h
  ·exact .inr (List.mem_of_mem_drop h)
 ·rintro (h | h)
  ·exact .inr (.inl h)
  ·rw [<-Ydq p l,Yak] at h;rcases h with h | h
   ·exact .inl h
   ·exact .inr (.inr h)
structure TOk (t:SetTable)(hs:LI):Prop where
 mask:t.mask=7\/t.mask=31\/t.mask=127\/t.mask=511\/t.mask=2047
 dum:t.dummies=#[]
 len:t.place.size=hs.length
 rise:Rise t.place
 le:∀j∈t.place.toList,j<=t.mask
 rch:∀(i:Nat)(h:Int)(j:Nat),hs[i]?=some h->t.place[i]?=some j->∃n,(GJ t.mask n (st0 t.mask h)).j=j/\∀q,q<n->(GJ t.mask q (st0 t.mask h)).j∈t.place.toList
theorem TOk.cov (T:TOk t j):XZ (t.mask+1)=true:=by
 rcases T.mask with e | e | e | e | e <;> rw [e]
 ·exact Zir
 ·exact Zfi
 ·exact ZcY
 ·exact ZcZ
 ·exact Zac
theorem TOk.fill (T:TOk t j):t.fill=j.length:=by
 unfold SetTable.fill;rw [T.dum,T.len]
 rfl
theorem TOk.fits (T:TOk t j)(h:j.length<=t.mask):t.fits j.length=true:=by
 unfold SetTable.fits;rw [Ycl,Ybh,decide_eq_true_eq,T.fill];exact ⟨T.len,h⟩
theorem TOk.odd (T:TOk t j):t.gaveWay=false:=by
 unfold SetTable.gaveWay;rcases T.mask with e | e | e | e | e <;> rw [e] <;> rfl
theorem TOk.fresh (f m:Nat)(q:Bool):TOk (SetTable.fresh f m q) []:=
 ⟨.inl rfl,rfl,rfl,List.Pairwise.nil,λj B=>by simp [SetTable.fresh] at B,λi h j e=>by simp at e⟩
theorem TOk.empty (T:TOk t q)(B:q.length<=t.mask)(h:Int):∃n,n+10<10 * SetTable.turns t.mask/\(GJ t.mask n (st0 t.mask h)).j ∉ t.place.toList:=by
 obtain ⟨j,h1,h2⟩:=Vr (mask:=t.mask) (l:=t.place.toList) (by rw [Yan,T.len];exact B);obtain ⟨n,D,L⟩:=Zae T.cov h h1;exact ⟨n,D,by rw [L];exact h2⟩
theorem Zhw {t:SetTable}:(t.put j).2=SetTable.below t.place j:=rfl
theorem J4 {t:SetTable}:(t.put j).1.place.toList=ins t.place.toList (SetTable.below t.place j) j:=by
 show (SetTable.insertAt t.place (SetTable.below t.place j) j).toList=_;rw [SetTable.toList_insertAt]
 rfl
theorem TOk.put (T:TOk t hs)(hn:(GJ t.mask n (st0 t.mask h)).j ∉ t.place.toList)(hr:∀q,q<n->(GJ t.mask q (st0 t.mask h)).j∈t.place.toList) :
  SetTable.below t.place (GJ t.mask n (st0 t.mask h)).j<=hs.length/\TOk (t.put (GJ t.mask n (st0 t.mask h)).j).1 (ins hs (SetTable.below t.place (GJ t.mask n (st0 t.mask h)).j) h):=by
 have U:=Zag t.mask n h;generalize hj:(GJ t.mask n (st0 t.mask h)).j=j at hn U ⊢;obtain ⟨b1,b2,b3⟩:=O7 (j:=j) T.rise;have hb:SetTable.below t.place j<=hs.length:=by rw [<-T.len];exact b1
 have Y:SetTable.below t.place j<=t.place.toList.length:=by rw [Yan];exact b1
 have pm:∀x,x∈t.place.toList->x∈(t.put j).1.place.toList:=λx N=>by rw [J4];exact ins_mem.mpr (.inr N)
 refine ⟨hb,T.mask,?_,?_,?_,λx N=>?_,λi g x D L=>?_⟩
 ·show (if SetTable.has t.dummies j=true then SetTable.eraseAt t.dummies (SetTable.below t.dummies j) else t.dummies)=#[];rw [T.dum];have e:SetTable.has #[] j=false:=by unfold SetTable.has;simp
  rw [e]
  rfl
 ·rw [VZ hb,<-Yan,J4,VZ Y,Yan,T.len]
 ·unfold Rise;rw [J4];unfold ins;rw [Ycb];refine ⟨List.Pairwise.sublist (List.take_sublist _ _) T.rise,?_,λa ha b B=>?_⟩
  ·refine Yej.mpr ⟨λb B=>?_,List.Pairwise.sublist (List.drop_sublist _ _) T.rise⟩;obtain ⟨k,Z,e⟩:=Yck B;rw [List.getElem_drop] at e;rw [Yei] at Z;have O:t.place[SetTable.below t.place j+k]?=some b:=by
    rw [<-Yba,Yaw (by lia),e]
   have h1:=b3 _ _ (Nat.le_add_right _ _) O;have h2:j≠b:=λz=>hn (z▸JR O)
   lia
  ·have aa:a<j:=by
    obtain ⟨k,Z,e⟩:=Yck ha;rw [List.getElem_take] at e;rw [Ybn] at Z;have O:t.place[k]?=some a:=by rw [<-Yba,Yaw (by lia),e]
    exact b2 k a (by lia) O
   rcases Yav.mp B with rfl | B
   ·exact aa
   ·obtain ⟨k,Z,e⟩:=Yck B;rw [List.getElem_drop] at e;rw [Yei] at Z;have O:t.place[SetTable.below t.place j+k]?=some b:=by
     rw [<-Yba,Yaw (by lia),e]
    have h1:=b3 _ _ (Nat.le_add_right _ _) O
    lia
 ·rw [J4] at N;rcases ins_mem.mp N with rfl | N
  ·exact U
  ·exact T.le x N
 ·rw [<-Yba,J4,X4 Y] at L;rw [X4 hb] at D;by_cases c1:i<SetTable.below t.place j
  ·rw [if_pos c1] at D L;obtain ⟨m,r1,r2⟩:=T.rch i g x D (by rw [<-Yba];exact L);exact ⟨m,r1,λq hq=>pm _ (r2 q hq)⟩
  ·rw [if_neg c1] at D L;by_cases c2:i=SetTable.below t.place j
   ·rw [if_pos c2] at D L;cases D;cases L;exact ⟨n,hj,λq hq=>pm _ (hr q hq)⟩
   ·rw [if_neg c2] at D L;obtain ⟨m,r1,r2⟩:=T.rch (i-1) g x D (by rw [<-Yba];exact L);exact ⟨m,r1,λq hq=>pm _ (r2 q hq)⟩
noncomputable abbrev ZbZ (es:Array (Int×Aa)):LI:=es.toList.map (·.1)
structure SOk (t:SetTable)(es:Array (Int×Aa)):Prop where
 T:TOk t (ZbZ es)
 room:es.size * 5<t.mask * 3
theorem Jl (es:Array (Int×Aa)):(ZbZ es).length=es.size:=by rw [Yac,Yan]
theorem SOk.le (S:SOk t es):(ZbZ es).length<=t.mask:=by
 have:=S.room;rw [Jl]
 lia
theorem SOk.fits (S:SOk t es):t.fits es.size=true:=by
 have:=S.T.fits S.le;rw [Jl] at this;exact this
theorem SOk.fresh (f m:Nat)(j:Bool):SOk (SetTable.fresh f m j) #[]:=⟨TOk.fresh f m j,by show 0 * 5<7 * 3;decide⟩
theorem Xk (es:Array (Int×Aa))(p:Nat)(h:Int)(x:Aa):ZbZ (SetTable.insertAt es p (h,x))=ins (ZbZ es) p h:=by
 unfold ZbZ;rw [SetTable.toList_insertAt];exact ZdU (·.1) es.toList p (h,x)
theorem V0 (es:Array (Int×Aa))(p:Nat)(x:Int×Aa):(SetTable.insertAt es p x).size=es.size+1:=by
 rw [<-Yan,(SetTable.insertAt_perm es p x).length_eq,Yan,Ycq]
theorem SOk.put (S:SOk t es)(x:Aa)(D:(GJ t.mask n (st0 t.mask h)).j ∉ t.place.toList)(L:∀q,q<n->(GJ t.mask q (st0 t.mask h)).j∈t.place.toList) :
  TOk (t.put (GJ t.mask n (st0 t.mask h)).j).1 (ZbZ (SetTable.insertAt es (t.put (GJ t.mask n (st0 t.mask h)).j).2 (h,x)))/\(t.put (GJ t.mask n (st0 t.mask h)).j).1.fits (es.size+1)=true:=by
 obtain ⟨h1,h2⟩:=S.T.put D L;rw [Zhw,Xk];refine ⟨h2,?_⟩;have B:=h2.fits (by rw [VZ h1,Jl];show es.size+1<=t.mask;have:=S.room;rcases S.T.mask with e | e | e | e | e <;> lia);rw [VZ h1,Jl] at B;exact B
theorem WM {es:Array (Int×Aa)}{j:Array Nat}(h:j.toList.Perm (List.range es.size))(r:Nat):(j.filterMap (es[·]?))[r]?=(j[r]?).bind (es[·]?):=by
 rw [<-Yba,Array.toList_filterMap,Uj _ _ (λx q=>?_),Yba];have:=Ycc.mp (h.mem_iff.mp q);rw [Ybe this]
 rfl
theorem JP {es:Array (Int×Aa)}{j:Array Nat}(h:j.toList.Perm (List.range es.size)):(j.filterMap (es[·]?)).toList.Perm es.toList:=by
 rw [Array.toList_filterMap];exact (h.filterMap _).trans (by rw [PySem.filterMap_getElem?_range])
theorem Zb0 (T:TOk t (ZbZ es))(hn:es.size=5/\t.mask=7\/es.size=19/\t.mask=31\/es.size=77/\t.mask=127\/es.size=307/\t.mask=511) :
  ∃O D,t.relaid (es.map (·.1)) (SetTable.grown es.size)=some (O,D)/\D.toList.Perm (List.range es.size)/\SOk O (D.filterMap (es[·]?))/\O.led=t.led/\O.plain=t.plain/\SetTable.sizeAbove (SetTable.grown es.size)<=2048:=by
 have N:(es.map (·.1)).size=es.size:=Array.size_map;have hm:∃m,SetTable.sizeAbove (SetTable.grown es.size)-1=m/\(m=31\/m=127\/m=511\/m=2047)/\es.size * 5<m * 3/\SetTable.sizeAbove (SetTable.grown es.size)<=2048:=by
  rcases hn with ⟨e,_⟩ | ⟨e,_⟩ | ⟨e,_⟩ | ⟨e,_⟩ <;> rw [e]
  ·exact ⟨31,by decide,.inl rfl,by decide,by decide⟩
  ·exact ⟨127,by decide,.inr (.inl rfl),by decide,by decide⟩
  ·exact ⟨511,by decide,.inr (.inr (.inl rfl)),by decide,by decide⟩
  ·exact ⟨2047,by decide,.inr (.inr (.inr rfl)),by decide,by decide⟩
 obtain ⟨m,e,U,jJ,Y⟩:=hm;have hc:XZ (m+1)=true:=by
  rcases U with rfl | rfl | rfl | rfl
  ·exact Zfi
  ·exact ZcY
  ·exact ZcZ
  ·exact Zac
 obtain ⟨O,D,e2,L⟩:=Zak hc t.finger (t.movedTo m) t.led t.plain (es.map (·.1)) (by rw [N];lia);have Z:=L.perm;rw [N] at Z;refine ⟨O,D,by unfold SetTable.relaid;rw [e];exact e2,Z,⟨⟨by rw [L.tm];exact .inr U,L.td,?_,L.rise,by rw [L.tm];exact L.le,λi h j e1 e3=>?_⟩,?_⟩,L.tl,L.tp,Y⟩
 ·rw [L.sz,N,Jl];have:=(JP Z).length_eq;rw [Yan,Yan] at this;exact this.symm
 ·rw [L.tm];have B:((D[i]?).bind (es[·]?)).map (·.1)=some h:=by
   rw [<-WM Z,<-Yba,<-Yay];exact e1
  cases hq:D[i]? with
  | none=>rw [hq] at B;cases B
  | some q=>
   rw [hq] at B;exact L.rch i q j h hq e3 (by rw [Array.getElem?_map];exact B)
 ·rw [L.tm];have:=(JP Z).length_eq;rw [Yan,Yan] at this;rw [this];exact jJ
theorem Zal (S:SOk t es)(L:es.size+1<=1228)(D:TOk j B)(N:B.length=es.size+1)(O:j.mask=t.mask) :
  (j.tooFull=true/\(es.size+1=5/\j.mask=7\/es.size+1=19/\j.mask=31\/es.size+1=77/\j.mask=127\/es.size+1=307/\j.mask=511))\/(j.tooFull=false/\(es.size+1) * 5<j.mask * 3):=by
 have U:=S.room;have e:j.tooFull=decide ((es.size+1) * 5>=j.mask * 3):=by
  unfold SetTable.tooFull;rw [D.fill,N]
 rw [e];by_cases h:(es.size+1) * 5>=j.mask * 3
 ·refine .inl ⟨Yau h,?_⟩;rcases D.mask with q | q | q | q | q
  ·left;lia
  ·right;left;lia
  ·right;right;left;lia
  ·right;right;right;lia
  ·lia
 ·exact .inr ⟨Ybl h,by lia⟩
end L2
namespace L2
open PySem PySem.Spec PyProof.Rows
theorem sit_slot_next:Slot "set_iterator" "__next__" "set_iterator.__next__" := by
 refine .of (owner := "set_iterator") (n := "__next__") ?_ (by decide +kernel) (by decide +kernel) (by decide +kernel) ?_ ?_
 ·rw [typeLookup_type,builtinLookup_eq_fast];kernel_rfl
 ·first | exact .inl (by decide +kernel) | exact .inr (by decide +kernel)
 ·rw [isSubtype_type];kernel_rfl
theorem OL:Slot "set_iterator" "__iter__" "set_iterator.__iter__" := by
 refine .of (owner := "set_iterator") (n := "__iter__") ?_ (by decide +kernel) (by decide +kernel) (by decide +kernel) ?_ ?_
 ·rw [typeLookup_type,builtinLookup_eq_fast];kernel_rfl
 ·first | exact .inl (by decide +kernel) | exact .inr (by decide +kernel)
 ·rw [isSubtype_type];kernel_rfl
theorem Op:entryFor table "set_iterator.__next__" = some Builtin.«set_iterator.__next__»:=by
 first | exact entryFor_of_tree (by kernel_rfl) | exact entryFor_of_fast (by kernel_rfl)
theorem OM (a:Aa):argsOk "set_iterator.__next__" ⟨[a],[]⟩:=by
 unfold argsOk;kernel_rfl
theorem Ve:entryFor table "set.__iter__" = some Builtin.«frozenset.__iter__»:=by
 first | exact entryFor_alias (id' := "frozenset.__iter__") (by kernel_rfl) (by decide +kernel) (by decide +kernel) (by kernel_rfl) | exact entryFor_alias (id' := "frozenset.__iter__") (by kernel_rfl) rfl (by decide +kernel) (by kernel_rfl)
noncomputable def J5 (w:Ab):Bool:=w.params.followText "set-order"
section
variable {P:PP}{w:Ab}{A:Around}{E:Aa->SS->Prop}{s:SS}
theorem UU (h:Q (J5 w) s):wpAny (model P w) A setsByText Q E s:=by
 unfold setsByText;exact Yaa (wpAny_askSetting (Yab h))
theorem WN {h:Heap}(B:h.get? a=some o)(q:o.data=.set es ep t)(j:Array (Int×Aa))(t':SetTable) :
  (h.update a (Obj.putSet j t')).get? a=some { o with data:=.set j (ep+1) t' }:=by
 have:=Yfh (Obj.putSet j t') B (by rw [putSet_of j t' q];rfl);rw [putSet_of j t' q] at this;exact this
noncomputable def Jc (w:Ab):Obj:={ cls:=.type "set", dict:=none,data:=.set #[] 0 (.fresh 0 0 (!J5 w)) }
theorem Zb1 (a:Aa)(h:Q1 (.ref s.heap.objs.size) { s with heap:=s.heap.push (Jc w) }) :
  codeAny (model P w) A (.call (.builtin "set.__new__") ⟨[.type "set", a],[]⟩) (wants Q1 E) s:=by
 apply codeAny_of_tree;show wpAny _ A.in1 (checkBuiltinCall "set.__new__" ⟨[.type "set", a],[]⟩ >>= λ_=>again (.builtin "set.__new__" ⟨[.type "set", a],[]⟩)) _ _ s;apply Yaa;apply wpAny_of_eq (F.newCall_set_1 a);refine Yab ⟨Yed F.plain_set_new _,?_⟩;apply Ycz F.entry_set_new;rw [Ydx F.plain_set_new _];unfold Builtin.«set.__new__» Builtin.Frozenset.newClass;have j:=sub_set_self;obtain ⟨q,g,d,tk,B⟩:=s;dsimp only
 wp_walk
 apply wpAny_askSetting;apply Yab;dsimp only;simp only [newObj];apply Yaa;apply wpAny_alloc;apply Yab;apply Yab;exact h
theorem Zb2 {St:Nat->SS->Prop}(W:WalksS P w A.in1 I fp wr G n Pv St)(S:AD)(D:S ∉ fp)(J:Nat->Obj->Prop)(Kp:Heap->Prop)(hK:∀h h':Heap,Kp h->(∀b o,b ∉ S::wr->h.get? b=some o->h'.get? b=some o)->Kp h')(L:∀(i:Nat)(v:Aa)(s1:SS)(o:Obj)(Q:Bool->SS->Prop)(E1:Aa->SS->Prop),i<n->Pv i v->Kp s1.heap->s1.heap.get? S=some o->J i o ->
   (∀(b:Bool)(h':Heap)(tk:Nat)(o':Obj),s1.toks<=tk->Heap.SameBut S s1.heap h'->h'.get? S=some o'->J (i+1) o'->Q b { s1 with heap:=h',toks:=tk })->wpAny (model P w) A.in1 (setAdd S v) Q E1 s1) :
  ∀(k i:Nat)(s:SS)(o:Obj),n-i=k->i<=n->St i s->Kp s.heap->s.heap.get? S=some o->J i o ->
   (∀(s':SS)(o':Obj),Moved (S::wr) G s s'->s'.heap.get? S=some o'->J n o'->R (.ok (.ret .none)) s') ->
   codeAny (model P w) A (.builtin "set.update.loop" ⟨[.ref S,.ref I],[]⟩) R s:=by
 have N:S ∉ wr:=λz=>D (W.sub _ z);have Z:∀b∈wr,b∈S::wr:=λb z=>Ybf _ z;intro k
 induction k with
 | zero=>
  intro i s o hk hi st kp ho hj hR;have e:i=n:=by lia
  subst e;apply Ycz PyProof.Rows.F.entry_set_update_loop;rw [Ydx PyProof.Rows.F.plain_set_update_loop _];apply Yaa;refine W.done s _ _ st λs1 B=>?_;apply Yab;exact hR s1 o (B.mono Z) (B.heap S _ N ho) hj
 | succ k ih=>
  intro i s o hk hi st kp ho hj hR;have j:i<n:=by lia
  apply Ycz PyProof.Rows.F.entry_set_update_loop;rw [Ydx PyProof.Rows.F.plain_set_update_loop _];apply Yaa;refine W.item i s _ _ j st λv s1 hv aa B=>?_;have ab:=B.heap S _ N ho;have O:Kp s1.heap:=hK _ _ kp λb o' q e=>B.heap b o' (λz=>q (Z _ z)) e;apply Yaa;apply Ycd;refine L i v s1 o _ _ j hv O ab hj λb h' tk o' U sb ac ad=>?_;refine Yab ⟨Yed PyProof.Rows.F.plain_set_update_loop _,ih (i+1) _ o' (by lia) j (W.frame _ s1 _ _ aa U λb q Y e=>?_) (hK _ _ O λb Y q e=>?_) ac ad λs2 Y ae af ag=>?_⟩
  ·rw [sb.2 b (λz:b=S=>D (z▸q))];exact e
  ·show h'.get? b=some Y;rw [sb.2 b (λz:b=S=>q (by rw [z];exact Ybj))];exact e
  ·refine hR s2 Y (Moved.trans W.gtrans ((B.mono Z).then_heap U λb o3 q e=>?_) ae) af ag;rw [sb.2 b (λz:b=S=>q (by rw [z];exact Ybj))];exact e
theorem Zam (hh:A.handled=none)(hl:s.heap.IsList l items)(J:Nat->Obj->Prop)(Kp:Heap->Prop)(h0:J 0 (Jc w))(ag:∀h':Heap,(∀b o,b<s.heap.objs.size->s.heap.get? b=some o->h'.get? b=some o)->Kp h')(O:∀(i:Nat)(v:Aa)(s1:SS)(o:Obj)(Q:Bool->SS->Prop)(E1:Aa->SS->Prop),i<items.size->items[i]?=some v->Kp s1.heap->s1.heap.get? s.heap.objs.size=some o->J i o ->
   (∀(b:Bool)(h':Heap)(tk:Nat)(o':Obj),s1.toks<=tk->Heap.SameBut s.heap.objs.size s1.heap h'->h'.get? s.heap.objs.size=some o'->J (i+1) o'->Q b { s1 with heap:=h',toks:=tk })->wpAny (model P w) A.in1.in1.in1 (setAdd s.heap.objs.size v) Q E1 s1)(h:∀(h':Heap)(tk:Nat)(o':Obj),h'.get? s.heap.objs.size=some o'->J items.size o'->(∀b o,b<s.heap.objs.size->s.heap.get? b=some o->h'.get? b=some o)->Q (.ref s.heap.objs.size) { s with heap:=h',toks:=tk }) :
  wpAny (model P w) A (call (.type "set") [.ref l]) Q E s:=by
 obtain ⟨c,tl,aq⟩:=F.called_set.mro;have ah:=F.called_set.made;have ar:=F.called_set.sub;apply wpAny_call;apply codeAny_of_tree;show wpAny _ _ (callAny (.type "set") _) _ _ _;refine Yab ⟨Code.quiet_builtin _ (by decide +kernel),?_⟩;apply Ycz F.entry_type_call;rw [Around.under_plain (weight_type_call_type "set" [.ref l] []) rfl];have h1:=F.called_set.notType;have h2:=F.called_set.canCreate;have aw:=F.typeCall_set_1 (.ref l)
 repeat (any_goals (first | assumption | wp_step))
 refine codeAny_mono (Zb1 (.ref l) (E:=E) (Q1:=λU s1=>U=.ref s.heap.objs.size/\s1={ s with heap:=s.heap.push (Jc w) }) ⟨rfl,rfl⟩) λr s1 hr=>?_;cases r with
 | error e=>exact hr
 | ok fl=>
  cases fl with
  | ret U=>
   obtain ⟨rfl,rfl⟩:=hr;have hS:(s.heap.push (Jc w)).get? s.heap.objs.size=some (Jc w):=Ybb _ rfl;have hT:Shared.TypeIs { s with heap:=s.heap.push (Jc w) } (.ref s.heap.objs.size) "set" := ⟨_,hS,rfl⟩;have ax:=F.called_set.init.lookup;have ay:=F.called_set.init.bind (.ref s.heap.objs.size)
   repeat (any_goals (first | assumption | wp_step))
   refine codeAny_mono (codeAny_call_builtin (R:=wants (λr s2=>r=.none/\∃(h':Heap)(tk:Nat)(o':Obj),s2={ s with heap:=h',toks:=tk }/\h'.get? s.heap.objs.size=some o'/\J items.size o' /\
     (∀b o,b<s.heap.objs.size->s.heap.get? b=some o->h'.get? b=some o)) E) F.called_set.init.plain F.entry_set_init (check_set_init_1 hT ?_)) λr2 s2 q=>?_
   ·obtain ⟨ol,Y,Z,nl,aa⟩:=hl;obtain ⟨as,B,ai,j⟩:=ol;simp only at Z aa;subst Z;subst aa;have ab:(s.heap.push (Jc w)).get? l=some { cls:=.type "list", dict:=B,data:=.seq items nl,slots:=j }:=Yah _ Y;have au:=F.sub_list_set;have av:=F.sub_list_frozenset;have az:(Value.type "list" == Value.type "dict")=false:=by decide
    have ac:(s.heap.push (Jc w)).IsList l items:=⟨_,ab,rfl,nl,rfl⟩;have a1:(s.heap.push (Jc w)).get? s.heap.objs.size=some { cls:=.type "set", dict:=none,data:=.set #[] 0 (.fresh 0 0 (!J5 w)) }:=hS;unfold Builtin.«set.__init__» noKeywords Builtin.Frozenset.updateFrom;generalize hPI:pyIter=PI
    wp_walk
    subst hPI;apply wpAny_pyIter_list ac;apply Yaa;apply wpAny_runValue;have ad:l<s.heap.objs.size:=Yag Y;have aj:A.in1.in1.in1.handled=none:=by simp [hh]
    have hz:(s.heap.push (Jc w)).objs.size=s.heap.objs.size+1:=Ybz ..;have ae:l≠(s.heap.push (Jc w)).objs.size:=by rw [hz];exact Yar (Ydw ad)
    have ak:s.heap.objs.size ∉ [(s.heap.push (Jc w)).objs.size,l]:=by
     rw [hz];intro z;rcases Yav.mp z with z | z
     ·exact Yar (Nat.lt_succ_self _) z
     ·exact Ydj ad (Yaj.mp z)
    have af:∀b o,b<s.heap.objs.size->s.heap.get? b=some o->((s.heap.push (Jc w)).push { cls:=.type "list_iterator", data:=.fields #[.ref l,.int 0 0] }).get? b=some o:=
     λb o _ e=>Yah _ (Yah _ e)
    refine Zb2 ((Walks.list aj _ l ae items).toS) s.heap.objs.size ak J (λh'=>∀b o,b<s.heap.objs.size->s.heap.get? b=some o->h'.get? b=some o) ?_ ?_ (items.size-0) 0 _ (Jc w) (by lia) (Yax _)
     ⟨⟨_,Ybb _ rfl,rfl,rfl⟩,(ac.push _)⟩ af (Yah _ hS) h0 ?_
    ·intro ha hb al am b o D e;refine am b o ?_ (al b o D e);intro z;rcases Yav.mp z with z | z
     ·exact Yar D z
     ·exact Yar (Ydw D) ((Yaj.mp z).trans hz)
    ·intro i v s1 o Q1 E1 hi hv kp ho hj hq;exact O i v s1 o Q1 E1 hi hv (ag _ kp) ho hj hq
    ·intro s' o' hm L N;obtain ⟨h',g',d',an,ao⟩:=s';have eg:g'=s.gens:=hm.gens;have ed:d'=s.drawn:=hm.drawn;have eo:ao=s.os:=hm.os;subst eg;subst ed;subst eo;apply Yab;refine Yab ⟨rfl,h',an,o',rfl,L,N,λb o hb e=>?_⟩;refine hm.heap b o ?_ (Yah _ (Yah _ e));intro z;rcases Yav.mp z with z | z
     ·exact Yar hb z
     ·exact Yar (Ydw hb) ((Yaj.mp z).trans hz)
   ·cases r2 with
    | error e=>exact q
    | ok fl2=>
     cases fl2 with
     | ret r=>
      obtain ⟨rfl,h',tk,o',rfl,L,N,ap⟩:=q
      repeat (any_goals (first | assumption | wp_step))
      exact h _ _ _ L N ap
     | _=>exact q.elim
  | _=>exact hr.elim
theorem Zan {α:Type}(next:Nat->Nat):∀(q k:Nat)(left:List α)(out:Array α),left.length=q->(pickOrder.go next q k left out).toList.Perm (out.toList++left)
 | 0,k,left,out,h=>by
  have:left=[]:=List.length_eq_zero_iff.mp h;subst this;unfold pickOrder.go;simp
 | q+1,k,left,out,h=>by
  have j:next k % left.length<left.length:=Nat.mod_lt _ (by lia)
  unfold pickOrder.go;rw [Yaw j];dsimp only;refine (Zan next q (k+1) _ _ (by rw [List.length_eraseIdx,if_pos j];lia)).trans ?_;rw [Yek];exact XV left out.toList _ _ (Yaw j)
theorem Zao {α:Type}(next:Nat->Nat)(xs:Array α):(pickOrder next xs).toList.Perm xs.toList:=by
 unfold pickOrder;have:=Zan next xs.size 0 xs.toList #[] (by simp)
 simpa using this
noncomputable def ON (t:SetTable):Nat->Nat
 | 0=>0
 | i+1=>t.place.getD i 0+1
theorem YW (L:Rise t.place)(hi:i<=t.place.size):SetTable.below t.place (ON t i)=i:=by
 obtain ⟨b1,U,Y⟩:=O7 (j:=ON t i) L;have lo:∀q a,q<i->t.place[q]?=some a->a<ON t i:=λq a Z ha=>by
  cases i with
  | zero=>lia
  | succ i=>
   have B:i<t.place.size:=by lia
   have e:t.place.getD i 0=t.place[i]:=by rw [Yeq,Ybe B];rfl
   show a<t.place.getD i 0+1;rw [e];by_cases N:q=i
   ·subst N;rw [Ybe B] at ha;cases ha;exact Nat.lt_succ_self _
   ·have:=L.lt (show q<i by lia) ha (Ybe B)
    lia
 have O:∀q a,i<=q->t.place[q]?=some a->ON t i<=a:=λq a Z ha=>by
  cases i with
  | zero=>exact Yax _
  | succ i=>
   have B:i<t.place.size:=by lia
   have e:t.place.getD i 0=t.place[i]:=by rw [Yeq,Ybe B];rfl
   show t.place.getD i 0+1<=a;rw [e];exact L.lt (show i<q by lia) (Ybe B) ha
 rcases Yff (SetTable.below t.place (ON t i)) i with z | z | z
 ·have D:SetTable.below t.place (ON t i)<t.place.size:=by lia
  have h1:=lo _ _ z (Ybe D);have h2:=Y _ _ (Yae _) (Ybe D)
  lia
 ·exact z
 ·have D:i<t.place.size:=by lia
  have h1:=O _ _ (Yae _) (Ybe D);have h2:=U _ _ z (Ybe D)
  lia
noncomputable def SAt (w:Ab)(h:Heap)(a:AD)(es:Array (Int×Aa))(ep:Nat)(t:SetTable):Prop:=
 (∃o,h.get? a=some o/\o.ExactSet/\o.data=.set es ep t)/\SOk t es/\t.plain=true/\t.led=!J5 w
noncomputable def JA (w:Ab)(a:AD)(es:Array (Int×Aa))(ep:Nat):List (Int×Aa):=if J5 w then (pickOrder (w.params.setOrder a ep) es).toList else es.toList
theorem JB (a:AD)(es:Array (Int×Aa))(ep:Nat):(JA w a es ep).Perm es.toList:=by
 unfold JA;split
 ·exact Zao _ _
 ·exact .refl _
noncomputable def Us (w:Ab)(t:SetTable)(i:Nat):Nat:=if J5 w then 0 else ON t i
noncomputable def IsSetIter (w:Ab)(h:Heap)(j a:AD)(t:SetTable)(i n ep:Nat):Prop:=
 ∃o,h.get? j=some o/\o.cls=.type "set_iterator" /\ o.data=.fields #[.int (Us w t i) 0,.int i 0,.ref a,.int n 0,.int ep 0]
theorem IsSetIter.typeIs (h:IsSetIter w s.heap j a t i n ep):s.TypeIs (.ref j) "set_iterator" := let ⟨o,h1,h2,_⟩:=h;⟨o,h1,h2⟩
theorem SAt.typeIs (h:SAt w s.heap a es ep t):s.TypeIs (.ref a) "set" := let ⟨⟨o,h1,h2,_⟩,_⟩:=h;⟨o,h1,h2.1⟩
theorem YX (h:SAt w s.heap a es ep t)(q:∀r:Array (Int×Aa),r.toList=JA w a es ep->Q r s) :
  wpAny (model P w) A (setWalk a) Q E s:=by
 obtain ⟨⟨o,D,U,L⟩,S,B,j⟩:=h;unfold setWalk;apply Yaa;apply Yel D L S.fits;dsimp only;apply Yaa;apply UU;unfold JA at q;cases hb:J5 w with
 | true=>
  rw [hb] at q;rw [if_pos rfl];apply Yaa;apply wpAny_askSetting;exact Yab (q _ rfl)
 | false=>
  rw [hb] at q j;rw [if_neg Yaq];have N:(!t.plain && decide (es.size > 1))=false:=by rw [B];rfl
  show wpAny _ _ (if (!t.plain && decide (es.size > 1))=true then _ else _) _ _ s;rw [N,if_neg Yaq];apply Yaa;show wpAny _ _ (if (!t.led && decide (es.size > 1))=true then _ else _) _ _ s;have O:(!t.led && decide (es.size > 1))=false:=by rw [j];rfl
  rw [O,if_neg Yaq];apply Yab;exact Yab (q es rfl)
theorem Vs (h:SAt w s.heap a es ep t)(hi:i<=es.size)(j:Q (((JA w a es ep)[i]?).map λe=>(e.2,Us w t (i+1))) s):wpAny (model P w) A (setNext a (Us w t i) i ep) Q E s:=by
 obtain ⟨⟨o,N,hx,O⟩,S,B,q⟩:=id h;have qV:t.place.size=es.size:=by rw [S.T.len,Jl]
 unfold setNext;apply Yaa;apply Yel N O S.fits;dsimp only;apply Yaa;apply UU;cases hb:J5 w with
 | true=>
  rw [if_pos rfl,if_neg (by simp)];apply Yaa;refine YX h λr U=>?_;refine Yab ?_;have Y:∀k,Us w t k=0:=λk=>by unfold Us;rw [hb];rfl
  rw [Y] at j ⊢;rw [<-Yba,U];exact j
 | false=>
  rw [hb] at q;rw [if_neg Yaq];have Z:(!t.plain && decide (es.size > 1))=false:=by rw [B];rfl
  show wpAny _ _ (if (!t.plain && decide (es.size > 1))=true then _ else _) _ _ s;rw [Z,if_neg Yaq];apply Yaa;show wpAny _ _ (if (!t.led && !es.isEmpty)=true then _ else _) _ _ s;have e2:(!t.led && !es.isEmpty)=false:=by rw [q];rfl
  rw [e2,if_neg Yaq];apply Yab;have e3:∀k,Us w t k=ON t k:=λk=>by unfold Us;rw [hb];rfl
  rw [e3] at j ⊢;rw [YW S.T.rise (by lia)];have e4:JA w a es ep=es.toList:=by unfold JA;rw [hb];rfl
  rw [e4,Yba] at j;by_cases D:i<es.size
  ·rw [Ybe D] at j ⊢;have L:i<t.place.size:=by lia
   rw [Ybe L];have e5:ON t (i+1)=t.place[i]+1:=by
    show t.place.getD i 0+1=_;rw [Yeq,Ybe L]
    rfl
   rw [e5] at j;exact Yab j
  ·rw [Yft (by lia)] at j ⊢;exact Yab j
theorem SAt.ext (x:SAt w h a es ep t)(k:∀o,h.get? a=some o->h'.get? a=some o):SAt w h' a es ep t:=
 let ⟨⟨o,h1,h2⟩,r⟩:=x;⟨⟨o,k _ h1,h2⟩,r⟩
theorem IsSetIter.ext (x:IsSetIter w h j a t i n ep)(k:∀o,h.get? j=some o->h'.get? j=some o):IsSetIter w h' j a t i n ep:=
 let ⟨o,h1,h2⟩:=x;⟨o,k _ h1,h2⟩
theorem Xl (j:IsSetIter w s.heap B a t i es.size ep)(Y:SAt w s.heap a es ep t)(Z:(JA w a es ep)[i]?=some e)(ab:a≠B)(hq:∀h':Heap,IsSetIter w h' B a t (i+1) es.size ep->Heap.SameBut B s.heap h'->Q (some e.2) { s with heap:=h' }) :
  wpAny (model P w) A (pyNext (.ref B)) Q E s:=by
 obtain ⟨o,N,hc,L⟩:=id j;obtain ⟨⟨oa,O,ac,U⟩,S,ad,aa⟩:=id Y;have ae:(JA w a es ep).length=es.size:=by rw [(JB a es ep).length_eq,Yan]
 have hi:i<es.size:=by
  have:=(Yal.mp Z).1
  lia
 unfold pyNext;apply Yaa;apply Yea;refine Yfd (name:=Str.ofString "__next__") j.typeIs sit_slot_next (Ycy sit_slot_next j.typeIs Op ?_ (OM _));unfold Builtin.«set_iterator.__next__»;apply Yaa;apply Yab;apply Yaa;apply wpAny_fieldsOf N L;dsimp only;apply Yaa;apply wpAny_setEntries_of O U S.fits;rw [if_neg (by simp)];apply Yaa;have hn:=λE1=>Vs (P:=P) (A:=A.in1) (E:=E1) (s:=s) (i:=i) Y (Ycw hi) (Q:=λr s1=>r=some (e.2,Us w t (i+1))/\s1=s) ⟨by rw [Z];rfl,rfl⟩;refine Ybs (by simpa using hn _) (λr s1 hr=>?_) λ_ _ x=>x;obtain ⟨rfl,rfl⟩:=hr;dsimp only;apply Yaa;apply wpAny_setField N L (by simp);have D:=Yfh (Obj.mapFields (·.setIfInBounds 0 (rawInt ((Us w t (i+1):Nat):Int)))) N (Obj.isFreed_of_fields (Obj.data_mapFields L _));have q:=Obj.data_mapFields L (·.setIfInBounds 0 (rawInt ((Us w t (i+1):Nat):Int)));apply Yaa;apply wpAny_setField D q (by simp);refine Yab ⟨_,rfl,Yab (hq _ ⟨_,Yfh _ D (Obj.isFreed_of_fields (Obj.data_mapFields q _)),?_,?_⟩ ((Yet ..).trans (Yet ..)))⟩
 ·rw [Obj.cls_mapFields,Obj.cls_mapFields];exact hc
 ·rw [Obj.data_mapFields q];simp [rawInt]
theorem YY (Z:A.handled=none)(j:IsSetIter w s.heap q a t es.size es.size ep)(L:SAt w s.heap a es ep t)(hq:∀h':Heap,Heap.ExtBut q s.heap h'->Q none { s with heap:=h' }):wpAny (model P w) A (pyNext (.ref q)) Q E s:=by
 obtain ⟨o,N,hc,O⟩:=id j;obtain ⟨⟨oa,B,aa,D⟩,S,ab,U⟩:=id L;have ac:(JA w a es ep).length=es.size:=by rw [(JB a es ep).length_eq,Yan]
 unfold pyNext;apply Yaa;apply Yea;refine Yfd (name:=Str.ofString "__next__") j.typeIs sit_slot_next (Ycy sit_slot_next j.typeIs Op ?_ (OM _));unfold Builtin.«set_iterator.__next__»;apply Yaa;apply Yab;apply Yaa;apply wpAny_fieldsOf N O;dsimp only;apply Yaa;apply wpAny_setEntries_of B D S.fits;rw [if_neg (by simp)];apply Yaa;have hn:=λE1=>Vs (P:=P) (A:=A.in1) (E:=E1) (s:=s) (i:=es.size) L (Yae _) (Q:=λr Y=>r=none/\Y=s) ⟨by rw [List.getElem?_eq_none (by lia)];rfl,rfl⟩;refine Ybs (by simpa using hn _) (λr Y hr=>?_) λ_ _ x=>x;obtain ⟨rfl,rfl⟩:=hr;dsimp only;apply Yaa;apply wpAny_setField N O (by simp);apply Yaa;simp only [newExc,newTuple];apply Yaa;refine Ydt ?_ (by size_fits);refine Yaa (m:=firstArgMember _ _) (wpAny_of_eq (a:=Value.none) (by first | (simp only [firstArgMember];rfl) | rfl) ?_);refine Ydt ?_ (by size_fits);simp only [raiseNew];apply Yaa;apply wpAny_handled;rw [show A.in1.handled=none from Z];refine wpAny_throw ?_;apply Yaa;refine Yfi (b:=true) (T := "StopIteration") ⟨_,Ybb _ rfl,rfl⟩ isSubtype_stop ?_;exact Yab (hq _ (((Yet ..).extBut.push _).push _))
theorem YZ (h:SAt w s.heap a es ep t)(L:Q (.ref s.heap.objs.size) { s with heap:=s.heap.push { cls:=.type "set_iterator", data:=.fields #[.int 0 0,.int 0 0,.ref a,.int es.size 0,.int ep 0] } }):wpAny (model P w) A (pyIter (.ref a)) Q E s:=by
 obtain ⟨⟨o,j,O,q⟩,S,B,D⟩:=id h;refine wpAny_pyIter_slot h.typeIs F.slot_set_iter (Ycy F.slot_set_iter h.typeIs Ve ?_ (F.args_set_iter_1 _));unfold Builtin.«frozenset.__iter__»;apply Yaa;refine Yab ?_;apply Yaa;unfold Builtin.Frozenset.sizeOf;apply Yaa;apply wpAny_setEntries_of j q S.fits;apply Yab;apply Yaa;apply Yaa;apply Yel j q S.fits;dsimp only;apply Yaa;apply UU;apply Yab;have N:(!J5 w && (!t.plain && decide (es.size > 1)))=false:=by rw [B];simp
 show wpAny _ _ (if (!J5 w && (!t.plain && decide (es.size > 1)))=true then _ else _) _ _ _;rw [N,if_neg Yaq];apply Yaa;apply Yab;apply Yaa;apply wpAny_setEpoch_of j q S.fits;apply Yaa;refine Ydt (Yab ⟨_,rfl, "set_iterator", _,⟨_,Ybb _ rfl,rfl⟩,sit_slot_next.lookup,?_⟩);simpa [rawInt] using L
theorem Zb3 (j:s.TypeIs (.ref r) "set")(h:Q false s):wpAny (model P w) A (Builtin.List.listLengthHint (.ref r)) Q E s:=by
 unfold Builtin.List.listLengthHint;apply Yaa;refine wpAny_specialOf j F.slot_set_len.lookup ?_;generalize hid:("set.__len__" : String)=nm
 wp_delta
 rw [show splitId nm=some ("set", "__len__") from by subst hid;decide +kernel];subst hid;apply Yaa;refine Yfi (T := "set") (b:=true) j (by rw [isSubtype_type];kernel_rfl) ?_;refine wpAny_ite_split (λz=>absurd z (by decide)) λ_=>?_;refine wpAny_ite_split (λ_=>?_) λz=>absurd (by decide +kernel) z;apply Yaa;apply Ydz j;exact Yab h
theorem ZdV {a:AD}{es:Array (Int×Aa)}{ep:Nat}{t:SetTable}:W.KdlSrc P w "set" a a es.size (λi v=>∃e,(JA w a es ep)[i]?=some e/\v=e.2) (λh=>SAt w h a es ep t) where
 type:=λ_ h=>h.typeIs
 there:=λ_ h=>by
  obtain ⟨⟨o,ho,_⟩,_⟩:=h;exact ⟨Yag ho,Yag ho⟩
 keep:=λ_ _ h k=>h.ext λo e=>k a (.inl rfl) o e
 notList:=by decide
 notTuple:=by decide
 hint:=λ_ _ _ _ h q=>Zb3 h.typeIs q
 iter:=λA s hh h=>by
  have hlt:a<s.heap.objs.size:=by
   obtain ⟨⟨o,ho,_⟩,_⟩:=h;exact Yag ho
  have hwl:(JA w a es ep).length=es.size:=by rw [(JB a es ep).length_eq,Yan]
  refine ⟨{ cls:=.type "set_iterator", data:=.fields #[.int 0 0,.int 0 0,.ref a,.int es.size 0,.int ep 0] },λi h'=>IsSetIter w h' s.heap.objs.size a t i es.size ep/\SAt w h' a es ep t,λ_ _ q=>YZ h q,?_,?_⟩
  ·refine ⟨λb hb=>?_,λi h1 h2 st k=>⟨st.1.ext λo e=>k _ (by simp) o e,st.2.ext λo e=>k a (by simp) o e⟩,λi s1 Q E hi st hq=>?_,λs1 Q E st hq=>?_,λi s1 Q E st hq=>?_⟩
   ·rw [Yaj.mp hb];exact Ybj
   ·have he:(JA w a es ep)[i]?=some (JA w a es ep)[i]:=Yaw (by lia);refine Xl st.1 st.2 he (Yar hlt) λh' hi' sb=>?_;refine hq _ h' s1.toks ⟨_,he,rfl⟩ ⟨hi',st.2.ext λo e=>?_⟩ λb o hb e=>?_
    ·rw [sb.2 a (Yar hlt)];exact e
    ·rw [sb.2 b (λz=>hb (by rw [z];exact Ybj))];exact e
   ·refine YY hh st.1 st.2 λh' he=>hq h' s1.toks λb o hb e=>he b o (λz=>hb (by rw [z];exact Ybj)) e
   ·refine wpAny_pyIter_slot st.1.typeIs OL (Ycy OL st.1.typeIs (b:=Builtin.«dict_keyiterator.__iter__») ?_ ?_ ?_)
    ·exact entryFor_alias (id' := "dict_keyiterator.__iter__") (by kernel_rfl) rfl (by decide +kernel) (by kernel_rfl)
    ·show wpAny _ _ (ret (Value.ref s.heap.objs.size)) _ _ s1;exact Yab ⟨_,rfl, "set_iterator", _,st.1.typeIs,sit_slot_next.lookup,hq⟩
    ·unfold argsOk;kernel_rfl
  ·refine ⟨⟨_,Ybb _ rfl,rfl,?_⟩,h.ext λo e=>Yah _ e⟩;have:Us w t 0=0:=by unfold Us;split <;> rfl
   rw [this]
   rfl
end
theorem V1 {α:Type}{l:List α}{x y:α}(h:l[i]?=some x):y∈l.take (i+1)↔y∈l.take i\/y=x:=by
 rw [List.take_succ,h];simp
section
variable {P:PP}{w:Ab}{A:Around}{E:Aa->SS->Prop}{s:SS}
theorem WP (h:ItemsAre (intKind P w) ks vs):∀v∈vs,∃i t,v=Value.int i t:=by
 induction h with
 | nil=>intro v j;simp at j
 | @cons k v' ks vs h1 _ ih=>
  intro v j;rcases Yav.mp j with rfl | j
  ·cases v with
   | int i t=>exact ⟨i,t,rfl⟩
   | _=>cases h1
  ·exact ih v j
noncomputable def hAt (es:Array (Int×Aa))(i:Nat):Int:=(es[i]?.map (·.1)).getD 0
end
section
variable {X:Cx}(K:FG)
noncomputable abbrev Tri:=Int×Int×Int
inductive Trs (H:Hp):List V->List Tri->Prop
 | nil:Trs H [] []
 | cons {p:AD} {a b c:Int} {xs:List V} {rs:List Tri}:H p=some (.tup [.int a,.int b,.int c])->Trs H xs rs->Trs H (.ref p::xs) ((a,b,c)::rs)
theorem Trs.len {rs:List Tri}(h:Trs H xs rs):xs.length=rs.length:=by
 induction h with
 | nil=>rfl
 | cons _ _ ih=>rw [Ybo,Ybo,ih]
theorem Trs.snoc {rs:List Tri}(h:Trs H xs rs)(e:H p=some (.tup [.int a,.int b,.int c])):Trs H (xs++[.ref p]) (rs++[(a,b,c)]):=by
 induction h with
 | nil=>exact .cons e .nil
 | cons e1 _ ih=>exact .cons e1 ih
theorem Trs.keep {rs:List Tri}(h:Trs H xs rs)(k:∀p ys,H p=some (.tup ys)->H' p=some (.tup ys)):Trs H' xs rs:=by
 induction h with
 | nil=>exact .nil
 | cons e1 _ ih=>exact .cons (k _ _ e1) ih
theorem Trs.same {rs:List Tri}(h:Trs H xs rs)(k:Same H H'):Trs H' xs rs:=h.keep λp ys e=>k p _ e
theorem Trs.get {rs:List Tri}(g:Trs H xs rs){i:Nat}(h:xs[i]?=some x):∃t r,x=.ref t/\H t=some (.tup [.int r.1,.int r.2.1,.int r.2.2])/\rs[i]?=some r:=by
 induction g generalizing i with
 | nil=>simp at h
 | cons e _ ih=>cases i with
  | zero=>
   simp at h;subst h;exact ⟨_,(_,_,_),rfl,e,rfl⟩
  | succ i=>
   rw [Yfg] at h ⊢;exact ih h
theorem Trs.at {rs:List Tri}(h:Trs H xs rs){i:Nat}(e:rs[i]?=some r):∃t,xs[i]?=some (.ref t)/\H t=some (.tup [.int r.1,.int r.2.1,.int r.2.2]):=by
 have hi:i<xs.length:=by rw [h.len];exact (Yal.mp e).1
 obtain ⟨t,r',q,B,j⟩:=h.get (Yaw hi);rw [e] at j;cases j;exact ⟨t,by rw [Yaw hi,q],B⟩
noncomputable def trD (r:Tri):PyData:=.tuple [.int r.1,.int r.2.1,.int r.2.2]
theorem Trs.dats {K:FG}{rs:List Tri}(h:Trs H xs rs):DatVs K H xs (rs.map trD):=by
 induction h with
 | nil=>exact .nil
 | cons e _ ih=>exact .cons (.tup (SqT.of e) (.cons (.int _) (.cons (.int _) (.cons (.int _) .nil)))) ih
theorem ZdW (r q:Tri):PyData.eqv (trD r) (trD q)=decide (r=q):=by
 obtain ⟨a,b,c⟩:=r;obtain ⟨d,e,f⟩:=q;simp only [trD,PyData.eqv,PyData.eqvAll,Prod.mk.injEq];by_cases h1:a=d <;> by_cases h2:b=e <;> by_cases j:c=f <;> simp [h1,h2,j]
theorem Zap:∀rs qs:List Tri,PyData.eqvAll (rs.map trD) (qs.map trD)=decide (rs=qs)
 | [],[]=>by simp [PyData.eqvAll]
 | [],_::_=>by simp [PyData.eqvAll]
 | _::_,[]=>by simp [PyData.eqvAll]
 | r::rs,q::qs=>by
  rw [Yap,Yap];simp only [PyData.eqvAll,ZdW,Zap rs qs];by_cases h1:r=q <;> by_cases h2:rs=qs <;> simp [h1,h2]
theorem Zaq:∀rs:List Tri,PyData.canLayAll0 (rs.map trD)=true
 | []=>by simp [PyData.canLayAll0]
 | r::rs=>by
  rw [Yap];simp [PyData.canLayAll0,trD,PyData.canLay0,Zaq rs]
theorem WQ:∀rs:List Tri,PyData.depthAll (rs.map trD)<=2
 | []=>by simp [PyData.depthAll]
 | r::rs=>by
  have ih:=WQ rs;rw [Yap];simp only [PyData.depthAll,trD,PyData.depth]
  lia
theorem Zhx (h:X.K=K:=by rfl):SlR X (ZhZ K):=h▸ZcT
theorem Zar (j:PE X l tl)(h:X.K=K:=by rfl):PI X tg l (ZhW K tl):=h▸ZeT j
end
noncomputable def Nd (ts:List Tri)(c:Int)(r:Tri):Prop:=2<=c/\ts[(c-2).toNat]?=some r
noncomputable def At (ts:List Tri)(c lo:Int):Prop:=c=0\/c=1\/∃r,Nd ts c r/\lo<r.1
noncomputable def TabOk (ts:List Tri):Prop:=∀(i:Nat)(r:Tri),ts[i]?=some r->(0<=r.1/\r.1<30)/\At ts r.2.1 r.1/\At ts r.2.2 r.1
theorem Nd.one (h:Nd ts c r)(h':Nd ts c r'):r=r':=by
 have:=h.2.symm.trans h'.2;cases this
 rfl
theorem Nd.lt (h:Nd ts c r):c<ts.length+2:=by
 have:=(Yal.mp h.2).1;have:=h.1
 lia
theorem Nd.app (h:Nd ts c r)(us:List Tri):Nd (ts++us) c r:=
 ⟨h.1,by rw [Ycx (Yal.mp h.2).1];exact h.2⟩
theorem Nd.last (ts:List Tri)(r:Tri):Nd (ts++[r]) (ts.length+2) r:=by
 refine ⟨by lia,?_⟩;have e:((ts.length:Int)+2-2).toNat=ts.length:=by lia
 rw [e,Ydv (Yae _),Nat.sub_self]
 rfl
theorem At.app {c lo:Int}(h:At ts c lo)(us:List Tri):At (ts++us) c lo:=by
 rcases h with h | h | ⟨r,h,g⟩
 ·exact .inl h
 ·exact .inr (.inl h)
 ·exact .inr (.inr ⟨r,h.app us,g⟩)
theorem At.mono {c lo lo':Int}(h:At ts c lo)(j:lo'<=lo):At ts c lo':=by
 rcases h with h | h | ⟨r,h,g⟩
 ·exact .inl h
 ·exact .inr (.inl h)
 ·exact .inr (.inr ⟨r,h,by lia⟩)
theorem At.lt {c lo:Int}(h:At ts c lo):0<=c/\c<ts.length+2:=by
 rcases h with rfl | rfl | ⟨r,h,g⟩
 ·lia
 ·lia
 ·have:=h.lt;have:=h.1
  lia
theorem At.nd {c lo:Int}(h:At ts c lo)(j:1<c):∃r,Nd ts c r/\lo<r.1:=by
 rcases h with h | h | h
 ·lia
 ·lia
 ·exact h
theorem TabOk.nil:TabOk []:=λi r h=>by simp at h
theorem TabOk.snoc (h:TabOk ts)(h0:0<=r.1/\r.1<30)(h1:At ts r.2.1 r.1)(h2:At ts r.2.2 r.1):TabOk (ts++[r]):=by
 intro i q e;by_cases hi:i<ts.length
 ·rw [Ycx hi] at e;obtain ⟨a,b,c⟩:=h i q e;exact ⟨a,b.app _,c.app _⟩
 ·rw [Ydv (by lia)] at e;have j:i-ts.length=0:=by
   have:=(Yal.mp e).1;rw [Ybc] at this
   lia
  rw [j] at e;cases e;exact ⟨h0,h1.app _,h2.app _⟩
theorem TabOk.nd (h:TabOk ts)(n:Nd ts c r):(0<=r.1/\r.1<30)/\At ts r.2.1 r.1/\At ts r.2.2 r.1:=h _ r n.2
inductive Has (ts:List Tri):Int->LI->Prop
 | one:Has ts 1 []
 | low {c:Int} {r:Tri} {rs:LI}:Nd ts c r->Has ts r.2.1 rs->Has ts c rs
 | high {c:Int} {r:Tri} {rs:LI}:Nd ts c r->Has ts r.2.2 rs->Has ts c (r.1::rs)
theorem Has.zero {rs:LI}:¬ Has ts 0 rs:=by
 intro h;cases h with
 | low n _=>exact absurd n.1 (by decide)
 | high n _=>exact absurd n.1 (by decide)
theorem Has.at1 {rs:LI}:Has ts 1 rs↔rs=[]:=by
 constructor
 ·intro h;cases h with
  | one=>rfl
  | low n _=>exact absurd n.1 (by decide)
  | high n _=>exact absurd n.1 (by decide)
 ·rintro rfl;exact .one
theorem Has.small {rs:LI}(h0:0<=c)(h1:¬ 1<c):Has ts c rs↔(c=1/\rs=[]):=by
 have j:c=0\/c=1:=by lia
 rcases j with rfl | rfl
 ·exact ⟨λh=>absurd h Has.zero,λh=>absurd h.1 (by decide)⟩
 ·rw [Has.at1];exact ⟨λh=>⟨rfl,h⟩,λh=>h.2⟩
theorem Has.nil (n:Nd ts c r):Has ts c []↔Has ts r.2.1 []:=by
 constructor
 ·intro h;cases h with
  | one=>exact absurd n.1 (by decide)
  | low n' h'=>rw [n.one n'];exact h'
 ·exact .low n
theorem Has.cons {ts:List Tri}{c:Int}{r:Tri}{x:Int}{rs:LI}(n:Nd ts c r):Has ts c (x::rs)↔(Has ts r.2.1 (x::rs)\/(x=r.1/\Has ts r.2.2 rs)):=by
 constructor
 ·intro h;cases h with
  | low n' h'=>rw [n.one n'];exact .inl h'
  | high n' h'=>rw [n.one n'];exact .inr ⟨rfl,h'⟩
 ·rintro (h | ⟨rfl,h⟩)
  ·exact .low n h
  ·exact .high n h
theorem Has.gt (T:TabOk ts){rs:LI}(h:Has ts c rs):∀{lo x:Int}{xs:LI},At ts c lo->rs=x::xs->lo<x:=by
 induction h with
 | one=>intro lo x xs _ e;cases e
 | @low c r rs n h ih=>
  intro lo x xs a e;obtain ⟨r',j,g⟩:=a.nd (by have:=n.1;lia);rw [j.one n] at g;have:=ih (T.nd n).2.1 e
  lia
 | @high c r rs n h ih=>
  intro lo x xs a e;obtain ⟨r',j,g⟩:=a.nd (by have:=n.1;lia);rw [j.one n] at g;cases e;exact g
noncomputable def Jd (fs:LI)(n:Int):Option Int:=if n=0 then some 0 else if n=1 then some 1 else (fs.idxOf? n).map λ(i:Nat)=>(i:Int)+2
theorem idxOf?_app (fs:LI)(n m:Int)(q:m ∉ fs):(fs++[m]).idxOf? n=if n=m then some fs.length else fs.idxOf? n:=by
 induction fs with
 | nil=>
  by_cases h:n=m
  ·subst h;simp [List.idxOf?,List.findIdx?_cons]
  ·have:¬ m=n:=λz=>h z.symm;simp [List.idxOf?,List.findIdx?_cons,h,this]
 | cons a fs ih=>
  have h1:m ∉ fs:=λz=>q (Ybf _ z);have h2:a≠m:=λz=>q (z▸Ybj);have j:=ih h1;rw [List.cons_append,List.idxOf?_cons,List.idxOf?_cons,j,Ybo];by_cases ha:(a == n)=true
  ·have:a=n:=by simpa using ha
   subst this;simp [h2]
  ·by_cases B:n=m
   ·subst B;simp [ha]
   ·simp [ha,B]
theorem OO (fs:LI)(n m:Int)(j:Jd fs m=none):Jd (fs++[m]) n=if n=m then some ((fs.length:Int)+2) else Jd fs n:=by
 unfold Jd at j ⊢;by_cases h0:m=0
 ·rw [if_pos h0] at j;cases j
 rw [if_neg h0] at j;by_cases h1:m=1
 ·rw [if_pos h1] at j;cases j
 rw [if_neg h1] at j;have B:m ∉ fs:=by
  intro z;rw [Yfj,List.idxOf?_eq_none_iff] at j;exact j z
 rw [idxOf?_app fs n m B];by_cases q:n=m
 ·subst q;simp [h0,h1]
 ·simp [q]
theorem Zas (j:Jd fs m=none)(h:Jd fs n=some a):Jd (fs++[m]) n=some a:=by
 rw [OO fs n m j,if_neg (λz=>by rw [z,j] at h;cases h)];exact h
theorem OP (h:Jd fs n=some a)(h1:1<n):2<=a/\fs[(a-2).toNat]?=some n:=by
 unfold Jd at h;rw [if_neg (by lia),if_neg (by lia)] at h;cases hi:fs.idxOf? n with
 | none=>rw [hi] at h;cases h
 | some i=>
  rw [hi] at h;cases h;refine ⟨by show (2:Int)<=(i:Int)+2;lia,?_⟩;show fs[((i:Int)+2-2).toNat]?=some n;rw [show ((i:Int)+2-2).toNat=i by lia];rw [List.idxOf?_eq_some_iff] at hi;obtain ⟨j,e,_⟩:=hi;rw [Yaw j,e]
theorem UV (fs:LI):Jd fs 0=some 0:=by unfold Jd;rw [if_pos rfl]
theorem OQ (fs:LI):Jd fs 1=some 1:=by unfold Jd;rw [if_neg (by decide),if_pos rfl]
theorem UW (h:Jd fs m=none):m≠0/\m≠1/\m ∉ fs:=by
 unfold Jd at h;by_cases h0:m=0
 ·rw [if_pos h0] at h;cases h
 rw [if_neg h0] at h;by_cases h1:m=1
 ·rw [if_pos h1] at h;cases h
 rw [if_neg h1] at h;refine ⟨h0,h1,λz=>?_⟩;rw [Yfj,List.idxOf?_eq_none_iff] at h;exact h z
structure Fnd (ks:List Tri)(root:Int)(fs:LI)(kvs:List (Key×V))(k:Nat):Prop where
 num:∀n:Int,JF kvs (.inl n)=(Jd fs n).map V.int
 nd:fs.Nodup
 nod:∀x∈fs,∃r,Nd ks x r
 kle:k<=fs.length
 cl:∀(i:Nat),i<k->∀(x:Int)(r:Tri),fs[i]?=some x->Nd ks x r->(Jd fs r.2.1).isSome/\(Jd fs r.2.2).isSome
 kl:kvs.length<=fs.length+2
theorem OR (j:Jd fs m=none)(h:(Jd fs n).isSome):(Jd (fs++[m]) n).isSome:=by
 obtain ⟨a,e⟩:=Yeh.mp h;rw [Zas j e]
 rfl
theorem Fnd.add (h:Fnd ks root fs kvs k)(j:Jd fs m=none)(D:Nd ks m r)(L:v=(fs.length:Int)+2):Fnd ks root (fs++[m]) (JH kvs (.inl m) (.int v)) k:=by
 obtain ⟨h0,h1,h2⟩:=UW j;refine ⟨λn=>?_,?_,λx N=>?_,?_,λi hi x r' e O=>?_,?_⟩
 ·rw [GZ,OO fs n m j,h.num n];by_cases e:n=m
  ·rw [if_pos e,if_pos (by rw [e]),L]
   rfl
  ·rw [if_neg e,if_neg (λz=>e (Yee z))]
 ·exact Yco.mpr ⟨h.nd,by simp,λa ha b B=>by rw [Yaj] at B;subst B;exact λz=>h2 (z▸ha)⟩
 ·rcases Yak.mp N with z | z
  ·exact h.nod x z
  ·rw [Yaj] at z;subst z;exact ⟨r,D⟩
 ·rw [Yam];have:=h.kle
  lia
 ·have q:i<fs.length:=Ybm hi h.kle;rw [Ycx q] at e;obtain ⟨a,b⟩:=h.cl i hi x r' e O;exact ⟨OR j a,OR j b⟩
 ·have:=GM kvs (.inl m) (.int v);have:=h.kl;rw [Yam,Ybc]
  lia
theorem Fnd.le (h:Fnd ks root fs kvs k):fs.length<=ks.length:=by
 have:=Ydb (l₂:=(List.range ks.length).map λ(i:Nat)=>(i:Int)+2) h.nd λx j=>by
  obtain ⟨r,n⟩:=h.nod x j;have h1:=n.lt;have h2:=n.1;exact Yai.mpr ⟨(x-2).toNat,Ycc.mpr (by lia),by lia⟩
 rw [Yac,Ydg] at this;exact this
theorem Fnd.next (h:Fnd ks root fs kvs k)(e:fs[k]?=some x)(n:Nd ks x r)(h1:(Jd fs r.2.1).isSome)(h2:(Jd fs r.2.2).isSome):Fnd ks root fs kvs (k+1):=by
 refine ⟨h.num,h.nd,h.nod,(Yal.mp e).1,λi hi B r' j q=>?_,h.kl⟩;by_cases D:i<k
 ·exact h.cl i D B r' j q
 ·have:i=k:=by lia
  subst this;rw [e] at j;cases j;rw [q.one n];exact ⟨h1,h2⟩
noncomputable def Said (ks:List Tri)(fs:LI)(us:List Tri)(i:Nat):Prop:=∀(j:Nat)(x:Int),j<i->fs[j]?=some x->∃(r:Tri)(a b:Int),Nd ks x r/\Jd fs r.2.1=some a/\Jd fs r.2.2=some b/\us[j]?=some (r.1,a,b)
theorem Said.at (S:Said ks fs us fs.length){c lo a:Int}(h:At ks c lo)(e:Jd fs c=some a):At us a lo:=by
 rcases h with rfl | rfl | ⟨r,n,g⟩
 ·rw [UV] at e;cases e;exact .inl rfl
 ·rw [OQ] at e;cases e;exact .inr (.inl rfl)
 ·obtain ⟨h2,j⟩:=OP e (by have:=n.1;lia);obtain ⟨r',D,L,B,_,_,q⟩:=S _ _ (Yal.mp j).1 j;rw [B.one n] at q;exact .inr (.inr ⟨_,⟨h2,q⟩,g⟩)
theorem Said.tab (T:TabOk ks)(S:Said ks fs us fs.length)(B:us.length=fs.length):TabOk us:=by
 intro i q e;have hi:i<fs.length:=by rw [<-B];exact (Yal.mp e).1
 obtain ⟨r,a,b,n,ha,D,j⟩:=S i _ hi (Yaw hi);rw [e] at j;cases j;obtain ⟨h1,h2,L⟩:=T.nd n;exact ⟨h1,S.at h2 ha,S.at L D⟩
theorem Said.snoc (S:Said ks fs us i)(B:us.length=i)(e:fs[i]?=some x)(n:Nd ks x r)(ha:Jd fs r.2.1=some a)(D:Jd fs r.2.2=some b):Said ks fs (us++[(r.1,a,b)]) (i+1):=by
 intro j y Y q;by_cases h:j<i
 ·obtain ⟨r',L,N,h1,h2,O,U⟩:=S j y h q;exact ⟨r',L,N,h1,h2,O,by rw [Ycx (by lia)];exact U⟩
 ·have:j=i:=by lia
  subst this;rw [e] at q;cases q;refine ⟨r,a,b,n,ha,D,?_⟩;rw [Ydv (by lia),B,Nat.sub_self]
  rfl
noncomputable def Vf (r:Tri):List Key:=[.inl r.1,.inl r.2.1,.inl r.2.2]
theorem Zb4 (h:Vf r=Vf q):r=q:=by
 obtain ⟨a,b,c⟩:=r;obtain ⟨d,e,f⟩:=q;unfold Vf at h;simp only [List.cons.injEq,Sum.inl.injEq,and_true] at h;obtain ⟨rfl,rfl,rfl⟩:=h
 rfl
noncomputable def SeenOk (kvs:List (List Key×V))(ks:List Tri):Prop:=∀r:Tri,∀v:V,JF kvs (Vf r)=some v->∃c:Int,v=.int c/\Nd ks c r
theorem SeenOk.add (S:SeenOk kvs ks)(j:c=(ks.length:Int)+2):SeenOk (JH kvs (Vf r) (.int c)) (ks++[r]):=by
 intro q v e;rw [GZ] at e;by_cases h:Vf q=Vf r
 ·rw [if_pos h] at e;cases e;have:=Zb4 h;subst this;exact ⟨c,rfl,j▸Nd.last ks q⟩
 ·rw [if_neg h] at e;obtain ⟨d,B,D⟩:=S q v e;exact ⟨d,B,D.app _⟩
section
variable {P:PP}{w:Ab}{A:Around}{E:Aa->SS->Prop}{s:SS}{Ad:AD->LI->Prop}
noncomputable abbrev Gy (P:PP)(w:Ab)(r:LI):Int:=tupleKeyHash (intKind P w) r
noncomputable def IsTu (P:PP)(w:Ab)(h:Heap)(r:LI)(a:AD):Prop:=IsTupleKey (intKind P w) h r a
noncomputable def Y0 (P:PP)(w:Ab)(Ad:AD->LI->Prop)(h:Heap)(e:Int×Aa)(r:LI):Prop:=e.1=Gy P w r/\∃a,e.2=.ref a/\IsTu P w h r a/\Ad a r
theorem IsTu.keep (x:IsTu P w h r a)(k:∀o,h.get? a=some o->h'.get? a=some o):IsTu P w h' r a:=by
 obtain ⟨o,its,n,h1,h2⟩:=x;exact ⟨o,its,n,k _ h1,h2⟩
theorem J6:∀{h:Heap}{l:List (Int×Aa)}{ps:List (LI)},Paired (Y0 P w Ad h) l ps->∀{i:Nat}{e:Int×Aa},l[i]?=some e->∃r,ps[i]?=some r/\Y0 P w Ad h e r
 | _,_,_,.nil,i,e,z=>by simp at z
 | _,_,_,.cons h0 t,0,e,z=>by simp at z;subst z;exact ⟨_,rfl,h0⟩
 | _,_,_,.cons h0 t,i+1,e,z=>by
  obtain ⟨r,h1,h2⟩:=J6 t (i:=i) (e:=e) (by simpa using z);exact ⟨r,by simpa using h1,h2⟩
theorem Vt (p:l'.Perm l):∀{σ:List (LI)},Paired (Y0 P w Ad h) l σ->∃ j,Paired (Y0 P w Ad h) l' j/\j.Perm σ:=by
 induction p with
 | nil=>intro σ h;cases h;exact ⟨[],.nil,.refl _⟩
 | cons x _ ih=>
  intro σ h;cases h with
  | cons h t=>
   obtain ⟨j,h1,h2⟩:=ih t;exact ⟨_,.cons h h1,h2.cons _⟩
 | swap x y l=>
  intro σ h;cases h with
  | cons h t=>
   cases t with
   | cons h' t=>exact ⟨_,.cons h' (.cons h t),.swap _ _ _⟩
 | trans _ _ ih1 ih2=>
  intro σ h;obtain ⟨D,h1,q⟩:=ih2 h;obtain ⟨B,h2,p2⟩:=ih1 h1;exact ⟨B,h2,p2.trans q⟩
theorem WR:∀{h:Heap}{l k:List (Int×Aa)}{σ τ:List (LI)},Paired (Y0 P w Ad h) l σ->Paired (Y0 P w Ad h) k τ->Paired (Y0 P w Ad h) (l++k) (σ++τ)
 | _,_,_,_,_,.nil,h=>h
 | _,_,_,_,_,.cons h t,k=>.cons h (WR t k)
theorem UX (q:IsTu P w s.heap r a)(h:Q false s):wpAny (model P w) A (ofAClassStatement 8 (.ref a)) Q E s:=by
 have D:=IsTupleKey.typeIs q;obtain ⟨o,its,n,L,U,N,hi⟩:=q;unfold ofAClassStatement;apply Yaa;apply Ydz D;apply Yaa;apply Yab;apply Yaa;apply wpAny_seqItems L N;dsimp only;apply Yaa;rw [<-Array.forIn_toList];refine wpAny_forIn_list _ (λrest c s'=>c.1=none/\s'=s/\∀v∈rest,∃i t,v=Value.int i t) _ ?_ ?_ _ _ ⟨rfl,rfl,WP hi⟩
 ·rintro v rest c s' ⟨j,rfl,B⟩;obtain ⟨i,t,rfl⟩:=B v Ybj;apply Yaa;apply Yab;rw [if_neg Yaq];exact Yab ⟨rfl,rfl,λu O=>B u (Ybf _ O)⟩
 ·rintro ⟨Y,Z⟩ s' ⟨j,rfl,_⟩;simp only at j;subst j;exact Yab h
theorem Y1 (B:IsTu P w s.heap r b)(O:∀v∈l,∃a r',v=Value.ref a/\IsTu P w s.heap r' a)(h:Q false s):wpAny (model P w) A (searchCouldBeSeen (.ref b) l) Q E s:=by
 unfold searchCouldBeSeen;apply Yaa;refine wpAny_forIn_list _ (λrest c s'=>c.1=none/\s'=s/\∀v∈rest,∃a r',v=Value.ref a/\IsTu P w s.heap r' a) _ ?_ ?_ _ _ ⟨rfl,rfl,O⟩
 ·rintro v rest c s' ⟨q,rfl,D⟩;obtain ⟨a,r',rfl,L⟩:=D v Ybj;have j:∀u∈rest,∃a r',u=Value.ref a/\IsTu P w s'.heap r' a:=λu U=>D u (Ybf _ U);dsimp only;by_cases N:((b == a) || (carriedByValue (.ref b) && carriedByValue (.ref a)))=true
  ·rw [if_pos N];exact Yab ⟨rfl,rfl,j⟩
  ·rw [if_neg N];apply Yaa;refine wpAny_eqIsQuiet_tuple B ?_;rw [if_neg (by decide)];apply Yaa;refine wpAny_eqIsQuiet_tuple L ?_;rw [if_neg (by decide)];apply Yaa;refine UX B ?_;rw [if_neg Yaq];apply Yaa;refine UX L ?_;rw [if_neg Yaq];exact Yab ⟨rfl,rfl,j⟩
 ·rintro ⟨Y,Z⟩ s' ⟨q,rfl,_⟩;simp only at q;subst q;exact Yab h
section
variable {a b:AD}{o:Obj}{es:Array (Int×Aa)}{ep:Nat}{t:SetTable}{ps:List (LI)}{r:LI}{Q:SetFound->SS->Prop}
theorem Oq (hu:A.units<cLine)(ho:s.heap.get? a=some o)(hd:o.data=.set es ep t)(S:SOk t es)(hE:Paired (Y0 P w Ad s.heap) es.toList ps)(hx:IsTu P w s.heap r b)(ab:r∈ps->Q (.there none) s)(aj:r ∉ ps->∀n,(GJ t.mask n (st0 t.mask (Gy P w r))).j ∉ t.place.toList->(∀q,q<n->(GJ t.mask q (st0 t.mask (Gy P w r))).j∈t.place.toList)->Q (.free (GJ t.mask n (st0 t.mask (Gy P w r))).j false) s)(N:Nat)(hN:N+10<10 * SetTable.turns t.mask)(aa:(GJ t.mask N (st0 t.mask (Gy P w r))).j ∉ t.place.toList) :
  ∀(jQ q:Nat)(stand:Option SetTable.Probe),stand.getD (st0 t.mask (Gy P w r))=GJ t.mask q (st0 t.mask (Gy P w r))->q<=N->N-q<jQ ->
   (∀m,m<q->∃i:Nat,t.place[i]?=some (GJ t.mask m (st0 t.mask (Gy P w r))).j/\∀r',ps[i]?=some r'->r'≠r) ->
   wpAny (model P w) A (setSearchFrom a (.ref b) (Gy P w r) true jQ stand) Q E s
 | 0,q,stand,_,_,hf,_=>absurd hf (Yda _)
 | jQ+1,q,stand,hst,hq,hf,hold=>by
  have qV:t.place.size=es.size:=by rw [S.T.len,Jl]
  have an:=Ycv hE;rw [Yan] at an;unfold setSearchFrom;apply Yaa;refine Yel ho hd S.fits ?_;dsimp only;rw [S.T.odd,if_neg Yaq,Zfj,hst];have ac:(GJ t.mask q (st0 t.mask (Gy P w r))).dummy=none:=by rw [Vp];rfl
  have sp:=Zai (t:=t) (ha:=hAt es) (h:=Gy P w r) S.T.rise S.T.dum (10 * SetTable.turns t.mask) (GJ t.mask q (st0 t.mask (Gy P w r))) ⟨N-q,by lia,by rw [<-G3,show q+(N-q)=N by lia];exact aa⟩;have B:∀m,(∃i:Nat,t.place[i]?=some (GJ t.mask m (GJ t.mask q (st0 t.mask (Gy P w r)))).j/\hAt es i≠Gy P w r)->∃i:Nat,t.place[i]?=some (GJ t.mask (q+m) (st0 t.mask (Gy P w r))).j/\∀r',ps[i]?=some r'->r'≠r:=by
   rintro m ⟨i,h1,h2⟩;refine ⟨i,by rw [G3];exact h1,λr' D e=>?_⟩;subst e;apply h2;have hi:i<es.size:=by
    have:=(Yal.mp D).1
    lia
   obtain ⟨r2,e1,e2⟩:=J6 hE (i:=i) (e:=es[i]) (by rw [Yba,Ybe hi]);rw [D] at e1;cases e1;unfold hAt;rw [Ybe hi];exact e2.1
  have L:∀n,(∀m,m<n->∃i:Nat,t.place[i]?=some (GJ t.mask m (GJ t.mask q (st0 t.mask (Gy P w r)))).j/\hAt es i≠Gy P w r)->∀m,m<q+n->∃i:Nat,t.place[i]?=some (GJ t.mask m (st0 t.mask (Gy P w r))).j/\∀r',ps[i]?=some r'->r'≠r:=by
   intro n h m hm;rcases Nat.lt_or_ge m q with z | z
   ·exact hold m z
   ·have:=B (m-q) (h (m-q) (by lia));rw [show q+(m-q)=m by lia] at this;exact this
  rcases sp with ⟨n,g1,O,g3⟩ | ⟨n,i,g1,O,g3,g4⟩
  ·have em:t.probe (hAt es) (Gy P w r) (GJ t.mask q (st0 t.mask (Gy P w r)))=some (.empty (GJ t.mask (q+n) (st0 t.mask (Gy P w r))).j none):=by
    unfold SetTable.probe;rw [g1,ac,G3]
   generalize hm:t.probe _ (Gy P w r) (GJ t.mask q (st0 t.mask (Gy P w r)))=mm;have ad:mm=some (.empty (GJ t.mask (q+n) (st0 t.mask (Gy P w r))).j none):=by rw [<-hm];exact em
   subst ad;dsimp only;have all:=L n g3;rw [<-G3] at O;refine Yab (aj (λao=>?_) (q+n) O λm ak=>by obtain ⟨i,hi,_⟩:=all m ak;exact JR hi);obtain ⟨i,hi,e⟩:=Yck ao;have U:i<es.size:=by lia
   have al:ps[i]?=some r:=by rw [Yaw hi,e]
   obtain ⟨r2,e1,e2⟩:=J6 hE (i:=i) (e:=es[i]) (by rw [Yba,Ybe U]);rw [al] at e1;cases e1;have ae:t.place[i]?=some (t.place[i]'(by lia)):=Ybe (by lia);obtain ⟨m,r1,r3⟩:=S.T.rch i (Gy P w r) _ (by rw [Yay,Yba,Ybe U];exact Ybg some e2.1) ae;rcases Yff m (q+n) with z | z | z
   ·obtain ⟨i2,h1,h2⟩:=all m z;rw [r1] at h1;have:i2=i:=by
     have b1:=Ux S.T.rise h1;have b2:=Ux S.T.rise ae
     lia
    subst this;exact h2 r al rfl
   ·subst z;rw [r1] at O;exact O (JR ae)
   ·exact O (r3 (q+n) z)
  ·have em:t.probe (hAt es) (Gy P w r) (GJ t.mask q (st0 t.mask (Gy P w r)))=some (.candidate (GJ t.mask (q+n) (st0 t.mask (Gy P w r))).j i (GJ t.mask (q+n+1) (st0 t.mask (Gy P w r)))):=by
    unfold SetTable.probe;rw [g1,<-G3,<-G3,Nat.add_assoc]
   generalize hm:t.probe _ (Gy P w r) (GJ t.mask q (st0 t.mask (Gy P w r)))=mm;have ad:mm=some (.candidate (GJ t.mask (q+n) (st0 t.mask (Gy P w r))).j i (GJ t.mask (q+n+1) (st0 t.mask (Gy P w r)))):=by rw [<-hm];exact em
   subst ad;dsimp only;rw [<-G3] at O;have U:i<es.size:=by
    have:=(Yfu.mp O).1
    lia
   obtain ⟨r2,e1,e2,c,e3,e4,_⟩:=J6 hE (i:=i) (e:=es[i]) (by rw [Yba,Ybe U]);have aq:q+n<N:=by
    rcases Yff (q+n) N with z | z | z
    ·exact z
    ·subst z;exact absurd (JR O) aa
    ·obtain ⟨i2,h1,_⟩:=L n g4 N z;exact absurd (JR h1) aa
   have af:t.sameMemory t.moves t.mask=some true:=by unfold SetTable.sameMemory;simp
   have ag:t.slot (GJ t.mask (q+n) (st0 t.mask (Gy P w r))).j=.live i:=Zah t S.T.rise O;have Y:es[i]?=some (es[i].1,es[i].2):=Ybe U;rw [Y];rw [e3];rw [e3] at Y;have lst:∀v∈List.map (λx:Int×Aa=>x.2) (Array.filter (λx:Int×Aa=>x.1 == Gy P w r) es).toList,∃a r',v=Value.ref a/\IsTu P w s.heap r' a:=by
    intro v hv;obtain ⟨e,he,rfl⟩:=Yai.mp hv;rw [Array.toList_filter] at he;obtain ⟨j,hj,ej⟩:=Yck (Yci.mp he).1;obtain ⟨r3,_,_,c3,e5,e6,_⟩:=J6 hE (i:=j) (e:=e) (by rw [Yaw hj,ej]);exact ⟨c3,r3,e5,e6⟩
   have ah:∀{Z:Sem SetFound},wpAny (model P w) A Z Q E s->wpAny (model P w) A (if (!t.led)=true then do
      let u <- searchCouldBeSeen (Value.ref b) (List.map (λx:Int×Aa=>x.2) (Array.filter (λx:Int×Aa=>x.1 == Gy P w r) es).toList)
      if u=true then do
       unsupported "set:the-search-would-show-the-table"
       Z
      else Z
     else Z) Q E s:=by
    intro Z hZ;cases hl:t.led with
    | true=>
     rw [if_neg (show ¬ ((!true)=true) by decide)];exact hZ
    | false=>
     rw [if_pos (show (!false)=true by decide)];apply Yaa;refine Y1 hx lst ?_;rw [if_neg Yaq];exact hZ
   refine ah ?_;apply Yaa;apply Ycd;refine wpAny_eqBool_tuple hu e4 hx ?_;apply Yaa;refine Yel ho hd S.fits ?_;dsimp only;by_cases ai:r2=r
   ·subst ai;rw [Yau rfl,if_pos (show (true && true)=true from rfl)];exact Yab (ab (Yaz e1))
   ·have am:decide (r2=r)=false:=Ybl ai;rw [am,if_neg (show ¬ ((true && false)=true) from Yaq),af];dsimp only;rw [if_pos rfl,ag];dsimp only;rw [Y];dsimp only;apply Yaa;have ap:(c == c)=true:=by simp
    show wpAny _ _ (if (c == c)=true then pure true else _) _ _ s;rw [if_pos ap];apply Yab;apply Yaa;apply Yab;rw [if_pos rfl];dsimp only;rw [if_neg Yaq];refine Oq hu ho hd S hE hx ab aj N hN aa jQ (q+n+1) _ rfl (by lia) (by lia) λm ak=>?_;rcases Nat.lt_or_ge m (q+n) with z | z
    ·exact L n g4 m z
    ·have:m=q+n:=by lia
     subst this;exact ⟨i,O,λr' D=>by rw [e1] at D;cases D;exact ai⟩
end
theorem Xm (q:IsTu P w s.heap r a)(h:Q true s):wpAny (model P w) A (hashByValue 8 (.ref a)) Q E s:=by
 have D:=IsTupleKey.typeIs q;obtain ⟨o,its,n,L,U,N,hi⟩:=q;unfold hashByValue;apply Yaa;refine wpAny_specialOf D F.slot_tuple_hash.lookup ?_;dsimp only;apply Yaa;apply wpAny_seqItems L N;apply Yaa;show wpAny _ _ (forIn its _ _) _ _ s;rw [<-Array.forIn_toList];refine wpAny_forIn_list _ (λrest c s'=>c.1=none/\s'=s/\∀v∈rest,∃i t,v=Value.int i t) _ ?_ ?_ _ _ ⟨rfl,rfl,WP hi⟩
 ·rintro v rest c s' ⟨j,rfl,B⟩;obtain ⟨i,t,rfl⟩:=B v Ybj;apply Yaa;rw [hashByValue_scannable 7 (x:=.int i t) rfl];apply Yab;rw [if_neg (show ¬ ((!plainKind (Value.int i t))=true) from Yaq)];exact Yab ⟨rfl,rfl,λu O=>B u (Ybf _ O)⟩
 ·rintro ⟨Y,Z⟩ s' ⟨j,rfl,_⟩;simp only at j;subst j;exact Yab h
noncomputable def Zb5 (P:PP)(w:Ab)(Ad:AD->LI->Prop)(h0:Heap)(o:Obj)(ps:List (LI)):Prop:=∃es ep t,o.ExactSet/\o.data=.set es ep t/\Paired (Y0 P w Ad h0) es.toList ps/\ps.Nodup/\SOk t es/\t.plain=true/\t.led=!J5 w
theorem Y2 (x:Paired (Y0 P w Ad h) l ps)(k:∀b o,h.get? b=some o->h'.get? b=some o):Paired (Y0 P w Ad h') l ps:=by
 induction x with
 | nil=>exact .nil
 | cons e t ih=>
  obtain ⟨h1,a,h2,j,q⟩:=e;exact .cons ⟨h1,a,h2,j.keep (λo e=>k a o e),q⟩ ih
theorem ZdX (hu:A.units<cLine)(al:∀c o',h0.get? c=some o'->s.heap.get? c=some o')(ho:s.heap.get? a=some o)(hS:Zb5 P w Ad h0 o ps)(hx:IsTu P w h0 r b)(hA:Ad b r)(aC:ps.length+1<=1228)(h:∀(c:Bool)(h':Heap)(o':Obj)(ps':List (LI)),Heap.SameBut a s.heap h'->h'.get? a=some o'->Zb5 P w Ad h0 o' ps'->ps'.Perm (if r∈ps then ps else ps++[r])->Q c { s with heap:=h' }) :
  wpAny (model P w) A (setAddHashed a (.ref b) (Gy P w r)) Q E s:=by
 obtain ⟨es,ep,t,am,hd,hE,ax,S,ae,U⟩:=id hS;have qV:=Ycv hE;rw [Yan] at qV;have ay:=Y2 hE al;have an:IsTu P w s.heap r b:=hx.keep λo' e=>al b o' e;obtain ⟨N,hN,az⟩:=S.T.empty S.le (Gy P w r);have a1:10 * SetTable.turns t.mask<=20700:=by
  unfold SetTable.turns;rcases S.T.mask with e | e | e | e | e <;> lia
 unfold setAddHashed setAddHashedIn;apply Ycd;apply Yaa;refine Yel ho hd S.fits ?_;dsimp only;have a2:byScan (.ref b) es=false:=rfl;rw [a2,if_neg Yaq];apply Yaa;unfold setSearch;refine Oq hu ho hd S ay an ?_ ?_ N hN az 100000 0 none rfl (Yax _) (by lia) (λm hm=>absurd hm (Yda _))
 ·intro a3;dsimp only;refine Yab ?_;exact h false s.heap o ps (Heap.SameBut.refl a s.heap) ho hS (by rw [if_pos a3])
 ·intro Y n hn qK;dsimp only;apply Yaa;refine Yel ho hd S.fits ?_;dsimp only;obtain ⟨T1,ao⟩:=S.put (.ref b) hn qK;have O:(SetTable.insertAt es (t.put (GJ t.mask n (st0 t.mask (Gy P w r))).j).2 (Gy P w r,Value.ref b)).size=es.size+1:=V0 _ _ _;have q:=SetTable.insertAt_perm es (t.put (GJ t.mask n (st0 t.mask (Gy P w r))).j).2 (Gy P w r,Value.ref b);rw [Yek] at q;have ai:(t.put (GJ t.mask n (st0 t.mask (Gy P w r))).j).1.mask=t.mask:=rfl;have Z:(t.put (GJ t.mask n (st0 t.mask (Gy P w r))).j).1.plain=t.plain:=rfl;have L:(t.put (GJ t.mask n (st0 t.mask (Gy P w r))).j).1.led=t.led:=rfl;generalize htp:t.put (GJ t.mask n (st0 t.mask (Gy P w r))).j=tp at T1 ao O q ai Z L ⊢;obtain ⟨t1,p1⟩:=tp;dsimp only at T1 ao O q ai Z L ⊢;have a4:Paired (Y0 P w Ad h0) (es.toList++[(Gy P w r,Value.ref b)]) (ps++[r]):=WR hE (.cons ⟨rfl,b,rfl,hx,hA⟩ .nil);obtain ⟨a5,aj,ab⟩:=Vt q a4;have af:(ps++[r]).Nodup:=Yco.mpr ⟨ax,by simp,λc hc d ap=>by
   rw [Yaj] at ap;subst ap;intro z;exact Y (z▸hc)⟩
  generalize hes1:SetTable.insertAt es p1 (Gy P w r,Value.ref b)=B at T1 O q aj ⊢;have hz:B.size<=sizeLine:=by rw [Ybd];lia
  have aa:∀(bv:Bool),bv=true->wpAny (model P w) A (do
    storeSet a B (if bv=true then t1 else { t1 with plain:=false })
    if (!false && (if bv=true then t1 else { t1 with plain:=false }).tooFull)=true then do
     setRelay a (SetTable.grown (es.size+1))
     pure true
    else pure true) Q E s:=by
   intro bv a6;obtain ⟨D,a7,ac,aq,ag,ah⟩:∃D:SetTable,(if bv=true then t1 else { t1 with plain:=false })=D/\TOk D (ZbZ B)/\D.mask=t.mask/\D.plain=t.plain/\D.led=t.led:=by
    subst a6;exact ⟨t1,rfl,T1,ai,Z,L⟩
   rw [a7];apply Yaa;refine wpAny_storeSet_of ho hd ?_ hz;have ad:=WN ho hd B D;have ar:=Yet s.heap a (Obj.putSet B D);rcases Zal S (by lia) ac (by rw [Jl];exact O) aq with ⟨hfull,hwhen⟩ | ⟨hfull,jJ⟩
   ·rw [hfull,if_pos (show (!false && true)=true from rfl)];rw [<-O] at hwhen ⊢;obtain ⟨t2,od,eR,hp,S2,a8,as,aB⟩:=Zb0 ac hwhen;have ak:D.fits B.size=true:=by
     have:=ac.fits (by rw [Jl];rcases hwhen with ⟨q1,q2⟩ | ⟨q1,q2⟩ | ⟨q1,q2⟩ | ⟨q1,q2⟩ <;> lia);rw [Jl] at this;exact this
    apply Yaa;unfold setRelay;apply Yaa;refine Yel ad rfl ak ?_;dsimp only;rw [if_neg (by rw [Ybd];lia)];apply Yaa;rw [eR];have au:=JP hp;have av:(od.filterMap (B[·]?)).size=B.size:=by
     have:=au.length_eq;rw [Yan,Yan] at this;exact this
    obtain ⟨a9,aA,aw⟩:=Vt au aj;show wpAny _ _ (if ((od.filterMap (B[·]?)).size != B.size)=true then _ else _) _ _ _;rw [if_neg (by rw [av];simp)];apply Yab;dsimp only;refine wpAny_storeSet_of ad rfl ?_ (by rw [av];exact hz);apply Yab;refine h true _ _ a9 (ar.trans (Yet _ a _)) (WN ad rfl _ t2) ⟨_,_,t2,am,rfl,aA,(aw.trans ab).nodup_iff.mpr af,S2,by rw [as,ag];exact ae,by rw [a8,ah];exact U⟩ ?_;rw [if_neg Y];exact aw.trans ab
   ·rw [hfull,if_neg (show ¬ ((!false && false)=true) from Yaq)];apply Yab;refine h true _ _ a5 ar ad ⟨B,_,D,am,rfl,aj,ab.nodup_iff.mpr af,⟨ac,by rw [O];exact jJ⟩,by rw [ag];exact ae,by rw [ah];exact U⟩ ?_;rw [if_neg Y];exact ab
  cases hpl:t1.plain with
  | true=>
   rw [if_pos rfl];apply Yaa;refine Xm an ?_;exact aa true rfl
  | false=>
   rw [if_neg Yaq];apply Yaa;apply Yab;exact aa true rfl
end
theorem Zat (P:PP)(w:Ab)(Ad:AD->LI->Prop)(h0:Heap):Zb5 P w Ad h0 (Jc w) []:=⟨#[],0,_,⟨rfl,rfl,rfl⟩,rfl,.nil,Yeb,SOk.fresh 0 0 _,rfl,rfl⟩
section
variable {X:Cx}(K:FG)
theorem Vu {P:PP}{w:Ab}:∀{r:LI}{us:LW},Vals (r.map V.int) us->ItemsAre (intKind P w) r us
 | [],_,.nil=>.nil
 | _::_,_,.cons h t=>by
  obtain ⟨t1,rfl⟩:=h;exact .cons (intKind_is _ _ _ _) (Vu t)
theorem ZdY (I:HOk P w H h)(e:H t=some (.tup (r.map V.int))):IsTu P w h r t:=by
 obtain ⟨_,its,j,o,q,B,n,D⟩:=I t _ e;exact ⟨o,its.toArray,n,q,B,D,Vu j⟩
inductive Tus (H:Hp):List V->List (LI)->Prop
 | nil:Tus H [] []
 | cons {p:AD} {r:LI} {xs:List V} {rs:List (LI)}:H p=some (.tup (r.map V.int))->Tus H xs rs->Tus H (.ref p::xs) (r::rs)
theorem Tus.len {rs:List (LI)}(h:Tus H xs rs):xs.length=rs.length:=by
 induction h with
 | nil=>rfl
 | cons _ _ ih=>rw [Ybo,Ybo,ih]
theorem Tus.get {rs:List (LI)}(g:Tus H xs rs){i:Nat}(h:xs[i]?=some x):∃t r,x=.ref t/\H t=some (.tup (r.map V.int))/\rs[i]?=some r:=by
 induction g generalizing i with
 | nil=>simp at h
 | cons e _ ih=>cases i with
  | zero=>
   simp at h;subst h;exact ⟨_,_,rfl,e,rfl⟩
  | succ i=>
   rw [Yfg] at h ⊢;exact ih h
end
noncomputable def chT (ks:List Tri)(x:Int):LI:=match ks[(x-2).toNat]? with | some r=>[r.2.1,r.2.2] | none=>[]
theorem X5 (n:Nd ks x r):chT ks x=[r.2.1,r.2.2]:=by unfold chT;rw [n.2]
noncomputable def WS (ks:List Tri)(root:Int)(f:LI):LI:=root::f.flatMap (chT ks)
theorem Zau (ks:List Tri)(root:Int)(f:LI)(x:Int):WS ks root (f++[x])=WS ks root f++chT ks x:=by
 unfold WS;rw [List.flatMap_append,List.flatMap_cons,List.flatMap_nil,Yef]
 rfl
noncomputable def New (f:LI)(x:Int):Prop:=x≠0/\x≠1/\x ∉ f
theorem New.num :New f x↔Jd f x=none:=by
 constructor
 ·rintro ⟨h0,h1,h2⟩;unfold Jd;rw [if_neg h0,if_neg h1,Yfj,List.idxOf?_eq_none_iff];exact h2
 ·intro h;exact UW h
noncomputable def Ext (ks:List Tri)(root:Int)(f:LI)(x:Int):Prop:=∃p q,WS ks root f=p++x::q/\New f x/\∀y∈p,¬ New f y
inductive Rch (ks:List Tri)(root:Int):LI->Prop
 | nil:Rch ks root []
 | snoc {f:LI} {x:Int}:Rch ks root f->Ext ks root f x->Rch ks root (f++[x])
noncomputable def Fin (ks:List Tri)(root:Int)(f:LI):Prop:=∀y∈WS ks root f,¬ New f y
theorem Y3 (e:fs[k]?=some x):WS ks root fs=WS ks root (fs.take k)++(chT ks x++(fs.drop (k+1)).flatMap (chT ks)):=by
 obtain ⟨q,j⟩:=Yal.mp e;have h:fs=fs.take k++x::fs.drop (k+1):=by
  rw [<-j,List.getElem_cons_drop,Ydq]
 unfold WS;rw [List.cons_append,<-List.flatMap_cons,<-List.flatMap_append,<-h]
theorem Fnd.old (F:Fnd ks root fs kvs k)(q:(Jd fs root).isSome):∀y∈WS ks root (fs.take k),¬ New fs y:=by
 intro y N O;have L:=New.num.mp O;unfold WS at N;rcases Yav.mp N with h | h
 ·rw [<-h,L] at q;cases q
 ·obtain ⟨x,U,B⟩:=List.mem_flatMap.mp h;obtain ⟨j,Y,Z⟩:=Yck U;rw [Ybn] at Y;have hk:=F.kle;have D:fs[j]?=some x:=by
   rw [<-Z,List.getElem_take];exact Yaw _
  obtain ⟨r,n⟩:=F.nod x (Yaz D);obtain ⟨h1,h2⟩:=F.cl j (by lia) x r D n;rw [X5 n] at B;rcases Yav.mp B with z | z
  ·rw [<-z,L] at h1;cases h1
  ·rw [Yaj] at z;rw [<-z,L] at h2;cases h2
theorem Fnd.ext (F:Fnd ks root fs kvs k)(j:(Jd fs root).isSome)(B:fs[k]?=some x)(n:Nd ks x r)(e:[r.2.1,r.2.2]=pre++c::post)(D:∀y∈pre,(Jd fs y).isSome)(L:Jd fs c=none):Ext ks root fs c:=by
 refine ⟨WS ks root (fs.take k)++pre,post++(fs.drop (k+1)).flatMap (chT ks),?_,New.num.mpr L,λy N q=>?_⟩
 ·rw [Y3 B,X5 n,e];simp
 ·rcases Yak.mp N with h | h
  ·exact F.old j y h q
  ·have:=D y h;rw [New.num.mp q] at this;cases this
theorem Fnd.fin (F:Fnd ks root fs kvs fs.length)(j:(Jd fs root).isSome):Fin ks root fs:=by
 have:=F.old j;rw [Ybu] at this;exact this
theorem V2 {K:FG}(j:Nat->List V->Hp->Prop)(h0:j 0 [] (upd H1 D (.lst [])))(B:∀i ys H,i<=xs.length->j i ys H->SqT K H a xs)(U:∀i x ys H,xs[i]?=some x->j i ys H->g x q H λL Y=>JJ q L/\tc L Y λb N=>if b=true then te L N λy O=>O D=some (.lst ys)/\ys.length<sizeLine/\j (i+1) (ys++[y]) (upd O D (.lst (ys++[y]))) else j (i+1) ys N)(Z:∀ys H,j xs.length ys H->R H):Vn (Itt K a) D g tc te q R H1:=OG j h0 (λi s H hi p=>⟨λz=>⟨xs,xs[i],B i s H hi p,by simp [z]⟩,λe=>⟨xs,B i s H hi p,by lia⟩⟩) (λi s H x H' z p y=>by obtain ⟨rfl,y⟩:=y;exact U i x s _ (y xs (B i s _ (Ycw z) p)) p) Z
set_option maxRecDepth 8000 in
theorem Y4 (l:AD)(items:Array Aa)(n:Nat)(b:AD)(j:Array Aa)(N:Nat)(O:Option AD)(sl:Array (Option Aa))(U:¬(!items.isEmpty && Builtin.List.listTooLong (items.size+j.size))=true)(q:items.size<=sizeLine)(B:items.size+j.size<=sizeLine+1) :
  Meets (Builtin.«list.extend» ⟨[.ref l,.ref b],[]⟩) (λ_ R s=>s.heap.get? l=some { cls:=.type "list", dict:=none,data:=.seq items n,slots:=#[] }/\s.heap.get? b=some { cls:=.type "tuple", dict:=O,data:=.seq j N,slots:=sl }/\R (.ok (.ret Value.none)) { s with heap:=s.heap.update l (Obj.mapSeq λx=>x++j),toks:=s.toks }):=
 .of_wp λprog w A R s h=>by
  obtain ⟨Z,g,d,tk,os⟩:=s;obtain ⟨L,Y,h⟩:=h;have f1:=AutoSeq1.idx_int;have f2:=AutoSeq1.sub_tuple_tuple;have f3:=AutoSeq1.sub_list_list;have f4:=AutoSeq1.sub_tuple_list;have f5:=AutoSeq1.sub_list_tuple;have D:(items++j).size<=sizeLine+1:=by rw [Array.size_append];exact B
  wp_walk using (wpAny_updateSeq L rfl (hz:=q) (_hz':=D)),AutoSeq1.wpAny_loadPart' L,AutoSeq1.wpAny_loadPart' Y
  exact ⟨_,rfl,h⟩
section
variable {X:Cx}
noncomputable def Zb6:V->List V->Hp->VK->Prop:=λx vs H Q=>∃l b xs zs,x=.ref l/\vs=[.ref b]/\H l=some (.lst xs)/\H b=some (.tup zs)/\xs.length+zs.length<=sizeLine/\Q .non (upd H l (.lst (xs++zs)))
theorem Vv:MtM X "list.extend" Zb6:=by
 intro qQ s σ H x vs v us Q I Y Z h;obtain ⟨l,b,xs,zs,rfl,rfl,L,hB,hz,q⟩:=h;cases Y;obtain ⟨u,rfl,ru⟩:=Z.one;cases ru;obtain ⟨z,its,n,r,hl,e⟩:=I.lstM L;obtain ⟨_,j,N,o,ho,O,n2,U⟩:=I.hok b _ hB;have aa:=N.length;have ab:=r.length;have D:its.toArray.size+j.toArray.size<=sizeLine:=by rw [Yas,Yas];lia
 have B:¬ (!its.toArray.isEmpty && Builtin.List.listTooLong (its.toArray.size+j.toArray.size))=true:=by
  rw [ZbM D,Bool.and_false];exact Yaq
 refine call_meets F.slot_list_extend ⟨_,e,rfl⟩ F.entry_list_extend (F.args_list_extend_2 _ _)
  (Y4 l its.toArray n b j.toArray n2 o.dict o.slots B (by rw [Yas];lia) (by lia)) ⟨e,?_,?_⟩
 ·rw [ho];cases o;simp only at O U;rw [O,U]
 refine ⟨.non,_,I.lset (its':=its++j) L e (by simp) (r.append N) ?_,rfl,q⟩;rw [Yam]
 lia
theorem ZdZ (O:Gl X "range")(U:X.mg "range" = none)(ha:PA X [a,b] ta)(Y:starEach [a,b] X.env=[(false,eval a X.env),(false,eval b X.env)]:=by rfl)(B:starEach [b] X.env=[(false,eval b X.env)]:=by rfl) :
  PE X (.Call (.Name "range" p) [a,b] [] pos) (λσ H Q=>ta σ H λvs H1=>∃i j:Int,vs=[.int i,.int j]/\∀r,H1 r=none->Q (.ref r) (upd H1 r (.rng i j))):=by
 intro qQ s σ H Q I h;refine Call_ (OB I O U boot_range (Yfq (thG (ha pos qQ s σ H _ I h) λus s1 vs H1 N Z q1=>?_) (by rw [Y,B]) (by rw [B];rfl)));obtain ⟨i,j,rfl,q⟩:=q1;obtain ⟨u1,u2,rfl,D,L⟩:=Z.two;obtain ⟨t1,rfl⟩:=D;obtain ⟨t2,rfl⟩:=L;refine call_range_2 ?_;exact ⟨.ref _,_,N.laid (o:=.rng i j) (λb o e=>Yah _ e) (Yae _) ⟨_,_,_,Ybb _ rfl⟩,rfl,q _ N.fresh⟩
end
theorem Zd0 (ks:List Tri)(x:Int):(chT ks x).length<=2:=by
 unfold chT;split <;> simp
theorem Zb7 (ks:List Tri)(root:Int)(f:LI):(WS ks root f).length<=1+2 * f.length:=by
 unfold WS;rw [Ybo];have:(f.flatMap (chT ks)).length<=2 * f.length:=by
  induction f with
  | nil=>simp
  | cons x f ih=>
   have:=Zd0 ks x;rw [List.flatMap_cons,Yam,Ybo]
   lia
 lia
theorem nodes_le {fs:LI}(nd:fs.Nodup)(j:∀x∈fs,∃r,Nd ks x r):fs.length<=ks.length:=by
 have:=Ydb (l₂:=(List.range ks.length).map λ(i:Nat)=>(i:Int)+2) nd λx q=>by
  obtain ⟨r,n⟩:=j x q;have h1:=n.lt;have h2:=n.1;exact Yai.mpr ⟨(x-2).toNat,Ycc.mpr (by lia),by lia⟩
 rw [Yac,Ydg] at this;exact this
structure Wk (ks:List Tri)(root:Int)(fs:LI)(kvs:List (Key×V))(pr ah:LI):Prop where
 e:WS ks root fs=pr++ah
 old:∀y∈pr,¬ New fs y
 seen:∀n:Int,JF kvs (.inl n)=none↔New fs n
 nd:fs.Nodup
 nod:∀x∈fs,∃r,Nd ks x r
 rch:Rch ks root fs
 kl:kvs.length<=fs.length+2
 ok:∀y∈ah,At ks y (-1)
theorem Wk.le (h:Wk ks root fs kvs pr j):fs.length<=ks.length:=nodes_le h.nd h.nod
theorem Wk.ahl (h:Wk ks root fs kvs pr j):j.length<=1+2 * ks.length:=by
 have h1:=Zb7 ks root fs;rw [h.e,Yam] at h1;have:=h.le
 lia
theorem Wk.skip (h:Wk ks root fs kvs pr (c::q))(n:¬ New fs c):Wk ks root fs kvs (pr++[c]) q:=by
 refine ⟨by rw [h.e,Ybw];rfl,λy j=>?_,h.seen,h.nd,h.nod,h.rch,h.kl,λy j=>h.ok y (Ybf _ j)⟩;rcases Yak.mp j with z | z
 ·exact h.old y z
 ·rw [Yaj] at z;rw [z];exact n
theorem Wk.take (T:TabOk ks)(h:Wk ks root fs kvs pr (c::q))(n:New fs c)(d:Nd ks c r):Wk ks root (fs++[c]) (JH kvs (.inl c) v) (pr++[c]) (q++[r.2.1,r.2.2]):=by
 obtain ⟨N,h1,h2⟩:=T.nd d;have j:∀y,New (fs++[c]) y↔(New fs y/\y≠c):=λy=>by
  unfold New;rw [Yak,Yaj];constructor
  ·rintro ⟨a,b,e⟩;exact ⟨⟨a,b,λz=>e (.inl z)⟩,λz=>e (.inr z)⟩
  ·rintro ⟨⟨a,b,e⟩,f⟩;exact ⟨a,b,λz=>z.elim e f⟩
 refine ⟨?_,λy B=>?_,λm=>?_,?_,λx L=>?_,.snoc h.rch ⟨pr,q,h.e,n,h.old⟩,?_,λy B=>?_⟩
 ·rw [Zau,h.e,X5 d];simp
 ·rw [j];rintro ⟨a,b⟩;rcases Yak.mp B with z | z
  ·exact h.old y z a
  ·exact b (Yaj.mp z)
 ·rw [GZ,j,<-h.seen m];by_cases e:m=c
  ·rw [if_pos (by rw [e])];exact ⟨λz=>(by cases z),λz=>absurd e z.2⟩
  ·rw [if_neg (λz=>e (Yee z))];exact ⟨λz=>⟨z,e⟩,λz=>z.1⟩
 ·exact Yco.mpr ⟨h.nd,by simp,λa ha b D=>by rw [Yaj] at D;subst D;exact λz=>n.2.2 (z▸ha)⟩
 ·rcases Yak.mp L with z | z
  ·exact h.nod x z
  ·rw [Yaj] at z;subst z;exact ⟨r,d⟩
 ·have:=GM kvs (.inl c) v;have:=h.kl;rw [Yam,Ybc]
  lia
 ·rcases Yak.mp B with z | z
  ·exact h.ok y (Ybf _ z)
  ·rcases Yav.mp z with z | z
   ·rw [z];exact h1.mono (by lia)
   ·rw [Yaj] at z;rw [z];exact h2.mono (by lia)
theorem Wk.fin (h:Wk ks root fs kvs pr []):Fin ks root fs:=by
 intro y j;rw [h.e,Yef] at j;exact h.old y j
mutual
inductive Th (H:Hp):V->PyData->Prop
 | non:Th H .non .none
 | bl (b:Bool):Th H (.bl b) (.bool b)
 | int (i:Int):Th H (.int i) (.int i)
 | str (x:Str):Th H (.str x) (.str x)
 | lst {a:AD} {xs:List V} {ds:List PyData}:H a=some (.lst xs)->xs.length<=1000->Ths H xs ds->Th H (.ref a) (.list ds)
 | tup {a:AD} {xs:List V} {ds:List PyData}:H a=some (.tup xs)->xs.length<=1000->Ths H xs ds->Th H (.ref a) (.tuple ds)
inductive Ths (H:Hp):List V->List PyData->Prop
 | nil:Ths H [] []
 | cons {x:V} {d:PyData} {xs:List V} {ds:List PyData}:Th H x d->Ths H xs ds->Ths H (x::xs) (d::ds)
end
mutual
theorem Th.same {H H':Hp}(s:Same H H'):∀{v:V}{d:PyData},Th H v d->Th H' v d
 | _,_,.non=>.non
 | _,_,.bl b=>.bl b
 | _,_,.int i=>.int i
 | _,_,.str x=>.str x
 | _,_,.lst e z h=>.lst (s _ _ e) z (Ths.same s h)
 | _,_,.tup e z h=>.tup (s _ _ e) z (Ths.same s h)
theorem Ths.same {H H':Hp}(s:Same H H'):∀{vs:List V}{ds:List PyData},Ths H vs ds->Ths H' vs ds
 | _,_,.nil=>.nil
 | _,_,.cons h t=>.cons (Th.same s h) (Ths.same s t)
end
section
variable {X:Cx}{a:Expr}{ta:TE}{pos:Pos}
theorem X6 (K:FG)(h:X.K=K:=by rfl):JG X (.type "tuple") (λxs H Q=>∃p ys,xs=[.ref p]/\((SqL K H p ys/\∀l,H l=none->Q (.ref l) (upd H l (.tup ys)))\/(SqT K H p ys/\Q (.ref p) H))):=h▸VO
end
end L2
namespace L2
open PySem PySem.Spec PyProof.Rows
section
variable {prog:PP}{w:Ab}{A:Around}{E:Aa->SS->Prop}{s:SS}
theorem lt_int (h:Q (.bool (decide (x<y))) s):wpAny (model prog w) A (richCompare .Lt (.int x t) (.int y u)) Q E s:=
 CmpOf.ints_lt (P:=λi v=>∃t,v=.int (if i=0 then x else y) t) (λi=>if i=0 then x else y) (λ_ _ p=>p) 0 1 _ _ s Q E ⟨t,rfl⟩ ⟨u,rfl⟩ h
end
noncomputable def Zfm (prog:PP)(w:Ab)(A:Around)(op:CmpOp)(J:Heap->Prop)(P:Nat->Aa->Prop)(q:Nat->Nat->Bool):Prop:=
 ∀(s:SS)(i j:Nat)(vi vj:Aa)(Q E:Aa->SS->Prop),J s.heap->P i vi->P j vj->Q (.bool (q i j)) s->wpAny (model prog w) A (richCompare op vi vj) Q E s
section
variable {prog:PP}{w:Ab}{A:Around}{R:Result->SS->Prop}{I:AD}{fp wr:List AD}{n:Nat}{P:Nat->Aa->Prop}{St:Nat->Heap->Prop}{J:Heap->Prop}{kw:List (Str×Aa)}
theorem Zav (W:Walks prog w A.in1 I fp wr n P St)(Y:Nat->Nat->Bool)(ab:Zfm prog w A.in1 .Lt J P Y)(D:AD)(hD:D ∉ fp)(q:∀h h':Heap,J h->(∀b o,b ∉ wr->b≠D->h.get? b=some o->h'.get? b=some o)->J h') :
  ∀(left m:Nat)(s:SS)(best:Aa)(c:Nat),n-(m+1)=left->m+1<=n->St (m+1) s.heap->J s.heap->P (argBest Y m) best ->
  s.heap.get? D=some { cls:=.type "list", dict:=none,data:=.seq #[best,best] c,slots:=#[] } ->
  (∀v h' tk,P (argBest Y (n-1)) v->(∀b o,b ∉ wr->b≠D->s.heap.get? b=some o->h'.get? b=some o)->R (.ok (.ret v)) { s with heap:=h',toks:=tk }) ->
  codeAny (model prog w) A (.builtin "min.loop" ⟨[.ref I,.none,.ref D],kw⟩) R s:=by
 have Z:D ∉ wr:=λz=>hD (W.sub _ z);have nm:(toString "min" ++ toString ".loop" : String) = "min.loop" := by decide
 intro left
 induction left with
 | zero=>
  intro m s best c hl hm st j pb gD hR;have en:m+1=n:=by lia
  refine Ycz F.entry_min_loop ?_;rw [Ydx Yeu _];show wpAny _ A.in1 (seqItems? (.ref D) >>= _) _ _ s;refine Yaa (wpAny_seqItems gD rfl (show wpAny _ A.in1 (tryCatch (pyNext (.ref I)) _ >>= _) _ _ s from Yaa (wpAny_tryCatch (W.done s _ _ (en▸st) λh' tk kept=>?_))));show wpAny _ A.in1 (updateSeq D (λ_=>#[]) >>= _) _ _ _;refine Yaa (wpAny_updateSeq (kept D _ Z gD) rfl (Yaa (wpAny_letGo (Yab (hR best _ tk (by rw [<-en];exact pb) λb o B L e=>?_)))));exact (Ycp _ _ (Ne.symm L)).trans (kept b o B e)
 | succ left ih=>
  intro m s best c hl hm st j pb gD hR;refine Ycz F.entry_min_loop ?_;rw [Ydx Yeu _];show wpAny _ A.in1 (seqItems? (.ref D) >>= _) _ _ s;refine Yaa (wpAny_seqItems gD rfl (show wpAny _ A.in1 (tryCatch (pyNext (.ref I)) _ >>= _) _ _ s from Yaa (wpAny_tryCatch (W.item (m+1) s _ _ (by lia) st λv h' tk pv aa kept=>?_))));have N:=kept D _ Z gD;have j':J h':=q _ _ j λb o B _ e=>kept b o B e;show wpAny _ A.in1 (tryCatch (holding [v,v] (richCompare .Lt v best >>= _)) _ >>= _) _ _ _;refine Yaa (wpAny_tryCatch (Ycd (Yaa (ab _ (m+1) (argBest Y m) v best _ _ j' pv pb (Yaa (Ycd (Yds (Yaa (wpAny_letGo (Yab ?_))))))))));cases hb:Y (m+1) (argBest Y m) with
  | true=>
   simp only [if_true];refine Yaa (wpAny_updateSeq N rfl (Yaa (wpAny_letGo ?_)));rw [nm];refine Yab ⟨Yed Yeu _,ih (m+1) _ v _ (by lia) (by lia) (W.frame _ _ _ aa λb bf o e=>?_) (q _ _ j' λb o _ L e=>(Ycp _ _ (Ne.symm L)).trans e) (by simp only [argBest,hb,if_true];exact pv) (Yfh _ N rfl) λv' h2 O U k2=>?_⟩
   ·exact (Ycp _ _ (λz:D=b=>hD (by rw [z];exact bf))).trans e
   ·exact hR v' h2 O U λb o B L e=>k2 b o B L ((Ycp _ _ (Ne.symm L)).trans (kept b o B e))
  | false=>
   simp only [Ydl,Ycj];refine Yaa (wpAny_letGo ?_);rw [nm];refine Yab ⟨Yed Yeu _,ih (m+1) _ best c (by lia) (by lia) aa j' (by simp only [argBest,hb,Ydl,Ycj];exact pb) N λv' h2 O U k2=>?_⟩;exact hR v' h2 O U λb o B L e=>k2 b o B L (kept b o B e)
theorem Y5 (W:Walks prog w A.in1 I fp wr n P St)(O:Nat->Nat->Bool)(U:Zfm prog w A.in1 .Lt J P O)(D:AD)(Y:D ∉ fp)(q:∀h h':Heap,J h->(∀b o,b ∉ wr->b≠D->h.get? b=some o->h'.get? b=some o)->J h')(hn:0<n)(st:St 0 s.heap)(j:J s.heap)(gD:s.heap.get? D=some { cls:=.type "list", dict:=none,data:=.seq #[] c,slots:=#[] })(hR:∀v h' tk,P (argBest O (n-1)) v->(∀b o,b ∉ wr->b≠D->s.heap.get? b=some o->h'.get? b=some o)->R (.ok (.ret v)) { s with heap:=h',toks:=tk }) :
  codeAny (model prog w) A (.builtin "min.loop" ⟨[.ref I,.none,.ref D],kw⟩) R s:=by
 have Z:D ∉ wr:=λz=>Y (W.sub _ z);have nm:(toString "min" ++ toString ".loop" : String) = "min.loop" := by decide
 refine Ycz F.entry_min_loop ?_;rw [Ydx Yeu _];show wpAny _ A.in1 (seqItems? (.ref D) >>= _) _ _ s;refine Yaa (wpAny_seqItems gD rfl (show wpAny _ A.in1 (tryCatch (pyNext (.ref I)) _ >>= _) _ _ s from Yaa (wpAny_tryCatch (W.item 0 s _ _ hn st λv h' tk pv aa kept=>?_))));have B:=kept D _ Z gD;have j':J h':=q _ _ j λb o L _ e=>kept b o L e;show wpAny _ A.in1 (updateSeq D (λ_=>#[v,v]) >>= _) _ _ _;refine Yaa (wpAny_updateSeq B rfl ?_);rw [nm];refine Yab ⟨Yed Yeu _,Zav W O U D Y q _ 0 _ v _ rfl hn (W.frame _ _ _ aa λb bf o e=>?_) (q _ _ j' λb o _ N e=>(Ycp _ _ (Ne.symm N)).trans e) pv (Yfh _ B rfl) λv' h2 ab ac k2=>?_⟩
 ·exact (Ycp _ _ (λz:D=b=>Y (by rw [z];exact bf))).trans e
 ·exact hR v' h2 ab ac λb o L N e=>k2 b o L N ((Ycp _ _ (Ne.symm N)).trans (kept b o L e))
end
noncomputable def J7:Bool->Keyed->Array Keyed->Nat->Nat->Nat->StateT SortSt Sem (Option Nat):=sortPriv% PySem.Builtin.gallop
noncomputable def V3:Array Keyed->Array Keyed->StateT SortSt Sem (Array Keyed):=sortPriv% PySem.Builtin.mergeLo
noncomputable def V4:Array Keyed->Array Keyed->StateT SortSt Sem (Array Keyed):=sortPriv% PySem.Builtin.mergeHi
noncomputable def UY:Nat->StateT SortSt Sem Unit:=sortPriv% PySem.Builtin.setMinGallop
noncomputable def O8 (left:Bool)(key:Keyed)(arr:Array Keyed)(base i:Nat):StateT SortSt Sem (Option Bool):=do
 let x <- elem' arr (base+i)
 if left then lt' x key else return (<- lt' key x).map (!·)
noncomputable def OS (left:Bool)(key:Keyed)(arr:Array Keyed)(base n lo hi:Nat):StateT SortSt Sem (Option Nat):=do
 let mut lo:=lo
 let mut hi:=hi
 for _ in [:n] do
  if lo>=hi then break
  let m:=lo+(hi-lo) / 2
  let some more <- O8 left key arr base m | return none
  if more then lo:=m+1
  else hi:=m
 return some hi
noncomputable def V5 (left:Bool)(key:Keyed)(arr:Array Keyed)(base n hint:Nat):StateT SortSt Sem (Option Nat):=do
 let mut lastofs:=0
 let mut ofs:=1
 let maxofs:=n-hint
 for _ in [:n] do
  if ofs>=maxofs then break
  let some more <- O8 left key arr base (hint+ofs) | return none
  if !more then break
  lastofs:=ofs
  ofs:=2 * ofs+1
 OS left key arr base n (hint+lastofs+1) (hint+min ofs maxofs)
noncomputable def O9 (left:Bool)(key:Keyed)(arr:Array Keyed)(base n hint:Nat):StateT SortSt Sem (Option Nat):=do
 let mut lastofs:=0
 let mut ofs:=1
 let maxofs:=hint+1
 for _ in [:n] do
  if ofs>=maxofs then break
  let some found <- O8 left key arr base (hint-ofs) | return none
  if found then break
  lastofs:=ofs
  ofs:=2 * ofs+1
 OS left key arr base n (hint+1-min ofs maxofs) (hint-lastofs)
theorem Y6 (left:Bool)(key:Keyed)(arr:Array Keyed)(base n hint:Nat):J7 left key arr base n hint=(do
  let some right <- O8 left key arr base hint | return none
  if right then V5 left key arr base n hint else O9 left key arr base n hint):=rfl
section
variable {M:Model}{A:Around}{E:Aa->SS->Prop}{s:SS}{kd:SortKind}{b:Keyed->Keyed->Bool}{good:Keyed->Prop}
structure WO (b:Keyed->Keyed->Bool):Prop where
 irr:∀x,b x x=false
 tr:∀x y z,b x y=true->b y z=true->b x z=true
 neg:∀x y z,b x z=true->b x y=true\/b y z=true
noncomputable def O2 (M:Model)(A:Around)(E:Aa->SS->Prop)(s:SS)(kd:SortKind)(b:Keyed->Keyed->Bool)(good:Keyed->Prop):Prop:=
 ∀(x y:Keyed)(st:SortSt)(Q:Option Bool->SortSt->Prop),good x->good y->kindOf st=kd->Q (some (b x y)) st->wpS M A E s (lt' x y) Q st
theorem Gs {st:SortSt}(h:arr[i]?=some x)(q:Q x st):wpS M A E s (elem' arr i) Q st:=by
 rw [elem'_eq,h];exact Yaf q
noncomputable def byd (b:Keyed->Keyed->Bool)(left:Bool)(key:Keyed)(arr:Array Keyed)(base i:Nat):Bool:=match arr[base+i]? with
 | some x=>if left then b x key else !b key x
 | none=>false
theorem Oh {st:SortSt}(L:O2 M A E s kd b good)(j:good key)(B:arr[base+i]?=some x)(D:good x)(N:kindOf st=kd)(q:Q (some (byd b left key arr base i)) st):wpS M A E s (O8 left key arr base i) Q st:=by
 unfold O8;refine Yad (Gs B ?_);unfold byd at q;rw [B] at q;cases left with
 | true=>exact L x key st Q D j N q
 | false=>exact Yad (L key x st _ j D N (Yaf q))
section
variable {left:Bool}{key:Keyed}{arr:Array Keyed}{base n hint:Nat}{st:SortSt}{Q:Option Nat->SortSt->Prop}
structure Gal (b:Keyed->Keyed->Bool)(good:Keyed->Prop)(left:Bool)(key:Keyed)(arr:Array Keyed)(base n:Nat):Prop where
 gk:good key
 it:∀i,i<n->∃x,arr[base+i]?=some x/\good x
 mono:∀i j,i<=j->j<n->byd b left key arr base j=true->byd b left key arr base i=true
theorem G4 {lo hi:Nat}(L:O2 M A E s kd b good)(G:Gal b good left key arr base n)(O:kindOf st=kd)(h1:lo<=hi)(h2:hi<=n)(B:∀i,i<lo->byd b left key arr base i=true)(D:∀i,hi<=i->i<n->byd b left key arr base i=false)(q:∀k,k<=n->(∀i,i<k->byd b left key arr base i=true)->(∀i,k<=i->i<n->byd b left key arr base i=false)->Q (some k) st):wpS M A E s (OS left key arr base n lo hi) Q st:=by
 unfold OS;refine Yad (Yce (λk c j=>j=st/\∃lo hi,c=(none,lo,hi)/\lo<=hi/\hi<=n/\hi-lo<=n-k/\(∀i,i<lo->byd b left key arr base i=true)/\(∀i,hi<=i->i<n->byd b left key arr base i=false)) ?_ ?_ ⟨rfl,lo,hi,rfl,h1,h2,by lia,B,D⟩)
 ·rintro k c j _ hk ⟨rfl,lo,hi,rfl,h1,h2,N,B,D⟩;dsimp only;split
  ·rename_i U;have:lo=hi:=by lia
   subst this;refine Yaf ?_;dsimp only;exact Yaf (q lo h2 B D)
  ·rename_i U;obtain ⟨x,Y,Z⟩:=G.it (lo+(hi-lo) / 2) (by lia);refine Yad (Oh L G.gk Y Z O ?_);dsimp only;cases hb:byd b left key arr base (lo+(hi-lo) / 2) with
   | true=>
    refine Yaf ⟨rfl,_,_,rfl,by lia,h2,by lia,λi aa=>G.mono i (lo+(hi-lo) / 2) (by lia) (by lia) hb,D⟩
   | false=>
    refine Yaf ⟨rfl,_,_,rfl,by lia,by lia,by lia,B,λi h8 h9=>?_⟩;cases hc:byd b left key arr base i with
    | false=>rfl
    | true=>rw [G.mono _ i h8 h9 hc] at hb;cases hb
 ·rintro c j ⟨rfl,lo,hi,rfl,h1,h2,N,B,D⟩;have:lo=hi:=by simp at N;lia
  subst this;exact Yaf (q lo h2 B D)
theorem Jx (L:O2 M A E s kd b good)(G:Gal b good left key arr base n)(O:kindOf st=kd)(hn:hint<n)(q:∀k,k<=n->(∀i,i<k->byd b left key arr base i=true)->(∀i,k<=i->i<n->byd b left key arr base i=false)->Q (some k) st):wpS M A E s (J7 left key arr base n hint) Q st:=by
 rw [Y6];obtain ⟨x,hx,gx⟩:=G.it hint hn;have N:∀i j,byd b left key arr base i=false->i<=j->j<n->byd b left key arr base j=false:=λi j h1 h2 h3=>by
  cases hc:byd b left key arr base j with
  | false=>rfl
  | true=>rw [G.mono _ j h2 h3 hc] at h1;cases h1
 refine Yad (Oh L G.gk hx gx O ?_);cases hb:byd b left key arr base hint with
 | true=>
  show wpS M A E s (V5 left key arr base n hint) Q st;unfold V5;refine Yad (Yce (λk c D=>D=st/\∃last B,c=(none,last,B)/\last<B/\k+1<=B/\hint+last<n/\byd b left key arr base (hint+last)=true) ?_ ?_ ⟨rfl,0,1,rfl,by lia,by lia,hn,hb⟩)
  ·rintro k c D _ hk ⟨rfl,last,B,rfl,h1,h2,h3,U⟩;dsimp only;split
   ·rename_i Y;refine Yaf ?_;dsimp only;rw [Nat.min_eq_right Y];exact G4 L G O (by lia) (by lia) (λi hi=>G.mono i _ (show i<=hint+last by lia) h3 U) (λi Z h7=>by lia) q
   ·rename_i Y;obtain ⟨y,hy,gy⟩:=G.it (hint+B) (by lia);refine Yad (Oh L G.gk hy gy O ?_);dsimp only;cases hb2:byd b left key arr base (hint+B) with
    | true=>exact Yaf ⟨rfl,_,_,rfl,by lia,by lia,by lia,hb2⟩
    | false=>
     refine Yaf ?_;dsimp only;rw [Yev (by lia)];exact G4 L G O (by lia) (by lia) (λi hi=>G.mono i _ (show i<=hint+last by lia) h3 U) (λi Z h7=>N _ i hb2 Z h7) q
  ·rintro c D ⟨rfl,last,B,rfl,h1,h2,h3,U⟩;dsimp only;have Y:n-hint<=B:=by simp at h2;lia
   rw [Nat.min_eq_right Y];exact G4 L G O (by lia) (by lia) (λi hi=>G.mono i _ (show i<=hint+last by lia) h3 U) (λi Z h7=>by lia) q
 | false=>
  show wpS M A E s (O9 left key arr base n hint) Q st;unfold O9;refine Yad (Yce (λk c D=>D=st/\∃last B,c=(none,last,B)/\last<B/\k+1<=B/\last<=hint/\byd b left key arr base (hint-last)=false) ?_ ?_ ⟨rfl,0,1,rfl,by lia,by lia,by lia,hb⟩)
  ·rintro k c D _ hk ⟨rfl,last,B,rfl,h1,h2,h3,U⟩;dsimp only;split
   ·rename_i Y;refine Yaf ?_;dsimp only;rw [Nat.min_eq_right Y];exact G4 L G O (by lia) (by lia) (λi hi=>by lia) (λi Z h7=>N _ i U Z h7) q
   ·rename_i Y;obtain ⟨y,hy,gy⟩:=G.it (hint-B) (by lia);refine Yad (Oh L G.gk hy gy O ?_);dsimp only;cases hb2:byd b left key arr base (hint-B) with
    | false=>exact Yaf ⟨rfl,_,_,rfl,by lia,by lia,by lia,hb2⟩
    | true=>
     refine Yaf ?_;dsimp only;rw [Yev (by lia)];exact G4 L G O (by lia) (by lia) (λi hi=>G.mono i (hint-B) (by lia) (by lia) hb2) (λi Z h7=>N _ i U Z h7) q
  ·rintro c D ⟨rfl,last,B,rfl,h1,h2,h3,U⟩;dsimp only;have Y:hint+1<=B:=by simp at h2;lia
   rw [Nat.min_eq_right Y];exact G4 L G O (by lia) (by lia) (λi hi=>by lia) (λi Z h7=>N _ i U Z h7) q
end
end
noncomputable abbrev MLs:=Option (Array Keyed)×Array Keyed×Nat×Nat×Nat×Nat
noncomputable abbrev MLt:=Option (Array Keyed)×Array Keyed×Nat×Nat×Nat×Nat×Nat
noncomputable def Os (a b out:Array Keyed)(ia ib:Nat):Array Keyed:=out++a.extract ia++b.extract ib
noncomputable def Vw (a b out:Array Keyed)(ia ib:Nat):Array Keyed:=out++b.extract ib++a.extract ia
noncomputable def Zb8 (a b:Array Keyed)(mg:Nat):Nat->MLs->StateT SortSt Sem (ForInStep MLs):=λ_ r=>
 let out:=r.2.1;let ia:=r.2.2.1;let ib:=r.2.2.2.1;let qZ:=r.2.2.2.2.1;let qX:=r.2.2.2.2.2
 do
 let x <- elem' b ib
 let y <- elem' a ia
 match <- lt' x y with
 | some bWins=>
  if bWins=true then do
   let z <- elem' b ib
   let out:=out.push z
   let ib:=ib+1
   let qX:=qX+1
   let qZ:=0
   if (ib == b.size)=true then pure (.done (some (Os a b out ia ib),out,ia,ib,qZ,qX))
   else if qX>=mg then pure (.done (none,out,ia,ib,qZ,qX))
   else pure (.yield (none,out,ia,ib,qZ,qX))
  else do
   let z <- elem' a ia
   let out:=out.push z
   let ia:=ia+1
   let qZ:=qZ+1
   let qX:=0
   if (ia+1 == a.size)=true then pure (.done (some (Vw a b out ia ib),out,ia,ib,qZ,qX))
   else if qZ>=mg then pure (.done (none,out,ia,ib,qZ,qX))
   else pure (.yield (none,out,ia,ib,qZ,qX))
 | _=>pure (.done (some (Os a b out ia ib),out,ia,ib,qZ,qX))
noncomputable def mlD (a b:Array Keyed)(q j k:Nat)(out:Array Keyed)(ia ib:Nat):StateT SortSt Sem (ForInStep MLt):=do
 let qX:=k
 let z <- elem' a ia
 let out:=out.push z
 let ia:=ia+1
 if (ia+1 == a.size)=true then pure (.done (some (Vw a b out ia ib),out,ia,ib,q,j,qX))
 else if (decide (j<7) && decide (qX<7))=true then pure (.done (none,out,ia,ib,q,j,qX))
 else pure (.yield (none,out,ia,ib,q,j,qX))
noncomputable def mlC (a b:Array Keyed)(j q B:Nat)(out:Array Keyed)(ia ib:Nat):StateT SortSt Sem (ForInStep MLt):=do
 let z <- elem' b ib
 let out:=out.push z
 let ib:=ib+1
 if (ib == b.size)=true then pure (.done (some (Os a b out ia ib),out,ia,ib,j,q,B))
 else do
  let y <- elem' a ia
  match <- J7 true y b ib (b.size-ib) 0 with
  | some k=>
   let B:=k
   if k > 0 then
    let out:=out++b.extract ib (ib+k)
    let ib:=ib+k
    if (ib == b.size)=true then pure (.done (some (Os a b out ia ib),out,ia,ib,j,q,B))
    else mlD a b j q k out ia ib
   else mlD a b j q k out ia ib
  | _=>pure (.done (some (Os a b out ia ib),out,ia,ib,j,q,B))
noncomputable def mlB (a b:Array Keyed)(j q B:Nat)(out:Array Keyed)(ia ib:Nat):StateT SortSt Sem (ForInStep MLt):=do
 UY j
 let x <- elem' b ib
 match <- J7 false x a ia (a.size-ia) 0 with
 | some k=>
  let q:=k
  if k > 0 then
   let out:=out++a.extract ia (ia+k)
   let ia:=ia+k
   if (ia+1 == a.size)=true then pure (.done (some (Vw a b out ia ib),out,ia,ib,j,q,B))
   else if (ia == a.size)=true then pure (.done (some (Os a b out ia ib),out,ia,ib,j,q,B))
   else mlC a b j q B out ia ib
  else mlC a b j q B out ia ib
 | _=>pure (.done (some (Os a b out ia ib),out,ia,ib,j,q,B))
noncomputable def Zb9 (a b:Array Keyed):Nat->MLt->StateT SortSt Sem (ForInStep MLt):=λ_ r=>
 let out:=r.2.1;let ia:=r.2.2.1;let ib:=r.2.2.2.1;let qJ:=r.2.2.2.2.1;let qZ:=r.2.2.2.2.2.1;let qX:=r.2.2.2.2.2.2
 if qJ > 1 then mlB a b (qJ-1) qZ qX out ia ib else mlB a b qJ qZ qX out ia ib
noncomputable abbrev MLo:=Option (Array Keyed)×Array Keyed×Nat×Nat×Nat
noncomputable def Zca (a b:Array Keyed):Nat->MLo->StateT SortSt Sem (ForInStep MLo):=λ_ r=>
 let out:=r.2.1;let ia:=r.2.2.1;let ib:=r.2.2.2.1;let qJ:=r.2.2.2.2
 do
 let r <- forIn [:a.size+b.size] ((none,out,ia,ib,0,0):MLs) (Zb8 a b qJ)
 match r.1 with
 | some x=>pure (.done (some x,r.2.1,r.2.2.1,r.2.2.2.1,qJ))
 | none=>do
  liftM (rule "list.sort.gallop")
  let r <- forIn [:a.size+b.size] ((none,r.2.1,r.2.2.1,r.2.2.2.1,qJ+1,r.2.2.2.2.1,r.2.2.2.2.2):MLt) (Zb9 a b)
  match r.1 with
  | some x=>pure (.done (some x,r.2.1,r.2.2.1,r.2.2.2.1,r.2.2.2.2.1))
  | none=>do
   UY (r.2.2.2.2.1+1)
   pure (.yield (none,r.2.1,r.2.2.1,r.2.2.2.1,r.2.2.2.2.1+1))
theorem Jh {α β:Type}{m:StateT SortSt Sem α}{f g:α->StateT SortSt Sem β}(h:∀x,f x=g x):m >>= f=m >>= g:=by rw [funext h]
theorem V6 {α:Type}[Decidable c]{x y u v:α}(h1:x=y)(h2:u=v):(if c then x else u)=if c then y else v:=by rw [h1,h2]
theorem UZ {β:Type}{r:Std.Legacy.Range}{c:β}{f g:Nat->β->StateT SortSt Sem (ForInStep β)}(h:∀i x,f i x=g i x):forIn r c f=forIn r c g:=by rw [funext λi=>funext (h i)]
theorem Xn (a b:Array Keyed):V3 a b=(do
  liftM (rule "list.sort.merge-lo")
  let x <- elem' b 0
  let out:=#[x]
  if (1 == b.size)=true then pure (Os a b out 0 1)
  else if (0+1 == a.size)=true then pure (Vw a b out 0 1)
  else do
   let st <- get
   let r <- forIn [:a.size+b.size] ((none,out,0,1,gallopOf st):MLo) (Zca a b)
   match r.1 with
   | some r=>pure r
   | none=>liftM (unsupported "internal:list.sort.merge-bound")):=by
 refine Jh (m:=liftM (rule "list.sort.merge-lo")) λ_=>?_;refine Jh (m:=elem' b 0) λx=>?_;refine V6 (c:=(1 == b.size)=true) rfl ?_;refine V6 (c:=(0+1 == a.size)=true) rfl ?_;refine Jh (m:=get) λst=>?_;refine (Ybg (λm:StateT SortSt Sem MLo=>m >>= _) (UZ (r:=[:a.size+b.size]) (c:=((none,#[x],0,1,gallopOf st):MLo)) (g:=Zca a b) λi r=>?_)).trans ?_;rotate_left
 ·refine Jh λr=>?_;obtain ⟨B,L⟩:=r;cases B <;> rfl
 unfold Zca;refine (Ybg (λm:StateT SortSt Sem MLs=>m >>= _) (UZ (r:=[:a.size+b.size]) (g:=Zb8 a b r.2.2.2.2) λi r=>rfl)).trans ?_;refine Jh λq=>?_;obtain ⟨j,D⟩:=q;cases j with
 | some z=>rfl
 | none=>
  refine Jh (m:=liftM (rule "list.sort.gallop")) λ_=>?_;refine (Ybg (λm:StateT SortSt Sem MLt=>m >>= _) (UZ (r:=[:a.size+b.size]) (g:=Zb9 a b) λi r=>rfl)).trans ?_;refine Jh λq=>?_;obtain ⟨j,D⟩:=q;cases j <;> rfl
section
variable {b:Keyed->Keyed->Bool}
noncomputable abbrev kle (b:Keyed->Keyed->Bool)(x y:Keyed):Prop:=b y x=false
theorem WO.le_trans (W:WO b){x y z:Keyed}(h1:kle b x y)(h2:kle b y z):kle b x z:=by
 cases h:b z x with
 | false=>exact h
 | true=>
  rcases W.neg z y x h with q | q
  ·rw [show b z y=false from h2] at q;cases q
  ·rw [show b y x=false from h1] at q;cases q
theorem WO.le_of_lt (W:WO b){x y:Keyed}(h:b x y=true):kle b x y:=by
 cases q:b y x with
 | false=>exact q
 | true=>
  have:=W.tr _ _ _ h q;rw [W.irr] at this;cases this
theorem WO.le_refl (W:WO b)(x:Keyed):kle b x x:=W.irr x
structure Mrg (b:Keyed->Keyed->Bool)(all out ra rb:List Keyed):Prop where
 perm:(out++ra++rb).Perm all
 so:out.Pairwise (kle b)
 le:∀x∈out,∀y∈ra++rb,kle b x y
 sa:ra.Pairwise (kle b)
 sb:rb.Pairwise (kle b)
theorem Mrg.len (h:Mrg b all out j q):out.length+j.length+q.length=all.length:=by
 have:=h.perm.length_eq;rw [Yam,Yam] at this;exact this
theorem Mrg.moveA (h:Mrg b all out (u++B) D)(N:∀x∈u,∀y∈D,kle b x y):Mrg b all (out++u) B D:=by
 have L:=Ycb.mp h.sa;refine ⟨by rw [Ybw out u B];exact h.perm,Ycb.mpr ⟨h.so,L.1,λx q y j=>h.le x q y (by simp [j])⟩,λx q y j=>?_,L.2.1,h.sb⟩;rcases Yak.mp q with q | q
 ·refine h.le x q y ?_;rcases Yak.mp j with j | j
  ·simp [j]
  ·simp [j]
 ·rcases Yak.mp j with j | j
  ·exact L.2.2 x q y j
  ·exact N x q y j
theorem Mrg.moveB (h:Mrg b all out B (u++L))(N:∀x∈u,∀y∈B,kle b x y):Mrg b all (out++u) B L:=by
 have D:=Ycb.mp h.sb;refine ⟨?_,Ycb.mpr ⟨h.so,D.1,λx q y j=>h.le x q y (by simp [j])⟩,λx q y j=>?_,h.sa,D.2.1⟩
 ·refine List.Perm.trans ?_ h.perm;simp only [Ybw];refine Yfr _ ?_;rw [<-Ybw,<-Ybw];exact List.Perm.append_right _ List.perm_append_comm
 ·rcases Yak.mp q with q | q
  ·refine h.le x q y ?_;rcases Yak.mp j with j | j
   ·simp [j]
   ·simp [j]
  ·rcases Yak.mp j with j | j
   ·exact N x q y j
   ·exact D.2.2 x q y j
noncomputable def Jp (b:Keyed->Keyed->Bool)(all r:List Keyed):Prop:=r.Perm all/\r.Pairwise (kle b)
theorem Mrg.endA (h:Mrg b all out j q)(hz:∀x∈j,∀y∈q,kle b x y):Jp b all (out++j++q):=by
 refine ⟨h.perm,?_⟩;rw [Ybw];exact Ycb.mpr ⟨h.so,Ycb.mpr ⟨h.sa,h.sb,hz⟩,h.le⟩
theorem Mrg.endB (h:Mrg b all out q B)(hz:∀x∈B,∀y∈q,kle b x y):Jp b all (out++B++q):=by
 refine ⟨?_,?_⟩
 ·refine List.Perm.trans ?_ h.perm;rw [Ybw,Ybw];exact Yfr _ List.perm_append_comm
 ·rw [Ybw];exact Ycb.mpr ⟨h.so,Ycb.mpr ⟨h.sb,h.sa,hz⟩,λx D y j=>h.le x D y (by
   rcases Yak.mp j with j | j <;> simp [j])⟩
end
theorem Uy (a:Array Keyed)(i:Nat):(a.extract i).toList=a.toList.drop i:=by
 rw [Yfk,Yfl,Yfw];rw [Yei];exact Yae _
theorem X7 (a:Array Keyed)(i k:Nat):(a.extract i (i+k)).toList=(a.toList.drop i).take k:=by
 rw [Yfk,Yfl,Nat.add_sub_cancel_left]
theorem JC {a:Array Keyed}(h:a[i]?=some x):a.toList.drop i=x::a.toList.drop (i+1):=by
 rw [<-Yba] at h;obtain ⟨h1,h2⟩:=Yal.mp h;rw [Yfs h1,h2]
noncomputable def SameG (st j:SortSt):Prop:=kindOf j=kindOf st/\arrOf j=arrOf st/\pendingOf j=pendingOf st/\failedOf j=failedOf st
theorem SameG.refl (st:SortSt):SameG st st:=⟨rfl,rfl,rfl,rfl⟩
theorem SameG.trans {st q j:SortSt}(h:SameG st q)(k:SameG q j):SameG st j:=⟨k.1.trans h.1,k.2.1.trans h.2.1,k.2.2.1.trans h.2.2.1,k.2.2.2.trans h.2.2.2⟩
section
variable {M:Model}{A:Around}{E:Aa->SS->Prop}{s:SS}{kd:SortKind}{b:Keyed->Keyed->Bool}{good:Keyed->Prop}
theorem Oi {st:SortSt}(q:∀j,SameG st j->Q () j):wpS M A E s (UY g) Q st:=by
 refine Ycr (f:=λs=>SortSt.mk' (kindOf s) (arrOf s) (pendingOf s) g (failedOf s)) (q _ ⟨rfl,rfl,rfl,rfl⟩)
structure Two (b:Keyed->Keyed->Bool)(good:Keyed->Prop)(a c:Array Keyed):Prop where
 ga:∀x∈a.toList,good x
 gc:∀x∈c.toList,good x
 sa:a.toList.Pairwise (kle b)
 sc:c.toList.Pairwise (kle b)
 na:0<a.size
 nc:0<c.size
 first:∀x,c[0]?=some x->∀y∈a.toList,kle b x y
 last:∀z,a[a.size-1]?=some z->∀y∈c.toList,kle b y z
variable {a c:Array Keyed}
theorem Two.at (T:Two b good a c)(h:i<a.size):∃x,a[i]?=some x/\good x:=⟨a[i],by simp [h],T.ga _ (by simp)⟩
theorem Two.ct (T:Two b good a c)(h:i<c.size):∃x,c[i]?=some x/\good x:=⟨c[i],by simp [h],T.gc _ (by simp)⟩
noncomputable def ML (b:Keyed->Keyed->Bool)(a c out:Array Keyed)(ia ib:Nat):Prop:=Mrg b (a.toList++c.toList) out.toList (a.toList.drop ia) (c.toList.drop ib)
theorem ML.done (h:ML b a c out ia ib)(e:ib=c.size\/ia=a.size):Jp b (a.toList++c.toList) (Os a c out ia ib).toList:=by
 unfold Os;rw [Ydc,Ydc,Uy,Uy];refine Mrg.endA h λx j y q=>?_;rcases e with e | e
 ·rw [Yfx (by rw [e,Yan];exact Yae _)] at q;cases q
 ·rw [Yfx (by rw [e,Yan];exact Yae _)] at j;cases j
theorem ML.last (T:Two b good a c)(h:ML b a c out ia ib)(e:ia+1=a.size):Jp b (a.toList++c.toList) (Vw a c out ia ib).toList:=by
 unfold Vw;rw [Ydc,Ydc,Uy,Uy];refine Mrg.endB h λx B y j=>?_;obtain ⟨z,q,_⟩:=T.at (i:=ia) (by lia);rw [JC q,Yfx (by rw [Yan];lia)] at j;have:y=z:=by simpa using j
 subst this;exact T.last y (by rw [<-e];exact q) x (List.mem_of_mem_drop B)
theorem ML.pushB (h:ML b a c out ia ib)(j:c[ib]?=some x)(q:∀y∈a.toList.drop ia,kle b x y):ML b a c (out.push x) ia (ib+1):=by
 unfold ML at h ⊢;rw [Yek];rw [JC j] at h;exact Mrg.moveB (u:=[x]) h λz B y D=>by
  have:z=x:=by simpa using B
  subst this;exact q y D
theorem ML.pushA (h:ML b a c out ia ib)(j:a[ia]?=some x)(q:∀y∈c.toList.drop ib,kle b x y):ML b a c (out.push x) (ia+1) ib:=by
 unfold ML at h ⊢;rw [Yek];rw [JC j] at h;exact Mrg.moveA (u:=[x]) h λz B y D=>by
  have:z=x:=by simpa using B
  subst this;exact q y D
theorem ML.takeA (h:ML b a c out ia ib)(j:∀x∈(a.toList.drop ia).take k,∀y∈c.toList.drop ib,kle b x y):ML b a c (out++a.extract ia (ia+k)) (ia+k) ib:=by
 unfold ML at h ⊢;rw [Ydc,X7];rw [<-Ydq k (a.toList.drop ia),List.drop_drop] at h;exact Mrg.moveA h j
theorem ML.takeB (h:ML b a c out ia ib)(j:∀x∈(c.toList.drop ib).take k,∀y∈a.toList.drop ia,kle b x y):ML b a c (out++c.extract ib (ib+k)) ia (ib+k):=by
 unfold ML at h ⊢;rw [Ydc,X7];rw [<-Ydq k (c.toList.drop ib),List.drop_drop] at h;exact Mrg.moveB h j
theorem V7 (W:WO b)(h:(x::l).Pairwise (kle b)):∀y∈x::l,kle b x y:=λy j=>by
 rcases Yav.mp j with rfl | j
 ·exact W.le_refl _
 ·exact (Yej.mp h).1 y j
theorem Zaw (W:WO b)(L:O2 M A E s kd b good)(T:Two b good a c){st:SortSt}(hs:kindOf st=kd)(h:ML b a c out ia ib)(h1:ia+1<a.size)(h2:ib<c.size)(q1:∀r y D,SameG st D->Jp b (a.toList++c.toList) r.toList->Q (some r,y) D)(q2:∀j q B U Y D,SameG st D->ML b a c j q B->q+1<a.size->B<c.size->out.size<j.size->Q (none,j,q,B,U,Y) D) :
  wpS M A E s (forIn [:a.size+c.size] ((none,out,ia,ib,0,0):MLs) (Zb8 a c mg)) Q st:=by
 refine Yce (λk r D=>SameG st D/\∃j q B U Y,r=(none,j,q,B,U,Y)/\ML b a c j q B/\q+1<a.size/\B<c.size/\out.size+k<=j.size) ?_ ?_ ⟨SameG.refl _,_,_,_,_,_,rfl,h,h1,h2,Yae _⟩
 ·rintro k r O _ hk ⟨N,j,q,B,U,Y,rfl,h,h1,h2,h3⟩;have aa:kindOf O=kd:=N.1.trans hs;unfold Zb8;dsimp only;obtain ⟨x,Z,gx⟩:=T.ct h2;obtain ⟨y,hy,gy⟩:=T.at (i:=q) (by lia);refine Yad (Gs Z (Yad (Gs hy (Yad (L x y O _ gx gy aa ?_)))));have sA:(a.toList.drop q).Pairwise (kle b):=h.sa;have sB:(c.toList.drop B).Pairwise (kle b):=h.sb;rw [JC hy] at sA;rw [JC Z] at sB;dsimp only;cases hb:b x y with
  | true=>
   rw [if_pos rfl];refine Yad (Gs Z ?_);have h':=h.pushB Z λz hz=>by
    rw [JC hy] at hz;exact W.le_trans (W.le_of_lt hb) (V7 W sA z hz)
   split
   ·rename_i e;exact Yaf (q1 _ _ _ N (h'.done (.inl (eq_of_beq e))))
   ·rename_i e;have e:B+1<c.size:=by
     have:B+1≠c.size:=λz=>e (Ybh.mpr z)
     lia
    split
    ·exact Yaf (q2 _ _ _ _ _ _ N h' h1 e (by rw [Ycq];lia))
    ·exact Yaf ⟨N,_,_,_,_,_,rfl,h',h1,e,by rw [Ycq];lia⟩
  | false=>
   rw [if_neg Yaq];refine Yad (Gs hy ?_);have h':=h.pushA hy λz hz=>by
    rw [JC Z] at hz;exact W.le_trans hb (V7 W sB z hz)
   split
   ·rename_i e;exact Yaf (q1 _ _ _ N (h'.last T (eq_of_beq e)))
   ·rename_i e;have e:q+1+1<a.size:=by
     have:q+1+1≠a.size:=λz=>e (Ybh.mpr z)
     lia
    split
    ·exact Yaf (q2 _ _ _ _ _ _ N h' e h2 (by rw [Ycq];lia))
    ·exact Yaf ⟨N,_,_,_,_,_,rfl,h',e,h2,by rw [Ycq];lia⟩
 ·rintro r O ⟨N,j,q,B,U,Y,rfl,h,h1,h2,h3⟩;exact q2 _ _ _ _ _ _ N h h1 h2 (by have:=T.na;simp at h3;lia)
end
noncomputable def Rng (b:Keyed->Keyed->Bool)(arr:Array Keyed)(lo hi:Nat):Prop:=∀i j x y,lo<=i->i<=j->j<hi->arr[i]?=some x->arr[j]?=some y->kle b x y
section
variable {M:Model}{A:Around}{E:Aa->SS->Prop}{s:SS}{kd:SortKind}{b:Keyed->Keyed->Bool}{good:Keyed->Prop}
theorem Zcb (W:WO b):∀{l:List Keyed}{i j:Nat}{x y:Keyed},l.Pairwise (kle b)->i<=j->l[i]?=some x->l[j]?=some y->kle b x y
 | [],_,_,_,_,_,_,h,_=>by simp at h
 | z::l,0,0,x,y,_,_,h1,h2=>by
  simp at h1 h2;subst h1 h2;exact W.le_refl _
 | z::l,0,j+1,x,y,h,_,h1,h2=>by
  simp at h1 h2;subst h1;exact (Yej.mp h).1 y (Yaz h2)
 | z::l,i+1,0,_,_,_,h,_,_=>by lia
 | z::l,i+1,j+1,x,y,h,hij,h1,h2=>by
  simp at h1 h2;exact Zcb W (Yej.mp h).2 (by lia) h1 h2
theorem Zc2 (W:WO b){lo:Nat}(h:(arr.toList.drop lo).Pairwise (kle b)):Rng b arr lo arr.size:=λi j x y h1 h2 D q B=>by
 refine Zcb (i:=i-lo) (j:=j-lo) W h (by lia) ?_ ?_
 ·rw [Yes,Ydp h1,Yba];exact q
 ·rw [Yes,Ydp (Ybr h1 h2),Yba];exact B
theorem Vx (W:WO b)(O:good key)(D:∀i,i<n->∃x,arr[base+i]?=some x/\good x)(h:Rng b arr base (base+n)):Gal b good left key arr base n:=by
 refine ⟨O,D,λi j h1 h2 q=>?_⟩;obtain ⟨x,L,_⟩:=D i (by lia);obtain ⟨y,N,_⟩:=D j h2;have B:=h (base+i) (base+j) x y (by lia) (by lia) (by lia) L N;unfold byd at q ⊢;rw [N] at q;rw [L];dsimp only at q ⊢;cases left with
 | true=>
  rw [if_pos rfl] at q ⊢;rcases W.neg y x key q with z | z
  ·rw [show b y x=false from B] at z;cases z
  ·exact z
 | false=>
  rw [if_neg Yaq] at q ⊢;rw [Bool.not_eq_true'] at q ⊢;exact W.le_trans (x:=x) (y:=y) (z:=key) B q
variable {a c:Array Keyed}
theorem X8 {arr:Array Keyed}(h:x∈(arr.toList.drop base).take k):∃i,i<k/\arr[base+i]?=some x:=by
 obtain ⟨i,hi⟩:=Yfm.mp h;rw [Yer] at hi;split at hi
 ·rw [Yes,Yba] at hi;exact ⟨i,by assumption,hi⟩
 ·cases hi
theorem X9 {arr:Array Keyed}(h:x∈arr.toList.drop base):∃i,base+i<arr.size/\arr[base+i]?=some x:=by
 obtain ⟨i,hi⟩:=Yfm.mp h;rw [Yes,Yba] at hi;exact ⟨i,(Yfu.mp hi).1,hi⟩
section
variable {out:Array Keyed}{ia ib:Nat}{st:SortSt}{Q:ForInStep MLt->SortSt->Prop}
structure Zcc (b:Keyed->Keyed->Bool)(a c:Array Keyed)(n:Nat)(st:SortSt)(Q:ForInStep MLt->SortSt->Prop):Prop where
 fin:∀r y st',SameG st st'->Jp b (a.toList++c.toList) r.toList->Q (.done (some r,y)) st'
 brk:∀out' ia' ib' y st',SameG st st'->ML b a c out' ia' ib'->ia'+1<a.size->ib'<c.size->n<=out'.size->Q (.done (none,out',ia',ib',y)) st'
 go:∀out' ia' ib' y st',SameG st st'->ML b a c out' ia' ib'->ia'+1<a.size->ib'<c.size->n<=out'.size->Q (.yield (none,out',ia',ib',y)) st'
theorem Zax (T:Two b good a c)(R:Zcc b a c n st Q)(h:ML b a c out ia ib)(h1:ia+1<a.size)(h2:ib<c.size)(L:n<=out.size)(D:∀x,a[ia]?=some x->∀y∈c.toList.drop ib,kle b x y) :
  wpS M A E s (mlD a c mg B k out ia ib) Q st:=by
 unfold mlD;obtain ⟨x,q,N⟩:=T.at (i:=ia) (by lia);refine Yad (Gs q ?_);have h':=h.pushA q (D x q);have j:n<=(out.push x).size:=by rw [Ycq];lia
 dsimp only;split
 ·rename_i e;exact Yaf (R.fin _ _ _ (SameG.refl _) (h'.last T (eq_of_beq e)))
 ·rename_i e;have e:ia+1+1<a.size:=by
   have:ia+1+1≠a.size:=λz=>e (Ybh.mpr z)
   lia
  split
  ·exact Yaf (R.brk _ _ _ _ _ (SameG.refl _) h' e h2 j)
  ·exact Yaf (R.go _ _ _ _ _ (SameG.refl _) h' e h2 j)
theorem Zay (W:WO b)(L:O2 M A E s kd b good)(T:Two b good a c)(R:Zcc b a c n st Q)(hs:kindOf st=kd)(h:ML b a c out ia ib)(h1:ia+1<a.size)(h2:ib<c.size)(hn:n<=out.size)(hl:∀x,c[ib]?=some x->∀y∈a.toList.drop ia,kle b x y):wpS M A E s (mlC a c mg ac bc out ia ib) Q st:=by
 unfold mlC;obtain ⟨x,U,gx⟩:=T.ct h2;obtain ⟨y,B,gy⟩:=T.at (i:=ia) (by lia);refine Yad (Gs U ?_);have h':=h.pushB U (hl x U);have D:n<=(out.push x).size:=by rw [Ycq];lia
 generalize out.push x=N at h' D;dsimp only;split
 ·rename_i e;exact Yaf (R.fin _ _ _ (SameG.refl _) (h'.done (.inl (eq_of_beq e))))
 ·rename_i e;have e:ib+1<c.size:=by
   have:ib+1≠c.size:=λz=>e (Ybh.mpr z)
   lia
  refine Yad (Gs B ?_);have sB:Rng b c (ib+1) c.size:=Zc2 W h'.sb;have Z:(a.toList.drop ia).Pairwise (kle b):=h'.sa;rw [JC B] at Z;have G:Gal b good true y c (ib+1) (c.size-(ib+1)):=Vx W gy (λi hi=>T.ct (by lia)) (by rw [Ydp (by lia)];exact sB);refine Yad (Jx L G hs (by lia) λk hk k1 k2=>?_);dsimp only;have tk:∀z∈(c.toList.drop (ib+1)).take k,∀v∈a.toList.drop ia,kle b z v:=λz hz v q=>by
   obtain ⟨i,hi,ez⟩:=X8 hz;have:=k1 i hi;unfold byd at this;rw [ez] at this;dsimp only at this;rw [if_pos rfl] at this;rw [JC B] at q;exact W.le_trans (W.le_of_lt this) (V7 W Z v q)
  have tr:∀v∈c.toList.drop (ib+1+k),kle b y v:=λv q=>by
   obtain ⟨i,hi,ev⟩:=X9 q;have:=k2 (k+i) (by lia) (by lia);unfold byd at this;rw [show ib+1+(k+i)=ib+1+k+i by lia,ev] at this;dsimp only at this;rw [if_pos rfl] at this;exact this
  split
  ·have h3:=h'.takeB tk;have Y:n<=(N++c.extract (ib+1) (ib+1+k)).size:=by rw [Array.size_append];lia
   split
   ·rename_i O;exact Yaf (R.fin _ _ _ (SameG.refl _) (h3.done (.inl (eq_of_beq O))))
   ·rename_i O;have O:ib+1+k<c.size:=by
     have:ib+1+k≠c.size:=λz=>O (Ybh.mpr z)
     lia
    exact Zax T R h3 h1 O Y λx' j v q=>by
     rw [B] at j;cases j;exact tr v q
  ·rename_i aa;have:k=0:=by lia
   subst this;exact Zax T R h' h1 e D λx' j v q=>by
    rw [B] at j;cases j;exact tr v q
theorem Zd1 (W:WO b)(L:O2 M A E s kd b good)(T:Two b good a c)(R:∀D,SameG st D->Zcc b a c n D Q)(hs:kindOf st=kd)(h:ML b a c out ia ib)(h1:ia+1<a.size)(h2:ib<c.size)(hn:n<=out.size) :
  wpS M A E s (mlB a c mg ac bc out ia ib) Q st:=by
 unfold mlB;refine Yad (Oi λN sg=>?_);have R:=R N sg;have B:kindOf N=kd:=sg.1.trans hs;obtain ⟨x,O,gx⟩:=T.ct h2;refine Yad (Gs O ?_);have sA:Rng b a ia a.size:=Zc2 W h.sa;have sB:(c.toList.drop ib).Pairwise (kle b):=h.sb;rw [JC O] at sB;have G:Gal b good false x a ia (a.size-ia):=Vx W gx (λi hi=>T.at (by lia)) (by rw [Ydp (by lia)];exact sA);refine Yad (Jx L G B (by lia) λk hk k1 k2=>?_);dsimp only;have tk:∀z∈(a.toList.drop ia).take k,∀v∈c.toList.drop ib,kle b z v:=λz hz v q=>by
  obtain ⟨i,hi,ez⟩:=X8 hz;have:=k1 i hi;unfold byd at this;rw [ez] at this;dsimp only at this;rw [if_neg Yaq,Bool.not_eq_true'] at this;rw [JC O] at q;exact W.le_trans this (V7 W sB v q)
 have tr:∀v∈a.toList.drop (ia+k),kle b x v:=λv q=>by
  obtain ⟨i,hi,ev⟩:=X9 q;have:=k2 (k+i) (by lia) (by lia);unfold byd at this;rw [show ia+(k+i)=ia+k+i by lia,ev] at this;dsimp only at this;rw [if_neg Yaq,Bool.not_eq_false'] at this;exact W.le_of_lt this
 split
 ·have U:=h.takeA tk;have Y:n<=(out++a.extract ia (ia+k)).size:=by rw [Array.size_append];lia
  split
  ·rename_i Z;exact Yaf (R.fin _ _ _ (SameG.refl _) (U.last T (eq_of_beq Z)))
  ·rename_i Z;split
   ·rename_i e3;exact Yaf (R.fin _ _ _ (SameG.refl _) (U.done (.inr (eq_of_beq e3))))
   ·rename_i e3;have e4:ia+k+1<a.size:=by
     have:ia+k+1≠a.size:=λz=>Z (Ybh.mpr z);have:ia+k≠a.size:=λz=>e3 (Ybh.mpr z)
     lia
    exact Zay W L T R B U e4 h2 Y λx' j v q=>by
     rw [O] at j;cases j;exact tr v q
 ·have:k=0:=by lia
  subst this;exact Zay W L T R B h h1 h2 hn λx' j v q=>by
   rw [O] at j;cases j;exact tr v q
end
theorem Zaz (W:WO b)(L:O2 M A E s kd b good)(T:Two b good a c){st:SortSt}(hs:kindOf st=kd)(h:ML b a c out ia ib)(h1:ia+1<a.size)(h2:ib<c.size)(q1:∀r y B,SameG st B->Jp b (a.toList++c.toList) r.toList->Q (some r,y) B)(q2:∀q D N y B,SameG st B->ML b a c q D N->D+1<a.size->N<c.size->out.size<=q.size->Q (none,q,D,N,y) B) :
  wpS M A E s (forIn [:n] ((none,out,ia,ib,y):MLt) (Zb9 a c)) Q st:=by
 refine Yce (λk r B=>SameG st B/\∃q D N y,r=(none,q,D,N,y)/\ML b a c q D N/\D+1<a.size/\N<c.size/\out.size<=q.size) ?_ ?_ ⟨SameG.refl _,_,_,_,_,rfl,h,h1,h2,Yae _⟩
 ·rintro k r O _ hk ⟨Z,q,D,N,y,rfl,h,h1,h2,h3⟩;have aa:kindOf O=kd:=Z.1.trans hs;have R:∀B,SameG O B->Zcc b a c out.size B (λr B=>match r with
   | .done c'=>Q c' B
   | .yield c'=>SameG st B/\∃q D N y,c'=(none,q,D,N,y)/\ML b a c q D N/\D+1<a.size/\N<c.size/\out.size<=q.size):=λB Y=>
   ⟨λr y U g m=>q1 r y U ((Z.trans Y).trans g) m,λo i j y U g m p1 p2 p3=>q2 o i j y U ((Z.trans Y).trans g) m p1 p2 p3,λo i j y U g m p1 p2 p3=>⟨(Z.trans Y).trans g,o,i,j,y,rfl,m,p1,p2,p3⟩⟩
  unfold Zb9;dsimp only;have mono:∀mg,wpS M A E s (mlB a c mg y.2.1 y.2.2 q D N) _ O:=λmg=>Zd1 W L T R aa h h1 h2 h3;split
  ·exact wpS_mono (mono _) λr B hr=>by cases r <;> exact hr
  ·exact wpS_mono (mono _) λr B hr=>by cases r <;> exact hr
 ·rintro r O ⟨Z,q,D,N,y,rfl,h,h1,h2,h3⟩;exact q2 _ _ _ _ _ Z h h1 h2 h3
theorem Xo (W:WO b)(L:O2 M A E s kd b good)(T:Two b good a c){st:SortSt}(hs:kindOf st=kd)(q:∀r O,SameG st O->Jp b (a.toList++c.toList) r.toList->Q r O):wpS M A E s (V3 a c) Q st:=by
 rw [Xn];refine Yad (wpS_lift (Ydi ⟨rfl,?_⟩));obtain ⟨x,hx,gx⟩:=T.ct T.nc;refine Yad (Gs hx ?_);have h0:ML b a c #[x] 0 1:=by
  have z:ML b a c #[] 0 0:=⟨by simp,by simp,by simp,by simpa using T.sa,by simpa using T.sc⟩;exact z.pushB hx λy hy=>T.first x hx y (by simpa using hy)
 have hc:=T.nc;have ha:=T.na;dsimp only;split
 ·rename_i e;exact Yaf (q _ _ (SameG.refl _) (h0.done (.inl (eq_of_beq e))))
 ·rename_i e;have e:1<c.size:=by
   have:1≠c.size:=λz=>e (Ybh.mpr z)
   lia
  split
  ·rename_i U;exact Yaf (q _ _ (SameG.refl _) (h0.last T (eq_of_beq U)))
  ·rename_i U;have U:0+1<a.size:=by
    have:0+1≠a.size:=λz=>U (Ybh.mpr z)
    lia
   refine Yad (wpS_get ?_);refine Yad (Yce (λk r O=>SameG st O/\∃B D N mg,r=(none,B,D,N,mg)/\ML b a c B D N/\D+1<a.size/\N<c.size/\k<B.size) ?_ ?_ ⟨SameG.refl _,_,_,_,_,rfl,h0,U,e,by simp⟩)
   ·rintro k r Y _ hk ⟨Z,B,D,N,mg,rfl,h,h1,h2,h3⟩;have aa:kindOf Y=kd:=Z.1.trans hs;unfold Zca;dsimp only;refine Yad (Zaw W L T aa h h1 h2 (λr y ab g m=>?_) (λo i j ac bc ab g m p1 p2 p3=>?_))
    ·refine Yaf ?_;dsimp only;exact Yaf (q r ab (Z.trans g) m)
    ·dsimp only;refine Yad (wpS_lift (Ydi ⟨rfl,?_⟩));refine Yad (Zaz W L T (g.1.trans aa) m p1 p2 (λr y ad g3 m3=>?_) (λo3 i3 j3 y3 ad g3 m3 r1 r2 r3=>?_))
     ·refine Yaf ?_;dsimp only;exact Yaf (q r ad ((Z.trans g).trans g3) m3)
     ·dsimp only;refine Yad (Oi λae g4=>?_);exact Yaf ⟨((Z.trans g).trans g3).trans g4,_,_,_,_,rfl,m3,r1,r2,by lia⟩
   ·rintro r Y ⟨Z,B,D,N,mg,rfl,h,h1,h2,h3⟩;exfalso;have:=Mrg.len h;rw [Yam,Yei,Yei,Yan,Yan,Yan] at this;simp at h3
    lia
end
noncomputable abbrev MHs:=Option (Array Keyed)×Nat×Nat×Array Keyed×Nat×Nat
noncomputable abbrev MHt:=Option (Array Keyed)×Nat×Nat×Array Keyed×Nat×Nat×Nat
noncomputable abbrev MHo:=Option (Array Keyed)×Nat×Nat×Array Keyed×Nat
noncomputable def Ot (a b out:Array Keyed)(na nb:Nat):Array Keyed:=a.extract 0 na++b.extract 0 nb++out.reverse
noncomputable def Ua (a b out:Array Keyed)(na nb:Nat):Array Keyed:=b.extract 0 nb++a.extract 0 na++out.reverse
noncomputable def Zcd (a b:Array Keyed)(mg:Nat):Nat->MHs->StateT SortSt Sem (ForInStep MHs):=λ_ r=>
 let na:=r.2.1;let nb:=r.2.2.1;let out:=r.2.2.2.1;let qZ:=r.2.2.2.2.1;let qX:=r.2.2.2.2.2
 do
 let x <- elem' b (nb-1)
 let y <- elem' a (na-1)
 match <- lt' x y with
 | some aWins=>
  if aWins=true then do
   let na:=na-1
   let z <- elem' a na
   let out:=out.push z
   let qZ:=qZ+1
   let qX:=0
   if (na == 0)=true then pure (.done (some (Ot a b out na nb),na,nb,out,qZ,qX))
   else if qZ>=mg then pure (.done (none,na,nb,out,qZ,qX))
   else pure (.yield (none,na,nb,out,qZ,qX))
  else do
   let nb:=nb-1
   let z <- elem' b nb
   let out:=out.push z
   let qX:=qX+1
   let qZ:=0
   if (nb == 1)=true then pure (.done (some (Ua a b out na nb),na,nb,out,qZ,qX))
   else if qX>=mg then pure (.done (none,na,nb,out,qZ,qX))
   else pure (.yield (none,na,nb,out,qZ,qX))
 | _=>pure (.done (some (Ot a b out na nb),na,nb,out,qZ,qX))
noncomputable def mhD (a b:Array Keyed)(B j q:Nat)(na nb:Nat)(out:Array Keyed):StateT SortSt Sem (ForInStep MHt):=do
 let na:=na-1
 let z <- elem' a na
 let out:=out.push z
 if (na == 0)=true then pure (.done (some (Ot a b out na nb),na,nb,out,B,j,q))
 else if (decide (j<7) && decide (q<7))=true then pure (.done (none,na,nb,out,B,j,q))
 else pure (.yield (none,na,nb,out,B,j,q))
noncomputable def mhC (a b:Array Keyed)(q B j:Nat)(na nb:Nat)(out:Array Keyed):StateT SortSt Sem (ForInStep MHt):=do
 let nb:=nb-1
 let z <- elem' b nb
 let out:=out.push z
 if (nb == 1)=true then pure (.done (some (Ua a b out na nb),na,nb,out,q,B,j))
 else do
  let y <- elem' a (na-1)
  match <- J7 true y b 0 nb (nb-1) with
  | some at_=>
   let k:=nb-at_
   let j:=k
   if k > 0 then
    let out:=out++(b.extract at_ nb).reverse
    let nb:=at_
    if (nb == 1)=true then pure (.done (some (Ua a b out na nb),na,nb,out,q,B,j))
    else if (nb == 0)=true then pure (.done (some (Ot a b out na nb),na,nb,out,q,B,j))
    else mhD a b q B j na nb out
   else mhD a b q B j na nb out
  | _=>pure (.done (some (Ot a b out na nb),na,nb,out,q,B,j))
noncomputable def mhB (a b:Array Keyed)(j q B:Nat)(na nb:Nat)(out:Array Keyed):StateT SortSt Sem (ForInStep MHt):=do
 UY j
 let x <- elem' b (nb-1)
 match <- J7 false x a 0 na (na-1) with
 | some at_=>
  let k:=na-at_
  let q:=k
  if k > 0 then
   let out:=out++(a.extract at_ na).reverse
   let na:=at_
   if (na == 0)=true then pure (.done (some (Ot a b out na nb),na,nb,out,j,q,B))
   else mhC a b j q B na nb out
  else mhC a b j q B na nb out
 | _=>pure (.done (some (Ot a b out na nb),na,nb,out,j,q,B))
noncomputable def Zce (a b:Array Keyed):Nat->MHt->StateT SortSt Sem (ForInStep MHt):=λ_ r=>
 let na:=r.2.1;let nb:=r.2.2.1;let out:=r.2.2.2.1;let qJ:=r.2.2.2.2.1;let qZ:=r.2.2.2.2.2.1;let qX:=r.2.2.2.2.2.2
 if qJ > 1 then mhB a b (qJ-1) qZ qX na nb out else mhB a b qJ qZ qX na nb out
noncomputable def Zcf (a b:Array Keyed):Nat->MHo->StateT SortSt Sem (ForInStep MHo):=λ_ r=>
 let na:=r.2.1;let nb:=r.2.2.1;let out:=r.2.2.2.1;let qJ:=r.2.2.2.2
 do
 let r <- forIn [:a.size+b.size] ((none,na,nb,out,0,0):MHs) (Zcd a b qJ)
 match r.1 with
 | some x=>pure (.done (some x,r.2.1,r.2.2.1,r.2.2.2.1,qJ))
 | none=>do
  liftM (rule "list.sort.gallop")
  let r <- forIn [:a.size+b.size] ((none,r.2.1,r.2.2.1,r.2.2.2.1,qJ+1,r.2.2.2.2.1,r.2.2.2.2.2):MHt) (Zce a b)
  match r.1 with
  | some x=>pure (.done (some x,r.2.1,r.2.2.1,r.2.2.2.1,r.2.2.2.2.1))
  | none=>do
   UY (r.2.2.2.2.1+1)
   pure (.yield (none,r.2.1,r.2.2.1,r.2.2.2.1,r.2.2.2.2.1+1))
theorem Xp (a b:Array Keyed):V4 a b=(do
  liftM (rule "list.sort.merge-hi")
  let x <- elem' a (a.size-1)
  let out:=#[x]
  if (a.size-1 == 0)=true then pure (Ot a b out (a.size-1) b.size)
  else if (b.size == 1)=true then pure (Ua a b out (a.size-1) b.size)
  else do
   let st <- get
   let r <- forIn [:a.size+b.size] ((none,a.size-1,b.size,out,gallopOf st):MHo) (Zcf a b)
   match r.1 with
   | some r=>pure r
   | none=>liftM (unsupported "internal:list.sort.merge-bound")):=by
 refine Jh (m:=liftM (rule "list.sort.merge-hi")) λ_=>?_;refine Jh (m:=elem' a (a.size-1)) λx=>?_;refine V6 (c:=(a.size-1 == 0)=true) rfl ?_;refine V6 (c:=(b.size == 1)=true) rfl ?_;refine Jh (m:=get) λst=>?_;refine (Ybg (λm:StateT SortSt Sem MHo=>m >>= _) (UZ (r:=[:a.size+b.size]) (c:=((none,a.size-1,b.size,#[x],gallopOf st):MHo)) (g:=Zcf a b) λi r=>?_)).trans ?_;rotate_left
 ·refine Jh λr=>?_;obtain ⟨B,L⟩:=r;cases B <;> rfl
 unfold Zcf;refine (Ybg (λm:StateT SortSt Sem MHs=>m >>= _) (UZ (r:=[:a.size+b.size]) (g:=Zcd a b r.2.2.2.2) λi r=>rfl)).trans ?_;refine Jh λq=>?_;obtain ⟨j,D⟩:=q;cases j with
 | some z=>rfl
 | none=>
  refine Jh (m:=liftM (rule "list.sort.gallop")) λ_=>?_;refine (Ybg (λm:StateT SortSt Sem MHt=>m >>= _) (UZ (r:=[:a.size+b.size]) (g:=Zce a b) λi r=>rfl)).trans ?_;refine Jh λq=>?_;obtain ⟨j,D⟩:=q;cases j <;> rfl
section
variable {b:Keyed->Keyed->Bool}
structure MrgH (b:Keyed->Keyed->Bool)(all out ra rb:List Keyed):Prop where
 perm:(ra++rb++out).Perm all
 so:out.Pairwise (kle b)
 le:∀x∈ra++rb,∀y∈out,kle b x y
 sa:ra.Pairwise (kle b)
 sb:rb.Pairwise (kle b)
theorem MrgH.len (h:MrgH b all out j q):j.length+q.length+out.length=all.length:=by
 have:=h.perm.length_eq;rw [Yam,Yam] at this;exact this
theorem MrgH.moveB (h:MrgH b all out B (L++u))(N:∀x∈u,∀y∈B,kle b y x):MrgH b all (u++out) B L:=by
 have D:=Ycb.mp h.sb;refine ⟨?_,Ycb.mpr ⟨D.2.1,h.so,λx j y q=>h.le x (by simp [j]) y q⟩,λx j y q=>?_,h.sa,D.1⟩
 ·have:=h.perm;simp only [Ybw] at this ⊢;exact this
 ·rcases Yak.mp q with q | q
  ·rcases Yak.mp j with j | j
   ·exact N y q x j
   ·exact D.2.2 x j y q
  ·refine h.le x ?_ y q;rcases Yak.mp j with j | j <;> simp [j]
theorem MrgH.moveA (h:MrgH b all out (L++u) B)(N:∀x∈u,∀y∈B,kle b y x):MrgH b all (u++out) L B:=by
 have D:=Ycb.mp h.sa;refine ⟨?_,Ycb.mpr ⟨D.2.1,h.so,λx j y q=>h.le x (by simp [j]) y q⟩,λx j y q=>?_,D.1,h.sb⟩
 ·refine List.Perm.trans ?_ h.perm;simp only [Ybw];refine Yfr _ ?_;rw [<-Ybw,<-Ybw];exact List.Perm.append_right _ List.perm_append_comm
 ·rcases Yak.mp q with q | q
  ·rcases Yak.mp j with j | j
   ·exact D.2.2 x j y q
   ·exact N y q x j
  ·refine h.le x ?_ y q;rcases Yak.mp j with j | j <;> simp [j]
theorem MrgH.endA (h:MrgH b all out j q)(hz:∀x∈j,∀y∈q,kle b x y):Jp b all (j++q++out):=
 ⟨h.perm,Ycb.mpr ⟨Ycb.mpr ⟨h.sa,h.sb,hz⟩,h.so,h.le⟩⟩
theorem MrgH.endB (h:MrgH b all out q B)(hz:∀x∈B,∀y∈q,kle b x y):Jp b all (B++q++out):=by
 refine ⟨List.Perm.trans (List.Perm.append_right _ List.perm_append_comm) h.perm,Ycb.mpr ⟨Ycb.mpr ⟨h.sb,h.sa,hz⟩,h.so,λx j y D=>h.le x ?_ y D⟩⟩;rcases Yak.mp j with j | j <;> simp [j]
end
theorem Yb (a:Array Keyed)(k:Nat):(a.extract 0 k).toList=a.toList.take k:=by
 rw [Yfk,Yfl,List.drop_zero,Nat.sub_zero]
theorem ZaA (a:Array Keyed)(h:i<=j):a.toList.take j=a.toList.take i++(a.extract i j).toList:=by
 rw [Yfk,Yfl];have:=Ydq i (a.toList.take j);rw [List.take_take,Yev h,List.drop_take] at this;exact this.symm
theorem ZaB {a:Array Keyed}(h:a[i]?=some x):a.toList.take (i+1)=a.toList.take i++[x]:=by
 rw [<-Yba] at h;rw [Ybx,h]
 rfl
theorem Zcg {arr:Array Keyed}(h:x∈arr.toList.take k):∃i,i<k/\arr[i]?=some x:=by
 obtain ⟨i,hi⟩:=Yfm.mp h;rw [Yer] at hi;split at hi
 ·rw [Yba] at hi;exact ⟨i,by assumption,hi⟩
 ·cases hi
theorem Xq {arr:Array Keyed}(h:x∈(arr.extract i j).toList):∃k,i<=k/\k<j/\arr[k]?=some x:=by
 rw [Yfk,Yfl] at h;obtain ⟨k,q⟩:=Yfm.mp h;rw [Yer] at q;split at q
 ·rw [Yes,Yba] at q;exact ⟨i+k,by lia,by lia,q⟩
 ·cases q
section
variable {M:Model}{A:Around}{E:Aa->SS->Prop}{s:SS}{kd:SortKind}{b:Keyed->Keyed->Bool}{good:Keyed->Prop}{a c:Array Keyed}
noncomputable def MH (b:Keyed->Keyed->Bool)(a c:Array Keyed)(na nb:Nat)(out:Array Keyed):Prop:=MrgH b (a.toList++c.toList) out.toList.reverse (a.toList.take na) (c.toList.take nb)
theorem ZaC (W:WO b)(h:(arr.toList.take hi).Pairwise (kle b)):Rng b arr 0 (0+hi):=λi j x y h1 h2 D q B=>by
 refine Zcb (i:=i) (j:=j) W h h2 ?_ ?_
 ·rw [Yer,if_pos (by lia),Yba];exact q
 ·rw [Yer,if_pos (by lia),Yba];exact B
theorem MH.done (h:MH b a c na nb out)(e:na=0\/nb=0):Jp b (a.toList++c.toList) (Ot a c out na nb).toList:=by
 unfold Ot;rw [Ydc,Ydc,Yb,Yb,Yem];refine MrgH.endA h λx j y q=>?_;rcases e with e | e
 ·rw [e] at j;simp at j
 ·rw [e] at q;simp at q
theorem MH.first (T:Two b good a c)(h:MH b a c na nb out)(e:nb=1):Jp b (a.toList++c.toList) (Ua a c out na nb).toList:=by
 unfold Ua;rw [Ydc,Ydc,Yb,Yb,Yem];refine MrgH.endB h λx j y q=>?_;obtain ⟨i,hi,ex⟩:=Zcg j;have:i=0:=by lia
 subst this;exact T.first x ex y (Yfv q)
theorem MH.pushB (h:MH b a c na (nb+1) out)(j:c[nb]?=some x)(q:∀y∈a.toList.take na,kle b y x):MH b a c na nb (out.push x):=by
 unfold MH at h ⊢;rw [Yek,List.reverse_append];rw [ZaB j] at h;exact MrgH.moveB (u:=[x]) h λz B y D=>by
  have:z=x:=by simpa using B
  subst this;exact q y D
theorem MH.pushA (h:MH b a c (na+1) nb out)(j:a[na]?=some x)(q:∀y∈c.toList.take nb,kle b y x):MH b a c na nb (out.push x):=by
 unfold MH at h ⊢;rw [Yek,List.reverse_append];rw [ZaB j] at h;exact MrgH.moveA (u:=[x]) h λz B y D=>by
  have:z=x:=by simpa using B
  subst this;exact q y D
theorem MH.takeA (h:MH b a c na nb out)(j:k<=na)(q:∀x∈(a.extract k na).toList,∀y∈c.toList.take nb,kle b y x):MH b a c k nb (out++(a.extract k na).reverse):=by
 unfold MH at h ⊢;rw [Ydc,Yem,List.reverse_append,List.reverse_reverse];rw [ZaA a j] at h;exact MrgH.moveA h q
theorem MH.takeB (h:MH b a c na nb out)(j:k<=nb)(q:∀x∈(c.extract k nb).toList,∀y∈a.toList.take na,kle b y x):MH b a c na k (out++(c.extract k nb).reverse):=by
 unfold MH at h ⊢;rw [Ydc,Yem,List.reverse_append,List.reverse_reverse];rw [ZaA c j] at h;exact MrgH.moveB h q
theorem V8 (W:WO b){arr:Array Keyed}(h:(arr.toList.take (k+1)).Pairwise (kle b))(j:arr[k]?=some x):∀y∈arr.toList.take (k+1),kle b y x:=λy q=>by
 obtain ⟨i,hi,B⟩:=Zcg q;exact ZaC W h i k y x (Yax _) (by lia) (by lia) B j
theorem ZaD (W:WO b)(L:O2 M A E s kd b good)(T:Two b good a c){st:SortSt}(hs:kindOf st=kd)(h:MH b a c na nb out)(h1:0<na/\na<=a.size)(h2:1<nb/\nb<=c.size)(q1:∀r y D,SameG st D->Jp b (a.toList++c.toList) r.toList->Q (some r,y) D)(q2:∀j q B U Y D,SameG st D->MH b a c j q B->(0<j/\j<=a.size)->(1<q/\q<=c.size)->out.size<B.size->Q (none,j,q,B,U,Y) D) :
  wpS M A E s (forIn [:a.size+c.size] ((none,na,nb,out,0,0):MHs) (Zcd a c mg)) Q st:=by
 refine Yce (λk r D=>SameG st D/\∃j q B U Y,r=(none,j,q,B,U,Y)/\MH b a c j q B/\(0<j/\j<=a.size)/\(1<q/\q<=c.size)/\out.size+k<=B.size) ?_ ?_ ⟨SameG.refl _,_,_,_,_,_,rfl,h,h1,h2,Yae _⟩
 ·rintro k r O _ hk ⟨N,j,q,B,U,Y,rfl,h,h1,h2,h3⟩;have aa:kindOf O=kd:=N.1.trans hs;obtain ⟨j,rfl⟩:∃n,j=n+1:=⟨j - 1,by lia⟩;obtain ⟨q,rfl⟩:∃n,q=n+1:=⟨q - 1,by lia⟩;unfold Zcd;dsimp only [Nat.add_sub_cancel];obtain ⟨x,Z,gx⟩:=T.ct (i:=q) (by lia);obtain ⟨y,hy,gy⟩:=T.at (i:=j) (by lia);refine Yad (Gs Z (Yad (Gs hy (Yad (L x y O _ gx gy aa ?_)))));dsimp only;cases hb:b x y with
  | true=>
   rw [if_pos rfl];refine Yad (Gs hy ?_);have h':=h.pushA hy λz hz=>W.le_trans (V8 W h.sb Z z hz) (W.le_of_lt hb);split
   ·rename_i e;exact Yaf (q1 _ _ _ N (h'.done (.inl (eq_of_beq e))))
   ·rename_i e;have e:0<j:=by
     have:j≠0:=λz=>e (Ybh.mpr z)
     lia
    split
    ·exact Yaf (q2 _ _ _ _ _ _ N h' ⟨e,by lia⟩ h2 (by rw [Ycq];lia))
    ·exact Yaf ⟨N,_,_,_,_,_,rfl,h',⟨e,by lia⟩,h2,by rw [Ycq];lia⟩
  | false=>
   rw [if_neg Yaq];refine Yad (Gs Z ?_);have h':=h.pushB Z λz hz=>W.le_trans (V8 W h.sa hy z hz) hb;split
   ·rename_i e;exact Yaf (q1 _ _ _ N (h'.first T (eq_of_beq e)))
   ·rename_i e;have e:1<q:=by
     have:q≠1:=λz=>e (Ybh.mpr z)
     lia
    split
    ·exact Yaf (q2 _ _ _ _ _ _ N h' h1 ⟨e,by lia⟩ (by rw [Ycq];lia))
    ·exact Yaf ⟨N,_,_,_,_,_,rfl,h',h1,⟨e,by lia⟩,by rw [Ycq];lia⟩
 ·rintro r O ⟨N,j,q,B,U,Y,rfl,h,h1,h2,h3⟩;exact q2 _ _ _ _ _ _ N h h1 h2 (by have:=T.na;simp at h3;lia)
section
variable {out:Array Keyed}{na nb:Nat}{st:SortSt}{Q:ForInStep MHt->SortSt->Prop}
structure Zch (b:Keyed->Keyed->Bool)(a c:Array Keyed)(n:Nat)(st:SortSt)(Q:ForInStep MHt->SortSt->Prop):Prop where
 fin:∀r y st',SameG st st'->Jp b (a.toList++c.toList) r.toList->Q (.done (some r,y)) st'
 brk:∀na' nb' out' y st',SameG st st'->MH b a c na' nb' out'->(0<na'/\na'<=a.size)->(1<nb'/\nb'<=c.size)->n<=out'.size->Q (.done (none,na',nb',out',y)) st'
 go:∀na' nb' out' y st',SameG st st'->MH b a c na' nb' out'->(0<na'/\na'<=a.size)->(1<nb'/\nb'<=c.size)->n<=out'.size->Q (.yield (none,na',nb',out',y)) st'
theorem ZaE (T:Two b good a c)(R:Zch b a c n st Q)(h:MH b a c (na+1) nb out)(h1:na+1<=a.size)(h2:1<nb/\nb<=c.size)(N:n<=out.size)(L:∀x,a[na]?=some x->∀y∈c.toList.take nb,kle b y x) :
  wpS M A E s (mhD a c mg B D (na+1) nb out) Q st:=by
 unfold mhD;dsimp only [Nat.add_sub_cancel];obtain ⟨x,q,O⟩:=T.at (i:=na) (by lia);refine Yad (Gs q ?_);have h':=h.pushA q (L x q);have j:n<=(out.push x).size:=by rw [Ycq];lia
 split
 ·rename_i e;exact Yaf (R.fin _ _ _ (SameG.refl _) (h'.done (.inl (eq_of_beq e))))
 ·rename_i e;have e:0<na:=by
   have:na≠0:=λz=>e (Ybh.mpr z)
   lia
  split
  ·exact Yaf (R.brk _ _ _ _ _ (SameG.refl _) h' ⟨e,by lia⟩ h2 j)
  ·exact Yaf (R.go _ _ _ _ _ (SameG.refl _) h' ⟨e,by lia⟩ h2 j)
theorem ZaF (W:WO b)(L:O2 M A E s kd b good)(T:Two b good a c)(R:Zch b a c n st Q)(hs:kindOf st=kd)(h:MH b a c (na+1) (nb+1) out)(h1:na+1<=a.size)(h2:0<nb/\nb+1<=c.size)(hn:n<=out.size)(hl:∀x,c[nb]?=some x->∀y∈a.toList.take (na+1),kle b y x):wpS M A E s (mhC a c mg ac bc (na+1) (nb+1) out) Q st:=by
 unfold mhC;dsimp only [Nat.add_sub_cancel];obtain ⟨x,O,gx⟩:=T.ct (i:=nb) (by lia);obtain ⟨y,N,gy⟩:=T.at (i:=na) (by lia);refine Yad (Gs O ?_);have h':=h.pushB O (hl x O);have B:n<=(out.push x).size:=by rw [Ycq];lia
 generalize out.push x=D at h' B;split
 ·rename_i e;exact Yaf (R.fin _ _ _ (SameG.refl _) (h'.first T (eq_of_beq e)))
 ·rename_i e;have e:1<nb:=by
   have:nb≠1:=λz=>e (Ybh.mpr z)
   lia
  refine Yad (Gs N ?_);have G:Gal b good true y c 0 nb:=Vx W gy (λi hi=>by rw [Ydo];exact T.ct (by lia)) (ZaC W h'.sb);refine Yad (Jx L G hs (by lia) λk hk k1 k2=>?_);dsimp only;have tk:∀z∈(c.extract k nb).toList,∀v∈a.toList.take (na+1),kle b v z:=λz hz v q=>by
   obtain ⟨i,hi,hj,ez⟩:=Xq hz;have:=k2 i hi hj;unfold byd at this;rw [Ydo,ez] at this;dsimp only at this;rw [if_pos rfl] at this;exact W.le_trans (V8 W h'.sa N v q) this
  have tr:∀v∈c.toList.take k,kle b v y:=λv q=>by
   obtain ⟨i,hi,ev⟩:=Zcg q;have:=k1 i hi;unfold byd at this;rw [Ydo,ev] at this;dsimp only at this;rw [if_pos rfl] at this;exact W.le_of_lt this
  split
  ·have U:=h'.takeB hk tk;have Y:n<=(D++(c.extract k nb).reverse).size:=by rw [Array.size_append];lia
   split
   ·rename_i Z;exact Yaf (R.fin _ _ _ (SameG.refl _) (U.first T (eq_of_beq Z)))
   ·rename_i Z;split
    ·rename_i e3;exact Yaf (R.fin _ _ _ (SameG.refl _) (U.done (.inr (eq_of_beq e3))))
    ·rename_i e3;have e4:1<k:=by
      have:k≠1:=λz=>Z (Ybh.mpr z);have:k≠0:=λz=>e3 (Ybh.mpr z)
      lia
     exact ZaE T R U h1 ⟨e4,by lia⟩ Y λx' j v q=>by
      rw [N] at j;cases j;exact tr v q
  ·have:k=nb:=by lia
   subst this;exact ZaE T R h' h1 ⟨e,by lia⟩ B λx' j v q=>by
    rw [N] at j;cases j;exact tr v q
theorem Zd2 (W:WO b)(L:O2 M A E s kd b good)(T:Two b good a c)(R:∀D,SameG st D->Zch b a c n D Q)(hs:kindOf st=kd)(h:MH b a c na (nb+1) out)(h1:0<na/\na<=a.size)(h2:0<nb/\nb+1<=c.size)(hn:n<=out.size) :
  wpS M A E s (mhB a c mg ac bc na (nb+1) out) Q st:=by
 unfold mhB;refine Yad (Oi λN Z=>?_);have R:=R N Z;have q:kindOf N=kd:=Z.1.trans hs;dsimp only [Nat.add_sub_cancel];obtain ⟨x,O,gx⟩:=T.ct (i:=nb) (by lia);refine Yad (Gs O ?_);have G:Gal b good false x a 0 na:=Vx W gx (λi hi=>by rw [Ydo];exact T.at (by lia)) (ZaC W h.sa);refine Yad (Jx L G q (by lia) λk hk k1 k2=>?_);dsimp only;have tk:∀z∈(a.extract k na).toList,∀v∈c.toList.take (nb+1),kle b v z:=λz hz v B=>by
  obtain ⟨i,hi,hj,ez⟩:=Xq hz;have:=k2 i hi hj;unfold byd at this;rw [Ydo,ez] at this;dsimp only at this;rw [if_neg Yaq,Bool.not_eq_false'] at this;exact W.le_trans (V8 W h.sb O v B) (W.le_of_lt this)
 have tr:∀v∈a.toList.take k,kle b v x:=λv B=>by
  obtain ⟨i,hi,ev⟩:=Zcg B;have:=k1 i hi;unfold byd at this;rw [Ydo,ev] at this;dsimp only at this;rw [if_neg Yaq,Bool.not_eq_true'] at this;exact this
 split
 ·have h3:=h.takeA hk tk;have U:n<=(out++(a.extract k na).reverse).size:=by rw [Array.size_append];lia
  split
  ·rename_i Y;exact Yaf (R.fin _ _ _ (SameG.refl _) (h3.done (.inl (eq_of_beq Y))))
  ·rename_i Y;have:k≠0:=λz=>Y (Ybh.mpr z);obtain ⟨k,rfl⟩:∃n,k=n+1:=⟨k-1,by lia⟩;exact ZaF W L T R q h3 (by lia) h2 U λx' j v B=>by
    rw [O] at j;cases j;exact tr v B
 ·have:k=na:=by lia
  subst this;obtain ⟨k,rfl⟩:∃n,k=n+1:=⟨k-1,by lia⟩;exact ZaF W L T R q h (by lia) h2 hn λx' j v B=>by
   rw [O] at j;cases j;exact tr v B
end
theorem ZaG (W:WO b)(L:O2 M A E s kd b good)(T:Two b good a c){st:SortSt}(hs:kindOf st=kd)(h:MH b a c na nb out)(h1:0<na/\na<=a.size)(h2:1<nb/\nb<=c.size)(q1:∀r y N,SameG st N->Jp b (a.toList++c.toList) r.toList->Q (some r,y) N)(q2:∀D B q y N,SameG st N->MH b a c D B q->(0<D/\D<=a.size)->(1<B/\B<=c.size)->out.size<=q.size->Q (none,D,B,q,y) N) :
  wpS M A E s (forIn [:n] ((none,na,nb,out,y):MHt) (Zce a c)) Q st:=by
 refine Yce (λk r N=>SameG st N/\∃D B q y,r=(none,D,B,q,y)/\MH b a c D B q/\(0<D/\D<=a.size)/\(1<B/\B<=c.size)/\out.size<=q.size) ?_ ?_ ⟨SameG.refl _,_,_,_,_,rfl,h,h1,h2,Yae _⟩
 ·rintro k r O _ hk ⟨Z,D,B,q,y,rfl,h,h1,h2,h3⟩;have aa:kindOf O=kd:=Z.1.trans hs;have R:∀N,SameG O N->Zch b a c out.size N (λr N=>match r with
   | .done c'=>Q c' N
   | .yield c'=>SameG st N/\∃D B q y,c'=(none,D,B,q,y)/\MH b a c D B q/\(0<D/\D<=a.size)/\(1<B/\B<=c.size)/\out.size<=q.size):=λN Y=>
   ⟨λr y U g m=>q1 r y U ((Z.trans Y).trans g) m,λo i j y U g m p1 p2 p3=>q2 o i j y U ((Z.trans Y).trans g) m p1 p2 p3,λo i j y U g m p1 p2 p3=>⟨(Z.trans Y).trans g,o,i,j,y,rfl,m,p1,p2,p3⟩⟩
  unfold Zce;dsimp only;obtain ⟨B,rfl⟩:∃n,B=n+1:=⟨B - 1,by lia⟩;have mono:∀mg,wpS M A E s (mhB a c mg y.2.1 y.2.2 D (B+1) q) _ O:=λmg=>Zd2 W L T R aa h h1 ⟨by lia,h2.2⟩ h3;split
  ·exact wpS_mono (mono _) λr N hr=>by cases r <;> exact hr
  ·exact wpS_mono (mono _) λr N hr=>by cases r <;> exact hr
 ·rintro r O ⟨Z,D,B,q,y,rfl,h,h1,h2,h3⟩;exact q2 _ _ _ _ _ Z h h1 h2 h3
theorem Xr (W:WO b)(L:O2 M A E s kd b good)(T:Two b good a c){st:SortSt}(hs:kindOf st=kd)(q:∀r O,SameG st O->Jp b (a.toList++c.toList) r.toList->Q r O):wpS M A E s (V4 a c) Q st:=by
 rw [Xp];refine Yad (wpS_lift (Ydi ⟨rfl,?_⟩));have hc:=T.nc;have ha:=T.na;obtain ⟨x,hx,gx⟩:=T.at (i:=a.size-1) (by lia);refine Yad (Gs hx ?_);have h0:MH b a c (a.size-1) c.size #[x]:=by
  have z:MH b a c (a.size-1+1) c.size #[]:=by
   unfold MH;rw [Nat.sub_add_cancel (by lia),Yfw (by simp),Yfw (by simp)];exact ⟨by simp,by simp,by simp,T.sa,T.sc⟩
  exact z.pushA hx λy hy=>T.last x hx y (Yfv hy)
 dsimp only;split
 ·rename_i e;exact Yaf (q _ _ (SameG.refl _) (h0.done (.inl (eq_of_beq e))))
 ·rename_i e;have e:0<a.size-1:=by
   have:a.size-1≠0:=λz=>e (Ybh.mpr z)
   lia
  split
  ·rename_i U;exact Yaf (q _ _ (SameG.refl _) (h0.first T (eq_of_beq U)))
  ·rename_i U;have U:1<c.size:=by
    have:c.size≠1:=λz=>U (Ybh.mpr z)
    lia
   refine Yad (wpS_get ?_);refine Yad (Yce (λk r O=>SameG st O/\∃D N B mg,r=(none,D,N,B,mg)/\MH b a c D N B/\(0<D/\D<=a.size)/\(1<N/\N<=c.size)/\k<B.size) ?_ ?_ ⟨SameG.refl _,_,_,_,_,rfl,h0,⟨e,by lia⟩,⟨U,Yae _⟩,by simp⟩)
   ·rintro k r Y _ hk ⟨Z,D,N,B,mg,rfl,h,h1,h2,h3⟩;have aa:kindOf Y=kd:=Z.1.trans hs;unfold Zcf;dsimp only;refine Yad (ZaD W L T aa h h1 h2 (λr y ab g m=>?_) (λo i j ac bc ab g m p1 p2 p3=>?_))
    ·refine Yaf ?_;dsimp only;exact Yaf (q r ab (Z.trans g) m)
    ·dsimp only;refine Yad (wpS_lift (Ydi ⟨rfl,?_⟩));refine Yad (ZaG W L T (g.1.trans aa) m p1 p2 (λr y ad g3 m3=>?_) (λo3 i3 j3 y3 ad g3 m3 r1 r2 r3=>?_))
     ·refine Yaf ?_;dsimp only;exact Yaf (q r ad ((Z.trans g).trans g3) m3)
     ·dsimp only;refine Yad (Oi λae g4=>?_);exact Yaf ⟨((Z.trans g).trans g3).trans g4,_,_,_,_,rfl,m3,r1,r2,by lia⟩
   ·rintro r Y ⟨Z,D,N,B,mg,rfl,h,h1,h2,h3⟩;exfalso;have:=MrgH.len h;rw [Yam,Ybn,Ybn,List.length_reverse,Yan,Yan,Yan] at this;simp at h3
    lia
end
noncomputable abbrev Asc:=Option (Option Nat)×Nat
noncomputable abbrev Dsc:=Option (Option Nat)×Nat×Nat
noncomputable def Zd3 (lo:Nat):Nat->Asc->StateT SortSt Sem (ForInStep Asc):=λ_ r=>do
 match <- ltAt' (lo+r.2) (lo+r.2-1) with
 | some smaller=>if smaller=true then pure (.done (none,r.2)) else pure (.yield (none,r.2+1))
 | _=>pure (.done (some none,r.2))
noncomputable def ZgQ (lo:Nat):Nat->Dsc->StateT SortSt Sem (ForInStep Dsc):=λ_ r=>do
 match <- ltAt' (lo+r.2.1) (lo+r.2.1-1) with
 | some smaller=>
  if smaller=true then
   if r.2.2 > 0 then do
    reverseSlice' (lo+r.2.1-(r.2.2+1)) (lo+r.2.1)
    pure (.yield (none,r.2.1+1,0))
   else pure (.yield (none,r.2.1+1,0))
  else do
   match <- ltAt' (lo+r.2.1-1) (lo+r.2.1) with
   | some larger=>if larger=true then pure (.done (none,r.2.1,r.2.2)) else pure (.yield (none,r.2.1+1,r.2.2+1))
   | _=>pure (.done (some none,r.2.1,r.2.2))
 | _=>pure (.done (some none,r.2.1,r.2.2))
noncomputable def WT (lo n j:Nat):StateT SortSt Sem (Option Nat):=do
 reverseSlice' lo (lo+n)
 let r <- forIn [n:j] ((none,n):Asc) (Zd3 lo)
 match r.1 with
 | some x=>pure x
 | none=>pure (some r.2)
noncomputable def Y7 (lo n j:Nat):StateT SortSt Sem (Option Nat):=do
 liftM (rule "list.sort.descending-run")
 let r <- forIn [n+1:j] ((none,n+1,0):Dsc) (ZgQ lo)
 match r.1 with
 | some x=>pure x
 | none=>(if r.2.2 > 0 then (do
   reverseSlice' (lo+r.2.1-(r.2.2+1)) (lo+r.2.1)
   WT lo r.2.1 j) else WT lo r.2.1 j)
theorem Xs (lo q:Nat):countRun' lo q=(do
  let r <- forIn [1:q] ((none,1):Asc) (Zd3 lo)
  match r.1 with
  | some x=>pure x
  | none=>(if (r.2 == q)=true then pure (some r.2) else (if r.2 > 1 then (do
    match <- ltAt' lo (lo+r.2-1) with
    | some rose=>(if rose=true then pure (some r.2) else (do
      reverseSlice' lo (lo+r.2)
      Y7 lo r.2 q))
    | _=>pure none)
   else Y7 lo r.2 q))):=by
 rw [countRun'_eq];refine (Ybg (λm:StateT SortSt Sem Asc=>m >>= _) (UZ (r:=[1:q]) (c:=((none,1):Asc)) (g:=Zd3 lo) λi r=>rfl)).trans ?_;refine Jh λr=>?_;obtain ⟨B,j⟩:=r;cases B with
 | some z=>rfl
 | none=>
  refine V6 (c:=(j == q)=true) rfl ?_;refine V6 (c:=j > 1) ?_ ?_
  ·refine Jh λz=>?_;cases z with
   | none=>rfl
   | some z=>
    refine V6 (c:=z=true) rfl ?_;refine Jh λ_=>?_;unfold Y7;refine Jh λ_=>?_;refine (Ybg (λm:StateT SortSt Sem Dsc=>m >>= _) (UZ (r:=[j+1:q]) (c:=((none,j+1,0):Dsc)) (g:=ZgQ lo) λi r=>rfl)).trans ?_;refine Jh λr=>?_;obtain ⟨B,j,D⟩:=r;cases B with
    | some z=>rfl
    | none=>
     refine V6 (c:=D > 0) (Jh λ_=>?_) ?_
     all_goals
      unfold WT;refine Jh λ_=>?_;refine (Ybg (λm:StateT SortSt Sem Asc=>m >>= _) (UZ (r:=[j:q]) (c:=((none,j):Asc)) (g:=Zd3 lo) λi r=>rfl)).trans ?_;refine Jh λr=>?_;obtain ⟨B,j⟩:=r;cases B <;> rfl
  ·unfold Y7;refine Jh λ_=>?_;refine (Ybg (λm:StateT SortSt Sem Dsc=>m >>= _) (UZ (r:=[j+1:q]) (c:=((none,j+1,0):Dsc)) (g:=ZgQ lo) λi r=>rfl)).trans ?_;refine Jh λr=>?_;obtain ⟨B,j,D⟩:=r;cases B with
   | some z=>rfl
   | none=>
    refine V6 (c:=D > 0) (Jh λ_=>?_) ?_
    all_goals
     unfold WT;refine Jh λ_=>?_;refine (Ybg (λm:StateT SortSt Sem Asc=>m >>= _) (UZ (r:=[j:q]) (c:=((none,j):Asc)) (g:=Zd3 lo) λi r=>rfl)).trans ?_;refine Jh λr=>?_;obtain ⟨B,j⟩:=r;cases B <;> rfl
structure Ah (lo:Nat)(st st':SortSt):Prop where
 kd:kindOf st'=kindOf st
 pe:pendingOf st'=pendingOf st
 fa:failedOf st'=failedOf st
 pm:(arrOf st').Perm (arrOf st)
 lw:∀i,i<lo->(arrOf st')[i]?=(arrOf st)[i]?
theorem Ah.refl (lo:Nat)(st:SortSt):Ah lo st st:=⟨rfl,rfl,rfl,.refl _,λ_ _=>rfl⟩
theorem Ah.trans {lo:Nat}{st q j:SortSt}(h:Ah lo st q)(k:Ah lo q j):Ah lo st j:=
 ⟨k.kd.trans h.kd,k.pe.trans h.pe,k.fa.trans h.fa,k.pm.trans h.pm,λi hi=>(k.lw i hi).trans (h.lw i hi)⟩
theorem Ah.size {lo:Nat}{st j:SortSt}(h:Ah lo st j):(arrOf j).size=(arrOf st).size:=h.pm.size_eq
noncomputable def AllG (good:Keyed->Prop)(arr:Array Keyed):Prop:=∀x∈arr.toList,good x
theorem AllG.perm (h:AllG good a)(p:c.Perm a):AllG good c:=λx j=>h x (p.toList.mem_iff.mp j)
theorem AllG.at (h:AllG good a)(hi:i<a.size):∃x,a[i]?=some x/\good x:=⟨a[i],by simp [hi],h _ (by simp)⟩
noncomputable def ZbC (b:Keyed->Keyed->Bool)(arr:Array Keyed)(lo hi:Nat):Prop:=∀i j x y,lo<=i->i<=j->j<hi->arr[i]?=some x->arr[j]?=some y->kle b y x
section
variable {M:Model}{A:Around}{E:Aa->SS->Prop}{s:SS}{kd:SortKind}{b:Keyed->Keyed->Bool}{good:Keyed->Prop}
theorem OT {st:SortSt}(L:O2 M A E s kd b good)(N:kindOf st=kd)(G:AllG good (arrOf st))(hi:i<(arrOf st).size)(O:j<(arrOf st).size)(q:∀x y,(arrOf st)[i]?=some x->(arrOf st)[j]?=some y->Q (some (b x y)) st):wpS M A E s (ltAt' i j) Q st:=by
 obtain ⟨x,B,U⟩:=G.at hi;obtain ⟨y,D,Y⟩:=G.at O;rw [ltAt'_eq];refine Yad (wpS_get ?_);exact Yad (Gs B (Yad (Gs D (L x y st Q U Y N (q x y B D)))))
theorem Zd4 (arr:Array Keyed)(W:WO b)(lo:Nat):Rng b arr lo (lo+1):=λi j x y h1 h2 D B q=>by
 have:i=j:=by lia
 subst this;rw [B] at q;cases q;exact W.le_refl _
theorem Zci (W:WO b){lo n:Nat}(h:Rng b arr lo (lo+n))(U:0<n)(N:arr[lo+n-1]?=some x)(L:arr[lo+n]?=some y)(B:kle b x y):Rng b arr lo (lo+n+1):=λi j u v h1 h2 Y q D=>by
 by_cases O:j<lo+n
 ·exact h i j u v h1 h2 O q D
 ·have:j=lo+n:=by lia
  subst this;rw [L] at D;cases D;by_cases hi:i=lo+n
  ·subst hi;rw [L] at q;cases q;exact W.le_refl _
  ·exact W.le_trans (h i (lo+n-1) u x h1 (by lia) (by lia) q N) B
theorem J8 (W:WO b){lo n:Nat}(h:ZbC b arr lo (lo+n))(U:0<n)(N:arr[lo+n-1]?=some x)(L:arr[lo+n]?=some y)(B:kle b y x):ZbC b arr lo (lo+n+1):=λi j u v h1 h2 Y q D=>by
 by_cases O:j<lo+n
 ·exact h i j u v h1 h2 O q D
 ·have:j=lo+n:=by lia
  subst this;rw [L] at D;cases D;by_cases hi:i=lo+n
  ·subst hi;rw [L] at q;cases q;exact W.le_refl _
  ·exact W.le_trans B (h i (lo+n-1) u x h1 (by lia) (by lia) q N)
theorem ZaH (W:WO b)(L:O2 M A E s kd b good){st:SortSt}{lo a j:Nat}(hs:kindOf st=kd)(G:AllG good (arrOf st))(hn:lo+j<=(arrOf st).size)(h1:1<=a)(h2:a<=j)(h3:Rng b (arrOf st) lo (lo+a))(q:∀n,a<=n->n<=j->Rng b (arrOf st) lo (lo+n)->(n=j\/∃x y,(arrOf st)[lo+n-1]?=some x/\(arrOf st)[lo+n]?=some y/\b y x=true)->Q (none,n) st):wpS M A E s (forIn [a:j] ((none,a):Asc) (Zd3 lo)) Q st:=by
 refine Yce (λk r B=>B=st/\r=(none,k)/\a<=k/\k<=j/\Rng b (arrOf st) lo (lo+k)) ?_ ?_ ⟨rfl,rfl,Yae _,h2,h3⟩
 ·rintro k r B _ hk ⟨rfl,rfl,O,U,D⟩;unfold Zd3;refine Yad (OT L hs G (by show lo+k<_;lia) (by show lo+k-1<_;lia) λy x Y Z=>?_);dsimp only;split
  ·rename_i N;exact Yaf (q k O U D (.inr ⟨x,y,Z,Y,N⟩))
  ·rename_i N;exact Yaf ⟨rfl,rfl,by lia,by lia,Zci W D (by lia) Z Y (Yep.mpr N)⟩
 ·rintro r B ⟨rfl,rfl,O,U,D⟩;rw [Nat.max_eq_right h2] at D ⊢;exact q j h2 (Yae _) D (.inl rfl)
noncomputable def ZaI (b:Keyed->Keyed->Bool)(arr:Array Keyed)(lo hi:Nat):Prop:=∀i j x y,lo<=i->i<hi->lo<=j->j<hi->arr[i]?=some x->arr[j]?=some y->kle b x y
theorem OU {st:SortSt}{lo i j:Nat}(h:lo<=i)(q:j<=(arrOf st).size):Ah lo st (setArr st (mirror (arrOf st) i j ((j-i) / 2))):=by
 refine ⟨rfl,rfl,rfl,mirror_perm _ _ _ _,λk B=>?_⟩;show (mirror (arrOf st) i j ((j-i) / 2))[k]?=_;rw [Yew q,if_neg (by lia)]
theorem Y8 {lo hi:Nat}(D:hi<=arr.size)(h:ZbC b arr lo hi):Rng b (mirror arr lo hi ((hi-lo) / 2)) lo hi:=λi j x y h1 h2 L q B=>by
 rw [Yew D,if_pos (by lia)] at q B;exact h (lo+hi-1-j) (lo+hi-1-i) y x (by lia) (by lia) (by lia) B q
theorem Ox {lo hi i j:Nat}(Y:j<=arr.size)(h1:lo<=i)(h2:i<=j)(h3:j<=hi)(Z:ZaI b arr i j)(h:ZbC b arr lo hi):ZbC b (mirror arr i j ((j-i) / 2)) lo hi:=λp q x y N k2 O D B=>by
 rw [Yew Y] at D B;by_cases U:i<=p/\p<j
 ·rw [if_pos U] at D;by_cases L:i<=q/\q<j
  ·rw [if_pos L] at B;exact Z (i+j-1-q) (i+j-1-p) y x (by lia) (by lia) (by lia) (by lia) B D
  ·rw [if_neg L] at B;exact h _ q x y (by lia) (by lia) O D B
 ·rw [if_neg U] at D;by_cases L:i<=q/\q<j
  ·rw [if_pos L] at B;exact h p _ x y N (by lia) (by lia) D B
  ·rw [if_neg L] at B;exact h p q x y N k2 O D B
noncomputable def Zhy (b:Keyed->Keyed->Bool)(lo q:Nat)(st:SortSt)(Q:Option Nat->SortSt->Prop):Prop:=∀m j,Ah lo st j->1<=m->m<=q->Rng b (arrOf j) lo (lo+m)->Q (some m) j
theorem WU (W:WO b)(L:O2 M A E s kd b good){st:SortSt}{lo n N:Nat}(O:kindOf st=kd)(G:AllG good (arrOf st))(U:lo+N<=(arrOf st).size)(h1:1<=n)(h2:n<=N)(Y:ZbC b (arrOf st) lo (lo+n))(q:Zhy b lo N st Q):wpS M A E s (WT lo n N) Q st:=by
 unfold WT;rw [reverseSlice'_eq];refine Yad (Ycr ?_);have B:=OU (st:=st) (lo:=lo) (i:=lo) (j:=lo+n) (Yae _) (by lia);have r:=Y8 (arr:=arrOf st) (lo:=lo) (hi:=lo+n) (by lia) Y;generalize hst:setArr st (mirror (arrOf st) lo (lo+n) ((lo+n-lo) / 2))=D at B;have Z:arrOf D=mirror (arrOf st) lo (lo+n) ((lo+n-lo) / 2):=by rw [<-hst]
 rw [<-Z] at r;refine Yad (ZaH W L (B.kd.trans O) (G.perm B.pm) (by rw [B.size];exact U) h1 h2 r λm k1 k2 k3 _=>?_);dsimp only;exact Yaf (q m D B (by lia) k2 k3)
theorem WV (W:WO b)(L:O2 M A E s kd b good){st:SortSt}{lo n O:Nat}(hs:kindOf st=kd)(G:AllG good (arrOf st))(hn:lo+O<=(arrOf st).size)(h2:n+1<=O)(h3:ZbC b (arrOf st) lo (lo+(n+1)))(q:Zhy b lo O st Q):wpS M A E s (Y7 lo n O) Q st:=by
 unfold Y7;refine Yad (wpS_lift (Ydi ⟨rfl,?_⟩));have fin:∀m B D,Ah lo st D->n+1<=m->m<=O->ZbC b (arrOf D) lo (lo+m)->B+1<=m->ZaI b (arrOf D) (lo+m-(B+1)) (lo+m) ->
   wpS M A E s (if B > 0 then (do reverseSlice' (lo+m-(B+1)) (lo+m);WT lo m O) else WT lo m O) Q D:=by
  intro m B D N k1 k2 Z k4 k5;have G1:=G.perm N.pm;have ae:lo+O<=(arrOf D).size:=by rw [N.size];exact hn
  split
  ·rw [reverseSlice'_eq];refine Yad (Ycr ?_);have U:=OU (st:=D) (lo:=lo) (i:=lo+m-(B+1)) (j:=lo+m) (by lia) (by lia);have r:=Ox (arr:=arrOf D) (lo:=lo) (hi:=lo+m) (i:=lo+m-(B+1)) (j:=lo+m) (by lia) (by lia) (by lia) (Yae _) k5 Z;generalize hst:setArr D (mirror (arrOf D) (lo+m-(B+1)) (lo+m) ((lo+m-(lo+m-(B+1))) / 2))=ab at U;have e1:arrOf ab=mirror (arrOf D) (lo+m-(B+1)) (lo+m) ((lo+m-(lo+m-(B+1))) / 2):=by rw [<-hst]
   rw [<-e1] at r;have aa:=N.trans U;exact WU W L (aa.kd.trans hs) (G.perm aa.pm) (by rw [aa.size];exact hn) (by lia) k2 r λm' ac a'=>q m' ac (aa.trans a')
  ·exact WU W L (N.kd.trans hs) G1 ae (by lia) k2 Z λm' ac a'=>q m' ac (N.trans a')
 have ad:∀(arr:Array Keyed) m,ZaI b arr (lo+m-(0+1)) (lo+m):=λarr m i j x y i1 i2 i3 i4 e1 e2=>by
  have:i=j:=by lia
  subst this;rw [e1] at e2;cases e2;exact W.le_refl _
 refine Yad (Yce (λk r D=>Ah lo st D/\∃B,r=(none,k,B)/\n+1<=k/\k<=O/\ZbC b (arrOf D) lo (lo+k)/\B+1<=k/\ZaI b (arrOf D) (lo+k-(B+1)) (lo+k)) ?_ ?_ ⟨Ah.refl _ _,0,rfl,Yae _,h2,h3,by lia,ad _ _⟩)
 ·rintro k r D _ hk ⟨N,B,rfl,k1,k2,Z,k4,k5⟩;have G1:=G.perm N.pm;have ae:lo+O<=(arrOf D).size:=by rw [N.size];exact hn
  have af:=N.kd.trans hs;unfold ZgQ;refine Yad (OT L af G1 (by show lo+k<_;lia) (by show lo+k-1<_;lia) λy x hy hx=>?_);dsimp only;split
  ·rename_i hb;have Y:=W.le_of_lt hb;split
   ·rw [reverseSlice'_eq];refine Yad (Ycr ?_);have U:=OU (st:=D) (lo:=lo) (i:=lo+k-(B+1)) (j:=lo+k) (by lia) (by lia);have r:=Ox (arr:=arrOf D) (lo:=lo) (hi:=lo+k) (i:=lo+k-(B+1)) (j:=lo+k) (by lia) (by lia) (by lia) (Yae _) k5 Z;have e3:(mirror (arrOf D) (lo+k-(B+1)) (lo+k) ((lo+k-(lo+k-(B+1))) / 2))[lo+k]?=some y:=by rw [Yew (by lia),if_neg (by lia)];exact hy
    have e4:∃z,(mirror (arrOf D) (lo+k-(B+1)) (lo+k) ((lo+k-(lo+k-(B+1))) / 2))[lo+k-1]?=some z/\kle b y z:=by
     obtain ⟨z,hz,_⟩:=G1.at (i:=lo+k-(B+1)) (by lia);refine ⟨z,?_,W.le_trans Y (Z (lo+k-(B+1)) (lo+k-1) z x (by lia) (by lia) (by lia) hz hx)⟩;rw [Yew (by lia),if_pos (by lia),<-hz]
     congr 1
     lia
    generalize hst:setArr D (mirror (arrOf D) (lo+k-(B+1)) (lo+k) ((lo+k-(lo+k-(B+1))) / 2))=ab at U;have e1:arrOf ab=mirror (arrOf D) (lo+k-(B+1)) (lo+k) ((lo+k-(lo+k-(B+1))) / 2):=by rw [<-hst]
    rw [<-e1] at r e3 e4;obtain ⟨z,hz,ak⟩:=e4;exact Yaf ⟨N.trans U,0,rfl,by lia,by lia,J8 W r (by lia) hz e3 ak,by lia,ad _ _⟩
   ·exact Yaf ⟨N,0,rfl,by lia,by lia,J8 W Z (by lia) hx hy Y,by lia,ad _ _⟩
  ·rename_i hb;have al:kle b x y:=Yep.mpr hb;refine Yad (OT L af G1 (by show lo+k-1<_;lia) (by show lo+k<_;lia) λx' y' ag ai=>?_);rw [hx] at ag;cases ag;rw [hy] at ai;cases ai;dsimp only;split
   ·refine Yaf ?_;dsimp only;exact fin k B D N k1 k2 Z k4 k5
   ·rename_i am;have Y:kle b y x:=Yep.mpr am;refine Yaf ⟨N,B+1,rfl,by lia,by lia,J8 W Z (by lia) hx hy Y,by lia,λi j u v i1 i2 i3 i4 e1 e2=>?_⟩;have aj:∀i u,lo+k-(B+1)<=i->i<lo+(k+1)->(arrOf D)[i]?=some u->kle b u x/\kle b x u:=λi u p1 p2 e=>by
     by_cases hi:i<lo+k
     ·exact ⟨k5 i (lo+k-1) u x p1 hi (by lia) (by lia) e hx,k5 (lo+k-1) i x u (by lia) (by lia) p1 hi hx e⟩
     ·have:i=lo+k:=by lia
      subst this;rw [hy] at e;cases e;exact ⟨Y,al⟩
    exact W.le_trans (aj i u (by lia) i2 e1).1 (aj j v (by lia) i4 e2).2
 ·rintro r D ⟨N,B,rfl,k1,k2,Z,k4,k5⟩;dsimp only;rw [Nat.max_eq_right h2] at *;exact fin O B D N k1 k2 Z k4 k5
theorem V9 (W:WO b)(L:O2 M A E s kd b good){st:SortSt}{lo N:Nat}(Z:kindOf st=kd)(G:AllG good (arrOf st))(hn:lo+N<=(arrOf st).size)(h1:1<=N)(q:Zhy b lo N st Q):wpS M A E s (countRun' lo N) Q st:=by
 rw [Xs];refine Yad (ZaH W L Z G hn (Yae _) h1 (Zd4 _ W _) λn k1 k2 k3 k4=>?_);dsimp only;split
 ·exact Yaf (q n st (Ah.refl _ _) k1 k2 k3)
 ·rename_i e;have e:n≠N:=λz=>e (Ybh.mpr z);obtain ⟨x,y,hx,hy,hb⟩:=k4.resolve_left e;have O:=W.le_of_lt hb;split
  ·rename_i B;refine Yad (OT L Z G (by lia) (by lia) λu v hu hv=>?_);rw [hx] at hv;cases hv;dsimp only;split
   ·exact Yaf (q n st (Ah.refl _ _) k1 k2 k3)
   ·rename_i aa;have U:kle b x u:=Yep.mpr aa;have al:ZaI b (arrOf st) lo (lo+n):=λi j p r i1 i2 i3 i4 B D=>
     W.le_trans (k3 i (lo+n-1) p x i1 (by lia) (by lia) B hx) (W.le_trans U (k3 lo j u r (Yae _) i3 i4 hu D))
    have ni:ZbC b (arrOf st) lo (lo+n):=λi j p r i1 i2 i3 B D=>al j i r p (by lia) i3 i1 (by lia) D B;rw [reverseSlice'_eq];refine Yad (Ycr ?_);have Y:=OU (st:=st) (lo:=lo) (i:=lo) (j:=lo+n) (Yae _) (by lia);have r:=Ox (arr:=arrOf st) (lo:=lo) (hi:=lo+n) (i:=lo) (j:=lo+n) (by lia) (Yae _) (by lia) (Yae _) al ni;have e3:(mirror (arrOf st) lo (lo+n) ((lo+n-lo) / 2))[lo+n]?=some y:=by rw [Yew (by lia),if_neg (by lia)];exact hy
    have e4:(mirror (arrOf st) lo (lo+n) ((lo+n-lo) / 2))[lo+n-1]?=some u:=by
     rw [Yew (by lia),if_pos (by lia),<-hu]
     congr 1
     lia
    generalize hst:setArr st (mirror (arrOf st) lo (lo+n) ((lo+n-lo) / 2))=ab at Y;have B:arrOf ab=mirror (arrOf st) lo (lo+n) ((lo+n-lo) / 2):=by rw [<-hst]
    rw [<-B] at r e3 e4;exact WV W L (Y.kd.trans Z) (G.perm Y.pm) (by rw [Y.size];exact hn) (by lia) (J8 W r (by lia) e4 e3 (W.le_trans O U)) λm' ac a'=>q m' ac (Y.trans a')
  ·have:n=1:=by lia
   subst this;refine WV W L Z G hn (by lia) (J8 W (λi j p r i1 i2 i3 B D=>?_) (by lia) hx hy O) q;have:i=j:=by lia
   subst this;rw [B] at D;cases D;exact W.le_refl _
theorem Y9 (W:WO b){lo k l:Nat}(hk:lo+k<arr.size)(hl:l<=k)(h:Rng b arr lo (lo+k))(hp:arr[lo+k]?=some p)(h1:∀i x,i<l->arr[lo+i]?=some x->kle b x p)(h2:∀i x,l<=i->i<k->arr[lo+i]?=some x->kle b p x) :
  Rng b (bubble arr (lo+k) (lo+k-(lo+l))) lo (lo+(k+1)):=by
 have e0:lo+k-(lo+k-(lo+l))=lo+l:=by lia
 have at_:∀q,(bubble arr (lo+k) (lo+k-(lo+l)))[q]?=if q=lo+l then some p else if lo+l<q/\q<=lo+k then arr[q-1]? else arr[q]?:=λq=>by
  rw [getElem?_bubble hk _ (by lia),e0,hp]
 intro i j x y i1 i2 i3 D B;rw [at_] at D B;have O:∀q z,lo<=q->q<lo+l->arr[q]?=some z->kle b z p:=λq z U q2 e=>h1 (q-lo) z (by lia) (by rw [Ydp U];exact e);have L:∀q z,lo+l<=q->q<lo+k->arr[q]?=some z->kle b p z:=λq z U q2 e=>h2 (q-lo) z (by lia) (by lia) (by rw [Ydp (by lia)];exact e);by_cases Y:i=lo+l
 ·rw [if_pos Y] at D;cases D;by_cases N:j=lo+l
  ·rw [if_pos N] at B;cases B;exact W.le_refl _
  ·rw [if_neg N,if_pos (by lia)] at B;exact L (j-1) y (by lia) (by lia) B
 ·rw [if_neg Y] at D;by_cases Z:lo+l<i/\i<=lo+k
  ·rw [if_pos Z] at D;rw [if_neg (by lia),if_pos (by lia)] at B;exact h (i-1) (j-1) x y (by lia) (by lia) (by lia) D B
  ·rw [if_neg Z] at D;by_cases N:j=lo+l
   ·rw [if_pos N] at B;cases B;exact O i x i1 (by lia) D
   ·rw [if_neg N] at B;by_cases dj:lo+l<j/\j<=lo+k
    ·rw [if_pos dj] at B;exact h i (j-1) x y i1 (by lia) (by lia) D B
    ·rw [if_neg dj] at B;exact h i j x y i1 i2 (by lia) D B
theorem ZaJ {st:SortSt}{lo src d:Nat}(h1:src<(arrOf st).size)(h2:d<=src)(j:lo<=src-d):Ah lo st (setArr st (bubble (arrOf st) src d)):=by
 refine ⟨rfl,rfl,rfl,bubble_perm _ _ _,λk q=>?_⟩;show (bubble (arrOf st) src d)[k]?=_;rw [getElem?_bubble h1 _ h2,if_neg (by lia),if_neg (by lia)]
theorem Za (W:WO b)(L:O2 M A E s kd b good){st:SortSt}{lo n ok:Nat}(hs:kindOf st=kd)(G:AllG good (arrOf st))(hn:lo+n<=(arrOf st).size)(h1:1<=ok)(h2:ok<=n)(h3:Rng b (arrOf st) lo (lo+ok))(q:∀D,Ah lo st D->Rng b (arrOf D) lo (lo+n)->Q true D):wpS M A E s (binarySort' lo n ok) Q st:=by
 rw [binarySort'_eq,Nat.max_eq_left h1];refine Yad (Yce (λk r B=>Ah lo st B/\r=(none,())/\ok<=k/\k<=n/\Rng b (arrOf B) lo (lo+k)) ?_ ?_ ⟨Ah.refl _ _,rfl,Yae _,h2,h3⟩)
 ·rintro k r B _ hk ⟨N,rfl,k1,k2,O⟩;have G1:=G.perm N.pm;have ac:lo+n<=(arrOf B).size:=by rw [N.size];exact hn
  have aa:=N.kd.trans hs;obtain ⟨p,hp,gp⟩:=G1.at (i:=lo+k) (by lia);have fin:∀l,l<=k->(∀i x,i<l->(arrOf B)[lo+i]?=some x->kle b x p)->(∀i x,l<=i->i<k->(arrOf B)[lo+i]?=some x->kle b p x) ->
    wpS M A E s (do moveDown' (lo+k) (lo+l);pure (ForInStep.yield ((none,()):Option Bool×Unit))) (λr D=>match r with
     | .done c'=>False
     | .yield c'=>Ah lo st D/\c'=(none,())/\ok<=k+1/\k+1<=n/\Rng b (arrOf D) lo (lo+(k+1))) B:=by
   intro l hl g1 U;rw [moveDown'_eq];refine Yad (Ycr ?_);have ab:=ZaJ (st:=B) (lo:=lo) (src:=lo+k) (d:=lo+k-(lo+l)) (by lia) (by lia) (by lia);exact Yaf ⟨N.trans ab,rfl,by lia,by lia,Y9 W (by lia) hl O hp g1 U⟩
  dsimp only;refine Yad (Yce (λi c D=>D=B/\∃l r,c=(none,l,r)/\l<=r/\r<=k/\r-l<=k-i/\(∀i x,i<l->(arrOf B)[lo+i]?=some x->kle b x p)/\(∀i x,r<=i->i<k->(arrOf B)[lo+i]?=some x->kle b p x)) ?_ ?_ ⟨rfl,0,k,rfl,by lia,by lia,by lia,λi x hi=>by lia,λi x h1 h2=>by lia⟩)
  ·rintro i c D _ hi ⟨rfl,l,r,rfl,g1,U,g3,g4,g5⟩;dsimp only;split
   ·have:l=r:=by lia
    subst this;refine Yaf ?_;dsimp only;exact wpS_mono (fin l U g4 g5) λr D Y=>by
     cases r with
     | done z=>exact False.elim Y
     | yield z=>exact Y
   ·refine Yad (OT L aa G1 (by lia) (by lia) λp' m Z hm=>?_);rw [hp] at Z;cases Z;dsimp only;split
    ·rename_i hb;refine Yaf ⟨rfl,_,_,rfl,by lia,by lia,by lia,g4,λj x j1 j2 e=>?_⟩;exact W.le_trans (W.le_of_lt hb) (O _ (lo+j) m x (by lia) (by lia) (by lia) hm e)
    ·rename_i hb;refine Yaf ⟨rfl,_,_,rfl,by lia,by lia,by lia,λj x j1 e=>?_,g5⟩;exact W.le_trans (O (lo+j) _ x m (by lia) (by lia) (by lia) e hm) (Yep.mpr hb)
  ·rintro c D ⟨rfl,l,r,rfl,g1,U,g3,g4,g5⟩;have:l=r:=by simp at g3;lia
   subst this;dsimp only;exact wpS_mono (fin l U g4 g5) λr D Y=>by
     cases r with
     | done z=>exact False.elim Y
     | yield z=>exact Y
 ·rintro r B ⟨N,rfl,k1,k2,O⟩;dsimp only;rw [Nat.max_eq_right h2] at O;exact Yaf (q B N O)
noncomputable def OV (arr:Array Keyed)(base:Nat)(l:List Keyed):Array Keyed:=List.foldl (λa (x:Keyed×Nat)=>a.setIfInBounds (base+x.2) x.1) arr l.zipIdx
noncomputable def Zcj (q:Nat)(j:Array Keyed):StateT SortSt Sem Bool:=do
 modify λs=>setArr s (OV (arrOf s) q j.toList)
 let s <- get
 pure (failedOf s).isNone
noncomputable def Zfn (st:SortSt)(q na j nb:Nat):StateT SortSt Sem Bool:=(if (nb == 0)=true then pure true else (if na<=nb then (do
  let m <- V3 ((arrOf st).extract q j) ((arrOf st).extract j (j+nb))
  Zcj q m) else (do
  let m <- V4 ((arrOf st).extract q j) ((arrOf st).extract j (j+nb))
  Zcj q m)))
noncomputable def Zfo (st:SortSt)(j na q nb:Nat):StateT SortSt Sem Bool:=(if (na == 0)=true then pure true else (do
  let y <- elem' (arrOf st) (j+na-1)
  match <- J7 true y (arrOf st) q nb (nb-1) with
  | some nb=>Zfn st j na q nb
  | _=>pure false))
theorem Xu (i:Nat):mergeAt' i=(do
  let st <- get
  match (pendingOf st)[i]?,(pendingOf st)[i+1]? with
  | some (sa,na,power),some (sb,nb,_)=>do
   set (setPending st (((pendingOf st).setIfInBounds i (sa,na+nb,power)).eraseIdxIfInBounds (i+1)))
   let x <- elem' (arrOf st) sb
   match <- J7 false x (arrOf st) sa na 0 with
   | some k=>Zfo st (sa+k) (na-k) sb nb
   | _=>pure false
  | _,_=>liftM (unsupported "internal:list.sort.pending")):=by
 refine Jh (m:=get) λst=>?_;cases (pendingOf st)[i]? with
 | none=>rfl
 | some p=>
  cases (pendingOf st)[i+1]? with
  | none=>rfl
  | some q=>
   obtain ⟨sa,na,B⟩:=p;obtain ⟨sb,nb,j⟩:=q
   rfl
theorem Zc3:∀(l:List Keyed)(arr:Array Keyed)(base n i:Nat),base+n+l.length<=arr.size ->
  (List.foldl (λa (x:Keyed×Nat)=>a.setIfInBounds (base+x.2) x.1) arr (l.zipIdx n))[i]?=if base+n<=i/\i<base+n+l.length then l[i-(base+n)]? else arr[i]?
 | [],arr,base,n,i,_=>by
  rw [if_neg (by simp)]
  rfl
 | x::l,arr,base,n,i,h=>by
  rw [List.zipIdx_cons,List.foldl_cons];rw [Ybo] at h;have ih:=Zc3 l (arr.setIfInBounds (base+n) x) base (n+1) i (by rw [Array.size_setIfInBounds];lia);refine ih.trans ?_;rw [Ybo];by_cases h1:base+(n+1)<=i/\i<base+(n+1)+l.length
  ·rw [if_pos h1,if_pos (by lia)];rw [show i-(base+n)=(i-(base+(n+1)))+1 by lia,Yfg]
  ·rw [if_neg h1,Array.getElem?_setIfInBounds];by_cases h2:base+n=i
   ·subst h2;rw [if_pos rfl,if_pos (by lia),if_pos (by lia),Nat.sub_self]
    rfl
   ·rw [if_neg h2,if_neg (by lia)]
theorem Zc4 (h:base+l.length<=arr.size)(i:Nat):(OV arr base l)[i]?=if base<=i/\i<base+l.length then l[i-base]? else arr[i]?:=Zc3 l arr base 0 i h
theorem Zck (h:base+l.length<=arr.size)(p:l.Perm ((arr.toList.drop base).take l.length)):(OV arr base l).Perm arr:=by
 have e:(OV arr base l).toList=arr.toList.take base++l++arr.toList.drop (base+l.length):=by
  refine List.ext_getElem? λi=>?_;have j:arr.toList.length=arr.size:=Yan;rw [Yba,Zc4 h];rw [Ybw,List.getElem?_append,Ybn,j,Yev (by lia)];by_cases h1:i<base
  ·rw [if_neg (by lia),if_pos h1,Yer,if_pos h1,Yba]
  ·rw [if_neg h1,List.getElem?_append];by_cases h2:i<base+l.length
   ·rw [if_pos (by lia),if_pos (by lia)]
   ·rw [if_neg (by lia),if_neg (by lia),Yes,Yba]
    congr 1
    lia
 have q:arr.toList=arr.toList.take base++(arr.toList.drop base).take l.length++arr.toList.drop (base+l.length):=by
  rw [Ybw,<-List.drop_drop,Ydq,Ydq]
 rw [Array.perm_iff_toList_perm,e];exact ((Yfr _ p).append_right _).trans (.of_eq q.symm)
theorem Uz {lo mid hi:Nat}(h1:Rng b arr lo mid)(h2:Rng b arr mid hi)(L:∀i j x y,lo<=i->i<mid->mid<=j->j<hi->arr[i]?=some x->arr[j]?=some y->kle b x y):Rng b arr lo hi:=λi j x y i1 i2 D q B=>by
 by_cases N:j<mid
 ·exact h1 i j x y i1 i2 N q B
 ·by_cases O:i<mid
  ·exact L i j x y i1 O (by lia) D q B
  ·exact h2 i j x y (by lia) i2 D q B
theorem Zc5 {lo hi:Nat}(q:hi<=arr.size)(h:Rng b arr lo hi):(arr.extract lo hi).toList.Pairwise (kle b):=by
 rw [Yec];intro i j B D L;have sz:(arr.extract lo hi).toList.length=hi-lo:=by rw [Yan,Yfn,Yev q]
 refine h (lo+i) (lo+j) _ _ (by lia) (by lia) (by lia) ?_ ?_
 ·simp [Array.getElem_extract]
 ·simp [Array.getElem_extract]
noncomputable def MgQ (b:Keyed->Keyed->Bool)(st:SortSt)(lo hi:Nat)(Q:Bool->SortSt->Prop):Prop:=∀j,kindOf j=kindOf st->pendingOf j=pendingOf st->failedOf j=failedOf st->(arrOf j).Perm (arrOf st) ->
 (∀i,i<lo\/hi<=i->(arrOf j)[i]?=(arrOf st)[i]?)->Rng b (arrOf j) lo hi->Q true j
structure GalF (b:Keyed->Keyed->Bool)(arr:Array Keyed)(sa k sb nb hi:Nat):Prop where
 k0:sa<=k
 k1:k<sb
 n0:0<nb
 n1:sb+nb<=hi
 ra:Rng b arr sa sb
 rb:Rng b arr sb hi
 lowA:∀i x y,sa<=i->i<k->arr[i]?=some x->arr[sb]?=some y->kle b x y
 highA:∀i x y,k<=i->i<sb->arr[i]?=some x->arr[sb]?=some y->kle b y x
 lowB:∀i x y,sb<=i->i<sb+nb->arr[i]?=some x->arr[sb-1]?=some y->kle b x y
 highB:∀i x y,sb+nb<=i->i<hi->arr[i]?=some x->arr[sb-1]?=some y->kle b y x
theorem GalF.two (F:GalF b arr sa k D nb hi)(hh:hi<=arr.size)(G:AllG good arr):Two b good (arr.extract k D) (arr.extract D (D+nb)):=by
 have h0:=F.k0;have h1:=F.k1;have h2:=F.n0;have h3:=F.n1;have B:∀{i j x},x∈(arr.extract i j).toList->good x:=λ{i j x} L=>by
  obtain ⟨q,_,_,e⟩:=Xq L;rw [<-Yba] at e;exact G x (Yaz e)
 refine ⟨λx=>B,λx=>B,Zc5 (by lia) λi j x y i1 i2 Y=>F.ra i j x y (by lia) i2 Y,Zc5 (by lia) λi j x y i1 i2 Y=>F.rb i j x y i1 i2 (by lia),by rw [Yfn];lia,by rw [Yfn];lia,λx L y O=>?_,λz N y O=>?_⟩
 ·have L:arr[D]?=some x:=by
   rw [Array.getElem?_extract,if_pos (by lia)] at L;exact L
  obtain ⟨q,U,Z,e⟩:=Xq O;exact F.highA q y x U Z e L
 ·have N:arr[D-1]?=some z:=by
   rw [Yfn,Array.getElem?_extract,if_pos (by lia)] at N;rw [<-N]
   congr 1
   lia
  obtain ⟨q,U,Z,e⟩:=Xq O;exact F.lowB q y z U (by lia) e N
theorem GalF.fin (W:WO b){st:SortSt}(F:GalF b (arrOf st) sa k B nb hi)(hh:hi<=(arrOf st).size)(q:MgQ b st sa hi Q)(hf:failedOf st=none){N:SortSt}(O:SameG st N)(hm:Jp b (((arrOf st).extract k B).toList++((arrOf st).extract B (B+nb)).toList) m.toList):wpS M A E s (Zcj k m) Q N:=by
 have h0:=F.k0;have h1:=F.k1;have h2:=F.n0;have h3:=F.n1;unfold Zcj;refine Yad (Ycr (Yad (wpS_get (Yaf ?_))));show Q (failedOf N).isNone _;rw [O.2.2.2,hf];have hl:m.toList.length=B+nb-k:=by
  have:=hm.1.length_eq;rw [Yam,Yan,Yan,Yan,Yfn,Yfn] at this;rw [Yan]
  lia
 have hb:k+m.toList.length<=(arrOf st).size:=by lia
 have D:((arrOf st).toList.drop k).take m.toList.length=((arrOf st).extract k B).toList++((arrOf st).extract B (B+nb)).toList:=by
  have x1:((arrOf st).extract k (B+nb)).toList=((arrOf st).toList.drop k).take m.toList.length:=by
   rw [hl,Yfk,Yfl]
  rw [<-x1,<-Ydc,Array.extract_append_extract]
  congr 2 <;> lia
 have at_:=Zc4 (arr:=arrOf st) (base:=k) (l:=m.toList) hb;have mem:∀i x,k<=i->i<B+nb->(OV (arrOf st) k m.toList)[i]?=some x->(∃j,k<=j/\j<B/\(arrOf st)[j]?=some x)\/(∃j,B<=j/\j<B+nb/\(arrOf st)[j]?=some x):=λi x i1 i2 e=>by
  rw [at_,if_pos (by lia)] at e;have Z:=hm.1.mem_iff.mp (Yaz e);rcases Yak.mp Z with Z | Z
  ·exact .inl (Xq Z)
  ·exact .inr (Xq Z)
 obtain ⟨b0,U⟩:∃x,(arrOf st)[B]?=some x:=⟨_,Ybe (by lia)⟩;obtain ⟨aL,aa⟩:∃x,(arrOf st)[B-1]?=some x:=⟨_,Ybe (by lia)⟩;refine q _ O.1 O.2.2.1 ?_ ?_ (λi ab=>?_) ?_
 ·show failedOf N=failedOf st;exact O.2.2.2
 ·show (OV (arrOf N) k m.toList).Perm (arrOf st);rw [O.2.1];exact Zck hb (hm.1.trans (.of_eq D.symm))
 ·show (OV (arrOf N) k m.toList)[i]?=_;rw [O.2.1,at_,if_neg (by lia)]
 ·show Rng b (OV (arrOf N) k m.toList) sa hi;rw [O.2.1];have old:∀i,i<k\/B+nb<=i->(OV (arrOf st) k m.toList)[i]?=(arrOf st)[i]?:=λi ab=>by rw [at_,if_neg (by lia)]
  refine Uz (mid:=k) (λi j x y i1 i2 Y D L=>?_) (Uz (mid:=B+nb) (λi j x y i1 i2 Y D L=>?_) (λi j x y i1 i2 Y D L=>?_) (λi j x y i1 i2 Y i4 D L=>?_)) (λi j x y i1 i2 Y i4 D L=>?_)
  ·rw [old i (by lia)] at D;rw [old j (by lia)] at L;exact F.ra i j x y i1 i2 (by lia) D L
  ·rw [at_,if_pos (by lia)] at D L;exact Zcb W hm.2 (by lia) D L
  ·rw [old i (by lia)] at D;rw [old j (by lia)] at L;exact F.rb i j x y (by lia) i2 Y D L
  ·rw [old j (by lia)] at L;rcases mem i x i1 i2 D with ⟨p,p1,p2,e⟩ | ⟨p,p1,p2,e⟩
   ·exact W.le_trans (F.ra p (B-1) x aL (by lia) (by lia) (by lia) e aa) (F.highB j y aL Y i4 L aa)
   ·exact F.rb p j x y p1 (by lia) i4 e L
  ·rw [old i (by lia)] at D;have xb:=F.lowA i x b0 i1 i2 D U;by_cases cj:j<B+nb
   ·rcases mem j y Y cj L with ⟨p,p1,p2,e⟩ | ⟨p,p1,p2,e⟩
    ·exact F.ra i p x y i1 (by lia) p2 D e
    ·exact W.le_trans xb (F.rb B p b0 y (Yae _) p1 (by lia) U e)
   ·rw [old j (by lia)] at L;exact W.le_trans xb (F.rb B j b0 y (Yae _) (by lia) i4 U L)
theorem Xv (W:WO b)(L:O2 M A E s kd b good){st:SortSt}(hs:kindOf st=kd)(hf:failedOf st=none)(G:AllG good (arrOf st))(p1:(pendingOf st)[i]?=some (D,na,pw))(p2:(pendingOf st)[i+1]?=some (sb,nb,ae))(e:sb=D+na)(af:0<na)(al:0<nb)(hh:sb+nb<=(arrOf st).size)(ra:Rng b (arrOf st) D sb)(rb:Rng b (arrOf st) sb (sb+nb))(q:MgQ b (setPending st (((pendingOf st).setIfInBounds i (D,na+nb,pw)).eraseIdxIfInBounds (i+1))) D (sb+nb) Q):wpS M A E s (mergeAt' i) Q st:=by
 subst e;rw [Xu];refine Yad (wpS_get ?_);rw [p1,p2];dsimp only;refine Yad ?_;show wpS M A E s (set _) _ st;refine (show wpS M A E s (modify λ_=>setPending st (((pendingOf st).setIfInBounds i (D,na+nb,pw)).eraseIdxIfInBounds (i+1))) _ st from Ycr ?_);generalize hst:setPending st (((pendingOf st).setIfInBounds i (D,na+nb,pw)).eraseIdxIfInBounds (i+1))=B at q;have ea:arrOf B=arrOf st:=by rw [<-hst]
 have ek:kindOf B=kd:=by rw [<-hst];exact hs
 have ef:failedOf B=none:=by rw [<-hst];exact hf
 rw [<-ea] at G hh ra rb ⊢;obtain ⟨b0,U,ag⟩:=G.at (i:=D+na) (by lia);obtain ⟨aL,Y,ah⟩:=G.at (i:=D+na-1) (by lia);refine Yad (Gs U ?_);have G1:Gal b good false b0 (arrOf B) D na:=Vx W ag (λi hi=>G.at (by lia)) ra;refine Yad (Jx L G1 ek af λk hk k1 k2=>?_);have ab:∀i x y,D<=i->i<D+k->(arrOf B)[i]?=some x->(arrOf B)[D+na]?=some y->kle b x y:=λi x y i1 i2 N O=>by
  rw [U] at O;cases O;have:=k1 (i-D) (by lia);unfold byd at this;rw [Ydp i1,N] at this;dsimp only at this;rw [if_neg Yaq,Bool.not_eq_true'] at this;exact this
 have ac:∀i x y,D+k<=i->i<D+na->(arrOf B)[i]?=some x->(arrOf B)[D+na]?=some y->kle b y x:=λi x y i1 i2 N O=>by
  rw [U] at O;cases O;have:=k2 (i-D) (by lia) (by lia);unfold byd at this;rw [Ydp (by lia),N] at this;dsimp only at this;rw [if_neg Yaq,Bool.not_eq_false'] at this;exact W.le_of_lt this
 dsimp only;unfold Zfo;rw [show arrOf st=arrOf B from ea.symm];split
 ·rename_i e0;have e0:na-k=0:=eq_of_beq e0;refine Yaf (q B rfl rfl rfl (.refl _) (λ_ _=>rfl) (Uz ra rb λi j x y i1 i2 i3 i4 N O=>?_));exact W.le_trans (ab i x b0 i1 (by lia) N U) (rb (D+na) j b0 y (Yae _) i3 i4 U O)
 ·rename_i e0;have e0:na-k≠0:=λz=>e0 (Ybh.mpr z);refine Yad (Gs (show (arrOf B)[D+k+(na-k)-1]?=some aL by rw [<-Y];congr 1;lia) ?_);have G2:Gal b good true aL (arrOf B) (D+na) nb:=Vx W ah (λi hi=>G.at (by lia)) rb;refine Yad (Jx L G2 ek (by lia) λZ am ai aj=>?_);have ad:∀i x y,D+na<=i->i<D+na+Z->(arrOf B)[i]?=some x->(arrOf B)[D+na-1]?=some y->kle b x y:=λi x y i1 i2 N O=>by
   rw [Y] at O;cases O;have:=ai (i-(D+na)) (by lia);unfold byd at this;rw [Ydp i1,N] at this;dsimp only at this;rw [if_pos rfl] at this;exact W.le_of_lt this
  have aa:∀i x y,D+na+Z<=i->i<D+na+nb->(arrOf B)[i]?=some x->(arrOf B)[D+na-1]?=some y->kle b y x:=λi x y i1 i2 N O=>by
   rw [Y] at O;cases O;have:=aj (i-(D+na)) (by lia) (by lia);unfold byd at this;rw [Ydp (by lia),N] at this;dsimp only at this;rw [if_pos rfl] at this;exact this
  dsimp only;unfold Zfn;split
  ·rename_i N;have N:Z=0:=eq_of_beq N;refine Yaf (q B rfl rfl rfl (.refl _) (λ_ _=>rfl) (Uz ra rb λi j x y i1 i2 i3 i4 f1 f2=>?_));exact W.le_trans (ra i (D+na-1) x aL i1 (by lia) (by lia) f1 Y) (aa j y aL (by lia) i4 f2 Y)
  ·rename_i N;have N:Z≠0:=λz=>N (Ybh.mpr z);have F:GalF b (arrOf B) D (D+k) (D+na) Z (D+na+nb):=⟨by lia,by lia,by lia,by lia,ra,rb,ab,ac,ad,aa⟩;have T:=F.two hh G;split
   ·refine Yad ?_;rw [show arrOf st=arrOf B from ea.symm];exact Xo W L T ek λr ak sg m=>F.fin W hh q ef sg m
   ·refine Yad ?_;rw [show arrOf st=arrOf B from ea.symm];exact Xr W L T ek λr ak sg m=>F.fin W hh q ef sg m
end
noncomputable def Runs (b:Keyed->Keyed->Bool)(arr:Array Keyed):Nat->List (Nat×Nat×Nat)->Nat->Prop
 | s,[],e=>s=e
 | s,x::rest,e=>x.1=s/\0<x.2.1/\Rng b arr s (s+x.2.1)/\Runs b arr (s+x.2.1) rest e
section
variable {b:Keyed->Keyed->Bool}{arr arr':Array Keyed}
theorem Runs.le:∀{p:List (Nat×Nat×Nat)}{s e:Nat},Runs b arr s p e->s+p.length<=e
 | [],s,e,h=>by have h:s=e:=h;simp [h]
 | x::p,s,e,h=>by
  have:=Runs.le h.2.2.2;have:=h.2.1;rw [Ybo]
  lia
theorem Runs.app:∀{u v:List (Nat×Nat×Nat)}{s e:Nat},Runs b arr s (u++v) e↔∃m,Runs b arr s u m/\Runs b arr m v e
 | [],v,s,e=>⟨λh=>⟨s,rfl,h⟩,λ⟨m,h1,h2⟩=>by have h1:s=m:=h1;rw [h1];exact h2⟩
 | x::u,v,s,e=>by
  constructor
  ·rintro ⟨h1,h2,h3,h4⟩;obtain ⟨m,k1,k2⟩:=Runs.app.mp h4;exact ⟨m,⟨h1,h2,h3,k1⟩,k2⟩
  ·rintro ⟨m,⟨h1,h2,h3,k1⟩,k2⟩;exact ⟨h1,h2,h3,Runs.app.mpr ⟨m,k1,k2⟩⟩
theorem Runs.keep:∀{p:List (Nat×Nat×Nat)}{s e:Nat},Runs b arr s p e->(∀i,s<=i->i<e->arr'[i]?=arr[i]?)->Runs b arr' s p e
 | [],_,_,h,_=>h
 | x::p,s,e,h,k=>by
  have:=Runs.le h.2.2.2;refine ⟨h.1,h.2.1,λi j u v i1 i2 D q B=>?_,Runs.keep h.2.2.2 λi i1 i2=>k i (by lia) i2⟩;rw [k i i1 (by lia)] at q;rw [k j (by lia) (by lia)] at B;exact h.2.2.1 i j u v i1 i2 D q B
theorem Runs.push {s lo n j:Nat}(h:Runs b arr s p lo)(q:0<n)(B:Rng b arr lo (lo+n)):Runs b arr s (p++[(lo,n,j)]) (lo+n):=
 Runs.app.mpr ⟨lo,h,rfl,q,B,rfl⟩
theorem Runs.two (h:Runs b arr 0 p e)(h1:p[i]?=some (q,na,L))(h2:p[i+1]?=some (B,nb,D)) :
  B=q+na/\0<na/\0<nb/\B+nb<=e/\Rng b arr q B/\Rng b arr B (B+nb) /\
   ((∀i,i<q\/B+nb<=i->arr'[i]?=arr[i]?)->Rng b arr' q (B+nb)->Runs b arr' 0 ((p.set i (q,na+nb,L)).eraseIdx (i+1)) e):=by
 obtain ⟨l1,e1⟩:=Yal.mp h1;obtain ⟨l2,e2⟩:=Yal.mp h2;have d:p=p.take i++(q,na,L)::(B,nb,D)::p.drop (i+2):=by
  conv=>lhs;rw [<-Ydq i p,Yfs l1,e1,Yfs l2,e2]
 have O:(p.take i).length=i:=by rw [Ybn];lia
 generalize p.take i=u at d O;generalize p.drop (i+2)=v at d;subst d;obtain ⟨m,k1,U,Y,Z,k5,k6,k7,N⟩:=Runs.app.mp h;have U:q=m:=U;have Y:0<na:=Y;have k5:B=m+na:=k5;have k6:0<nb:=k6;have Z:Rng b arr m (m+na):=Z;have k7:Rng b arr (m+na) (m+na+nb):=k7;have N:Runs b arr (m+na+nb) v e:=N;subst U k5;have k9:q+na+nb+v.length<=e:=N.le;refine ⟨rfl,Y,k6,by lia,Z,k7,λho hr=>?_⟩;have es:((u++(q,na,L)::(q+na,nb,D)::v).set i (q,na+nb,L)).eraseIdx (i+1)=u++(q,na+nb,L)::v:=by
  rw [List.set_append,if_neg (by lia),O,Nat.sub_self,List.set_cons_zero,List.eraseIdx_append_of_length_le (by lia),O,Nat.add_sub_cancel_left]
  rfl
 rw [es];refine Runs.app.mpr ⟨q,k1.keep λj j1 j2=>ho j (.inl j2),rfl,by show 0<na+nb;lia,by show Rng b arr' q (q+(na+nb));rw [<-Nat.add_assoc];exact hr,?_⟩;show Runs b arr' (q+(na+nb)) v e;rw [<-Nat.add_assoc];exact N.keep λj j1 j2=>ho j (.inr j1)
theorem Runs.pow:∀{p:List (Nat×Nat×Nat)}{s e:Nat}(i:Nat)(f:Nat×Nat×Nat->Nat×Nat×Nat),(∀x,(f x).1=x.1/\(f x).2.1=x.2.1)->Runs b arr s p e->Runs b arr s (p.modify i f) e
 | [],_,_,i,f,_,h=>by cases i <;> exact h
 | x::p,s,e,0,f,hf,h=>by
  rw [List.modify_zero_cons];obtain ⟨q1,q2⟩:=hf x;refine ⟨q1.trans h.1,by rw [q2];exact h.2.1,by rw [q2];exact h.2.2.1,by rw [q2];exact h.2.2.2⟩
 | x::p,s,e,i+1,f,hf,h=>by
  rw [List.modify_succ_cons];exact ⟨h.1,h.2.1,h.2.2.1,Runs.pow i f hf h.2.2.2⟩
theorem Runs.one (W:WO b)(h:Runs b arr 0 p e)(q:p.length<=1):Rng b arr 0 e:=by
 match p,h,q with
 | [],h,_=>
  have h:0=e:=h;subst h;intro i j x y i1 i2 D
  lia
 | [x],h,_=>
  have B:0+x.2.1=e:=h.2.2.2;rw [<-B];exact h.2.2.1
end
section
variable {M:Model}{A:Around}{E:Aa->SS->Prop}{s:SS}{kd:SortKind}{b:Keyed->Keyed->Bool}{good:Keyed->Prop}
structure SI (b:Keyed->Keyed->Bool)(kd:SortKind)(st0 st:SortSt)(lo:Nat):Prop where
 ki:kindOf st=kd
 fa:failedOf st=none
 pm:(arrOf st).Perm (arrOf st0)
 ru:Runs b (arrOf st) 0 (pendingOf st).toList lo
theorem SI.size {st0 st:SortSt}{lo:Nat}(h:SI b kd st0 st lo):(arrOf st).size=(arrOf st0).size:=h.pm.size_eq
theorem SI.merge (W:WO b)(L:O2 M A E s kd b good){st0 st:SortSt}{lo i:Nat}(G:AllG good (arrOf st0))(h:SI b kd st0 st lo)(aa:lo<=(arrOf st0).size)(hi:i+1<(pendingOf st).size)(q:∀B,SI b kd st0 B lo->(pendingOf B).size+1=(pendingOf st).size->(∀i,lo<=i->(arrOf B)[i]?=(arrOf st)[i]?)->Q true B):wpS M A E s (mergeAt' i) Q st:=by
 obtain ⟨⟨D,na,N⟩,U⟩:∃x,(pendingOf st)[i]?=some x:=⟨_,Ybe (by lia)⟩;obtain ⟨⟨sb,nb,ab⟩,p2⟩:∃x,(pendingOf st)[i+1]?=some x:=⟨_,Ybe hi⟩;have two:=λarr'=>Runs.two (arr':=arr') h.ru (by rw [Yba];exact U) (by rw [Yba];exact p2);obtain ⟨t1,t2,t3,t4,t5,t6,_⟩:=two (arrOf st);have ac:=h.size;refine Xv W L h.ki h.fa (G.perm h.pm) U p2 t1 t2 t3 (by lia) t5 t6 λB k1 k2 k3 Y O k6=>?_;have e0:arrOf (setPending st (((pendingOf st).setIfInBounds i (D,na+nb,N)).eraseIdxIfInBounds (i+1)))=arrOf st:=rfl;rw [e0] at Y O;have e1:pendingOf B=((pendingOf st).setIfInBounds i (D,na+nb,N)).eraseIdxIfInBounds (i+1):=k2;have Z:(pendingOf B).toList=((pendingOf st).toList.set i (D,na+nb,N)).eraseIdx (i+1):=by
  rw [e1,Array.toList_eraseIdxIfInBounds,Array.toList_setIfInBounds]
 refine q B ⟨k1.trans h.ki,k3.trans h.fa,Y.trans h.pm,?_⟩ ?_ λj hj=>O j (.inr (by lia))
 ·rw [Z];exact (two (arrOf B)).2.2.2.2.2.2 O k6
 ·have:=Ybg List.length Z;rw [Yan,List.length_eraseIdx,List.length_set,Yan,if_pos hi] at this
  lia
theorem J0 (W:WO b)(L:O2 M A E s kd b good){st:SortSt}(hs:kindOf st=kd)(hf:failedOf st=none)(hp:pendingOf st=#[])(G:AllG good (arrOf st))(q:∀ad,(arrOf ad).Perm (arrOf st)->failedOf ad=none->Rng b (arrOf ad) 0 (arrOf st).size->Q () ad):wpS M A E s sortRuns' Q st:=by
 rw [sortRuns'_eq];refine Yad (wpS_get ?_);dsimp only;generalize hsz:(arrOf st).size=size at q;generalize minRun' size size 0=Y;refine Yad (wpS_mono (Q:=λr aa=>r=(none,size)/\SI b kd st aa size) (Yce (λk r aa=>∃lo,r=(none,lo)/\k<=lo/\lo<=size/\SI b kd st aa lo) ?_ ?_ ⟨0,rfl,Yae _,Yax _,hs,hf,.refl _,by rw [hp];rfl⟩) ?_)
 ·rintro k r aa _ hk ⟨lo,rfl,k1,k2,I⟩;dsimp only;split
  ·have:lo=size:=by lia
   subst this;exact Yaf ⟨rfl,I⟩
  ·rename_i ak;have s1:(arrOf aa).size=size:=I.size.trans hsz;refine Yad (V9 W L I.ki (G.perm I.pm) (by lia) (by lia) λn O ah n1 n2 n3=>?_);have Z:SI b kd st O lo:=⟨ah.kd.trans I.ki,ah.fa.trans I.fa,ah.pm.trans I.pm,by rw [ah.pe];exact I.ru.keep λi _ hi=>ah.lw i hi⟩;dsimp only;have U:∀D n,SI b kd st D lo->0<n->Rng b (arrOf D) lo (lo+n)->SI b kd st (setPending D ((pendingOf D).push (lo,n,0))) (lo+n):=by
    intro D n I3 n1 n3;refine ⟨I3.ki,I3.fa,I3.pm,?_⟩;show Runs b (arrOf D) 0 ((pendingOf D).push (lo,n,0)).toList (lo+n);rw [Yek];exact I3.ru.push n1 n3
   have pow:∀D pw,SI b kd st D lo->SI b kd st (setPending D ((pendingOf D).modify ((pendingOf D).size-1) λx=>(x.1,x.2.1,pw))) lo:=by
    intro D pw I3;refine ⟨I3.ki,I3.fa,I3.pm,?_⟩;show Runs b (arrOf D) 0 ((pendingOf D).modify ((pendingOf D).size-1) λx=>(x.1,x.2.1,pw)).toList lo;rw [Array.toList_modify];exact I3.ru.pow _ _ λx=>⟨rfl,rfl⟩
   split
   ·rename_i ae;refine Yad (wpS_lift (Ydi ⟨rfl,?_⟩));have s2:(arrOf O).size=size:=Z.size.trans hsz;refine Yad (Za W L Z.ki (G.perm Z.pm) (by lia) n1 (by lia) n3 λD ac r3=>?_);have I3:SI b kd st D lo:=⟨ac.kd.trans Z.ki,ac.fa.trans Z.fa,ac.pm.trans Z.pm,by rw [ac.pe];exact Z.ru.keep λi _ hi=>ac.lw i hi⟩;rw [show (!true)=false from rfl,if_neg Yaq];have hN:1<=min (size-lo) Y/\lo+min (size-lo) Y<=size:=by lia
    clear ae;generalize min (size-lo) Y=N at r3 hN;refine Yad (wpS_get ?_);cases hbk:(pendingOf D).back? with
    | none=>exact Yad (Ycr (Yaf ⟨_,rfl,by lia,by lia,U D _ I3 (by lia) r3⟩))
    | some x=>
     obtain ⟨s1,n1,af⟩:=x;dsimp only;refine Yad (wpS_mono (Q:=λr B=>r=(none,())/\SI b kd st B lo/\∀i,lo<=i->(arrOf B)[i]?=(arrOf D)[i]?) (Yce (λ_ r B=>r=(none,())/\SI b kd st B lo/\∀i,lo<=i->(arrOf B)[i]?=(arrOf D)[i]?) ?_ (λ_ _ z=>z) ⟨rfl,I3,λ_ _=>rfl⟩) ?_)
     ·rintro k' r B _ ag ⟨rfl,I4,same⟩;refine Yad (wpS_get ?_);by_cases hz:(pendingOf B).size > 1
      ·obtain ⟨⟨z1,z2,z3⟩,pz⟩:∃x,(pendingOf B)[(pendingOf B).size-2]?=some x:=⟨_,Ybe (by lia)⟩;rw [if_pos hz,pz];dsimp only;split
       ·exact Yaf ⟨rfl,I4,same⟩
       ·refine Yad (I4.merge W L G (by lia) (by lia) λai I5 _ ab=>?_);rw [show (!true)=false from rfl,if_neg Yaq];exact Yaf ⟨rfl,I5,λi hi=>(ab i hi).trans (same i hi)⟩
      ·rw [if_neg hz];exact Yaf ⟨rfl,I4,same⟩
     ·rintro r B ⟨rfl,I4,same⟩;dsimp only;refine Yad (Ycr (Yad (Ycr (Yaf ⟨_,rfl,by lia,by lia,?_⟩))));refine U _ _ (pow B _ I4) (by lia) λi j x y i1 i2 i3 e1 e2=>?_;have e1:(arrOf B)[i]?=some x:=e1;have e2:(arrOf B)[j]?=some y:=e2;rw [same i i1] at e1;rw [same j (by lia)] at e2;exact r3 i j x y i1 i2 i3 e1 e2
   ·have hN:1<=n/\lo+n<=size:=by lia
    refine Yad (wpS_get ?_);cases hbk:(pendingOf O).back? with
    | none=>exact Yad (Ycr (Yaf ⟨_,rfl,by lia,by lia,U O _ Z (by lia) n3⟩))
    | some x=>
     obtain ⟨s1,n1,af⟩:=x;dsimp only;refine Yad (wpS_mono (Q:=λr B=>r=(none,())/\SI b kd st B lo/\∀i,lo<=i->(arrOf B)[i]?=(arrOf O)[i]?) (Yce (λ_ r B=>r=(none,())/\SI b kd st B lo/\∀i,lo<=i->(arrOf B)[i]?=(arrOf O)[i]?) ?_ (λ_ _ z=>z) ⟨rfl,Z,λ_ _=>rfl⟩) ?_)
     ·rintro k' r B _ ag ⟨rfl,I4,same⟩;refine Yad (wpS_get ?_);by_cases hz:(pendingOf B).size > 1
      ·obtain ⟨⟨z1,z2,z3⟩,pz⟩:∃x,(pendingOf B)[(pendingOf B).size-2]?=some x:=⟨_,Ybe (by lia)⟩;rw [if_pos hz,pz];dsimp only;split
       ·exact Yaf ⟨rfl,I4,same⟩
       ·refine Yad (I4.merge W L G (by lia) (by lia) λai I5 _ ab=>?_);rw [show (!true)=false from rfl,if_neg Yaq];exact Yaf ⟨rfl,I5,λi hi=>(ab i hi).trans (same i hi)⟩
      ·rw [if_neg hz];exact Yaf ⟨rfl,I4,same⟩
     ·rintro r B ⟨rfl,I4,same⟩;dsimp only;refine Yad (Ycr (Yad (Ycr (Yaf ⟨_,rfl,by lia,by lia,?_⟩))));refine U _ _ (pow B _ I4) (by lia) λi j x y i1 i2 i3 e1 e2=>?_;have e1:(arrOf B)[i]?=some x:=e1;have e2:(arrOf B)[j]?=some y:=e2;rw [same i i1] at e1;rw [same j (by lia)] at e2;exact n3 i j x y i1 i2 i3 e1 e2
 ·rintro r aa ⟨lo,rfl,k1,k2,I⟩;have:lo=size:=by simp at k1;lia
  subst this;exact ⟨rfl,I⟩
 ·rintro r aa ⟨rfl,I⟩;dsimp only;refine Yad (wpS_mono (Q:=λr O=>r=(none,())/\SI b kd st O size/\(pendingOf O).size<=1) (Yce (λk r O=>r=(none,())/\SI b kd st O size/\(pendingOf O).size+k<=size+1) ?_ ?_ ⟨rfl,I,?_⟩) ?_)
  ·rintro k r O _ hk ⟨rfl,Z,hz⟩;refine Yad (wpS_get ?_);split
   ·rename_i h1;exact Yaf ⟨rfl,Z,h1⟩
   ·rename_i h1;generalize hi:(if Option.any _ _=true then (pendingOf O).size-2-1 else (pendingOf O).size-2)=i;have aj:i+1<(pendingOf O).size:=by
     rw [<-hi];have key:∀(c:Prop)[Decidable c](m:Nat),(if c then m-1 else m)<=m:=λc _ m=>by split <;> lia
     refine Nat.lt_of_le_of_lt (Nat.succ_le_succ (key _ ((pendingOf O).size-2))) ?_
     lia
    refine Yad (Z.merge W L G (by lia) aj λD I3 h3 _=>?_);rw [show (!true)=false from rfl,if_neg Yaq];exact Yaf ⟨rfl,I3,by lia⟩
  ·rintro r O ⟨rfl,Z,hz⟩;exact ⟨rfl,Z,by simp at hz;lia⟩
  ·have:=I.ru.le;rw [Yan] at this
   lia
  ·rintro r O ⟨rfl,Z,h1⟩;refine Yaf (q O Z.pm Z.fa ?_);exact Z.ru.one W (by rw [Yan];exact h1)
end
section
variable {prog:PP}{w:Ab}{A:Around}{E:Aa->SS->Prop}{s:SS}{kd:SortKind}{b:Keyed->Keyed->Bool}{good:Keyed->Prop}
noncomputable def JS (s:SS)(a:AD)(vs:LW):SS:={ s with heap:=((s.heap.update a (Obj.mapSeq λ_=>#[])).push (seqObj "tuple" vs.toArray 0)).push (seqObj "list" #[] 0) }
theorem ZaK (W:WO b)(h:arr.size<2):Rng b arr 0 arr.size:=λi j x y i1 i2 D B q=>by
 have:i=j:=by lia
 subst this;rw [B] at q;cases q;exact W.le_refl _
theorem OW (W:WO b)(ha:s.heap.get? a=some (seqObj "list" vs.toArray n))(hz:vs.length<=sizeLine)(hg:∀v∈vs,good (v,v))(hk:2<=vs.length->∀{E':Aa->SS->Prop}{R:SortKind->SS->Prop},R kd (JS s a vs)->wpAny (model prog w) A (keyKind' vs.toArray) R E' (JS s a vs))(L:O2 (model prog w) A E (JS s a vs) kd b good)(q:∀out:Array Keyed,out.Perm (pairsOf vs)->Rng b out 0 vs.length->P (.done (.ret .none)) { s with heap:=sortedHeap s.heap a vs (out.map (·.2)) }) :
  wpAny (model prog w) A (Builtin.«list.sort» { pos:=[.ref a] }) P E s:=by
 rw [list_sort_plain];refine Yaa (Ycs ha rfl ?_);refine Yaa (Yex ha rfl ?_ (by rw [Yas];exact hz) (Yax _));have B:=get?_update_seq ha (λ_=>#[]);generalize (if ((#[]:Array Aa).size == vs.toArray.size)=true then n else n+1)=n1 at B;refine Yaa (seqEpoch_at B rfl ?_);refine Yaa (wpAny_newTuple ?_ hz);refine Yaa (Yey ?_ (Yax _));refine Ycd ?_;have j:(JS s a vs).heap.get? a=some (seqObj "list" #[] n1):=Yah _ (Yah _ B);show wpAny (model prog w) A _ P E (JS s a vs);have N:(pairsOf vs).size=vs.length:=pairsOf_size vs;dsimp only [Yas];split
 ·rename_i h2;have h2:vs.length<2:=by simpa using h2
  refine Yaa (Yab ?_);refine Yaa (Ybs (Q:=λr s'=>s'=JS s a vs/\failedOf r.2=none/\(arrOf r.2).Perm (pairsOf vs)/\Rng b (arrOf r.2) 0 vs.length) (Yab ⟨rfl,rfl,.refl _,?_⟩) ?_ (λ_ _ z=>z))
  ·have:=ZaK W (arr:=pairsOf vs) (by lia);rw [N] at this;exact this
  ·rintro ⟨_,st⟩ s' ⟨rfl,D,O,Y⟩;dsimp only;refine Yaa (seqEpoch_at j rfl ?_);have D:failedOf st=none:=D;have Z:((arrOf st).map (·.2)).size<=sizeLine+1:=by
    have this:(arrOf st).size=(pairsOf vs).size:=O.size_eq;rw [pairsOf_size] at this;rw [Array.size_map]
    lia
   refine Yaa (Yex j rfl ?_ (Yax _) Z);have:(n1 != n1)=false:=by simp
   rw [this,D];exact Yab (q (arrOf st) O Y)
 ·rename_i h2;have h2:¬ vs.length<2:=by simpa using h2
  refine Yaa (hk (by lia) ?_);refine Yaa (Ybs (Q:=λr s'=>s'=JS s a vs/\failedOf r.2=none/\(arrOf r.2).Perm (pairsOf vs)/\Rng b (arrOf r.2) 0 vs.length) ?_ ?_ (λ_ _ z=>z))
  ·refine J0 (st:=SortSt.mk' kd (vs.toArray.zip vs.toArray) #[] 7 none) (Q:=λ_ st=>failedOf st=none/\(arrOf st).Perm (pairsOf vs)/\Rng b (arrOf st) 0 vs.length) W L rfl rfl rfl (λx U=>?_) λaa k1 k2 k3=>⟨k2,k1,?_⟩
   ·have U:x∈(pairsOf vs).toList:=U;rw [pairsOf_toList] at U;obtain ⟨e,hm⟩:=mem_zip_self U;obtain ⟨x1,x2⟩:=x;have e:x1=x2:=e;subst e;exact hg _ hm
   ·have e:(arrOf (SortSt.mk' kd (vs.toArray.zip vs.toArray) #[] 7 none)).size=vs.length:=N;rw [e] at k3;exact k3
  ·rintro ⟨_,st⟩ s' ⟨rfl,D,O,Y⟩;dsimp only;refine Yaa (seqEpoch_at j rfl ?_);have D:failedOf st=none:=D;have Z:((arrOf st).map (·.2)).size<=sizeLine+1:=by
    have this:(arrOf st).size=(pairsOf vs).size:=O.size_eq;rw [pairsOf_size] at this;rw [Array.size_map]
    lia
   refine Yaa (Yex j rfl ?_ (Yax _) Z);have:(n1 != n1)=false:=by simp
   rw [this,D];exact Yab (q (arrOf st) O Y)
theorem Ju {h:Heap}(j:c≠a)(e:h.get? c=some o):(h.update a f).get? c=some o:=(Heap.get?_update_ne h c a f j).trans e
theorem Ub (W:WO b)(D:s.heap.IsList l vs.toArray)(hz:vs.length<=sizeLine)(N:∀v∈vs,good (v,v))(O:∀h':Heap,(∀c o,s.heap.get? c=some o->h'.get? c=some o)->2<=vs.length->∀{U:Aa->SS->Prop}{R:SortKind->SS->Prop},R kd { s with heap:=h' }->wpAny (model prog w) A.in1.in1 (keyKind' vs.toArray) R U { s with heap:=h' })(L:∀h':Heap,(∀c o,s.heap.get? c=some o->h'.get? c=some o)->O2 (model prog w) A.in1.in1 E { s with heap:=h' } kd b good)(q:∀out:Array Keyed,out.Perm (pairsOf vs)->Rng b out 0 vs.length->Q (.ref (s.heap.objs.size+1)) { s with heap:=sortedAll s.heap vs (out.map (·.2)) }) :
  wpAny (model prog w) A (call (.builtin "sorted") [.ref l]) Q E s:=by
 refine Calls.call_function_entry kind_sorted plain_sorted entry_sorted (args_sorted1 _) ?_;unfold Builtin.sorted;refine Yaa (Yab ?_);refine Yaa (collect_list D ?_ hz);refine Yaa (Yey ?_ hz);refine Yaa (Ycd ?_);generalize hh1:(s.heap.push (seqObj "list" #[] 0)).update s.heap.objs.size (Obj.mapSeq λx=>x++vs.toArray)=h1;have j:h1.objs.size=s.heap.objs.size+1:=by rw [<-hh1,Heap.size_update,Ybz]
 have Y:∀c o,s.heap.get? c=some o->h1.get? c=some o:=λc o e=>by
  rw [<-hh1];exact Ju (Yar (Yag e)) (Yah _ e)
 generalize hh2:h1.push { cls:=Value.type "list", data:=Data.seq vs.toArray }=h2;have ha:h2.get? h1.objs.size=some (seqObj "list" vs.toArray 0):=by rw [<-hh2];exact Ybb _ rfl
 have Z:∀c o,s.heap.get? c=some o->h2.get? c=some o:=λc o e=>by
  rw [<-hh2];exact Yah _ (Y c o e)
 have B:∀c o,s.heap.get? c=some o->(JS { s with heap:=h2 } h1.objs.size vs).heap.get? c=some o:=λc o e=>by
  unfold JS;refine Yah _ (Yah _ (Ju ?_ (Z c o e)));have:=Yag e;rw [j];exact Yar (Ydw this)
 refine Ycy (s:={ s with heap:=h2 }) slot_list_sort ⟨_,ha,rfl⟩ entry_list_sort ?_ (args_list_sort _);refine OW (s:={ s with heap:=h2 }) W ha hz N (λh=>O _ B h) (L _ B) λout p r=>⟨.none,rfl,Yab ⟨_,rfl,?_⟩⟩;have e:({ s with heap:=sortedHeap h2 h1.objs.size vs (out.map (·.2)) }:SS)={ s with heap:=sortedAll s.heap vs (out.map (·.2)) }:=by
  unfold sortedAll;rw [j,<-hh2,<-hh1]
 show Q (.ref h1.objs.size) { s with heap:=sortedHeap h2 h1.objs.size vs (out.map (·.2)) };rw [e,j];exact q out p r
noncomputable def ZiB:Keyed->Keyed->Bool:=λx y=>match x.1,y.1 with
 | .int i _,.int j _=>decide (i<j)
 | _,_=>false
noncomputable def Vy:Aa->Int
 | .int i _=>i
 | _=>0
end
noncomputable def GE:LI->LI->Bool
 | [],[]=>false
 | [],_::_=>true
 | _::_,[]=>false
 | x::xs,y::ys=>if x=y then GE xs ys else decide (x<y)
section
variable {prog:PP}{w:Ab}{A:Around}{E:Aa->SS->Prop}{s:SS}
theorem Uc:∀{its:LW}{ns:LI},IntsAre its ns->∀k:Nat,(its[k]?=none/\ns.drop k=[])\/∃i t,its[k]?=some (.int i t)/\ns.drop k=i::ns.drop (k+1)
 | _,_,.nil,k=>.inl ⟨by simp,by simp⟩
 | _,_,.cons n t h,0=>.inr ⟨n,t,rfl,rfl⟩
 | _,_,.cons n t h,k+1=>by
  rcases Uc h k with ⟨h1,h2⟩ | ⟨i,t,h1,h2⟩
  ·exact .inl ⟨by simpa using h1,by simpa using h2⟩
  ·exact .inr ⟨i,t,by simpa using h1,by simpa using h2⟩
theorem G5 (h:IntsAre its ns):its.length=ns.length:=by
 induction h with
 | nil=>rfl
 | cons n t h ih=>simp [ih]
theorem Zd5 (L:s.heap.get? a=some oa)(N:s.heap.get? c=some oc)(O:oa.data=.seq xs.toArray na)(U:oc.data=.seq ys.toArray nc)(Y:IntsAre xs ns)(Z:IntsAre ys ms) :
  ∀left k:Nat,ns.length-k=left->k<=ns.length->k<=ms.length->R (.ok (.ret (.bool (GE (ns.drop k) (ms.drop k))))) s->codeAny (model prog w) A (.builtin "list.__eq__.loop" { pos:=[.ref a,.ref c,rawInt (k:Int),rawInt 0] }) R s:=by
 intro left
 induction left with
 | zero=>
  intro k hl h1 h2 q;refine Ycz MeetsSeq3.entry_eq_loop ?_;rw [Ydx MeetsSeq3.plain_eq_loop _];show wpAny _ A.in1 (Builtin.List.listItems (.ref a) >>= _) _ _ s;refine Yaa (Ycs L O (Yaa (Ycs N U ?_)));have e1:xs.toArray[((k:Int)).toNat]?=none:=by
   rw [Ydf];rcases Uc Y k with ⟨h,_⟩ | ⟨i,t,h,_⟩
   ·simpa using h
   ·have:=(Yal.mp h).1;have:=G5 Y
    lia
  rw [e1];show wpAny _ A.in1 (Builtin.List.listItems (.ref a) >>= _) _ _ s;refine Yaa (Ycs L O (Yaa (Ycs N U (Yab ?_))));show R (.ok (.ret (.bool (decide (xs.toArray.size<ys.toArray.size))))) s;have D:GE (ns.drop k) (ms.drop k)=decide (xs.toArray.size<ys.toArray.size):=by
   rw [Yas,Yas,G5 Y,G5 Z];have:ns.drop k=[]:=Yfx (by lia);rw [this];cases hd:ms.drop k with
   | nil=>
    have:=List.drop_eq_nil_iff.mp hd;rw [Ybl (by lia)]
    rfl
   | cons y l=>
    have:k<ms.length:=by
     refine Nat.lt_of_not_le λh=>?_;rw [Yfx h] at hd;cases hd
    rw [Yau (by lia)]
    rfl
  rw [<-D];exact q
 | succ left ih=>
  intro k hl h1 h2 q;refine Ycz MeetsSeq3.entry_eq_loop ?_;rw [Ydx MeetsSeq3.plain_eq_loop _];show wpAny _ A.in1 (Builtin.List.listItems (.ref a) >>= _) _ _ s;refine Yaa (Ycs L O (Yaa (Ycs N U ?_)));rw [Ydf];rcases Uc Y k with ⟨h,z⟩ | ⟨i,t,hi,di⟩
  ·have:=List.drop_eq_nil_iff.mp z
   lia
  ·have e1:xs.toArray[k]?=some (.int i t):=by simpa using hi
   rw [e1];rcases Uc Z k with ⟨h,z⟩ | ⟨j,u,hj,dj⟩
   ·have D:ys.toArray[k]?=none:=by simpa using h
    rw [D];show wpAny _ A.in1 (Builtin.List.listItems (.ref a) >>= _) _ _ s;refine Yaa (Ycs L O (Yaa (Ycs N U (Yab ?_))));show R (.ok (.ret (.bool (decide (xs.toArray.size<ys.toArray.size))))) s;rw [di,z] at q;have:=List.drop_eq_nil_iff.mp z;rw [Yas,Yas,G5 Y,G5 Z,Ybl (by lia)];exact q
   ·have D:ys.toArray[k]?=some (.int j u):=by simpa using hj
    rw [D];rw [di,dj] at q;show wpAny _ A.in1 (eqBool (.int i t) (.int j u) >>= _) _ _ s;refine Yaa (wpAny_eqBool_int ?_);have kl:k<ms.length:=by
     have:=(Yal.mp hj).1;rw [G5 Z] at this;exact this
    by_cases B:i=j
    ·rw [show (i == j)=true by rw [B];exact Yfe _,if_pos rfl];refine Yab ⟨Yed MeetsSeq3.plain_eq_loop _,ih (k+1) (by lia) (by lia) (by lia) ?_⟩;unfold GE at q;rw [if_pos B] at q;exact q
    ·rw [show (i == j)=false by rw [Ydy];exact B,if_neg Yaq];refine Yaa (Ycs L O (Yaa (Ycs N U ?_)));rw [e1,D];refine Yaa (lt_int (Yab ?_));unfold GE at q;rw [if_neg B] at q;exact q
theorem Yc (a c:AD)(xs ys:LW)(ns ms:LI)(na nc:Nat)(q:IntsAre xs ns)(B:IntsAre ys ms):Meets (Builtin.«list.__lt__» { pos:=[.ref a,.ref c] }) λA R s=>
  s.heap.IsList a xs.toArray/\s.heap.IsList c ys.toArray/\R (.ok (.ret (.bool (GE ns ms)))) s:=by
 intro prog w A R s ⟨ha,D,L⟩;obtain ⟨oa,N,ca,n1,O⟩:=ha;obtain ⟨U,j,Y,n2,Z⟩:=D;show wpAny _ A.in1 (isInstance (.ref c) (.type "list") >>= _) _ _ s;refine Yaa (Yfi (T := "list") ⟨U,j,Y⟩ (by first | rfl | decide +kernel) ?_);refine Yab ⟨Yed MeetsSeq3.plain_eq_loop _,?_⟩;exact Zd5 N j O Z q B _ 0 rfl (Yax _) (Yax _) L
theorem Zb (ha:s.heap.IsList a xs.toArray)(q:s.heap.IsList c ys.toArray)(B:IntsAre xs ns)(D:IntsAre ys ms)(L:A.units<cLine)(h:Q (GE ns ms) s) :
  wpAny (model prog w) A (oneLt' true (.ref a) (.ref c)) Q E s:=by
 rw [oneLt'_eq];dsimp only;rw [if_pos rfl];refine Yaa (wpAny_cRoom L ?_);have j:s.TypeIs (.ref a) "list" := ha.elim λo z=>⟨o,z.1,z.2.1⟩;refine Yaa (wpAny_callSpecialIfBound?_slot j F.slot_list_lt (call_meets F.slot_list_lt j F.entry_list_lt (F.args_list_lt_2 _ _) (Yc a c xs ys ns ms 0 0 B D) ⟨ha,q,?_⟩));show wpAny _ A (truthOfDropped (.bool (GE ns ms))) Q E s;exact Yds h
end
end L2
namespace L2
open PySem PySem.Spec PyProof.Rows Classical
theorem Jg:∀xs:LI,GE xs xs=false
 | []=>rfl
 | x::xs=>by
  unfold GE;rw [if_pos rfl];exact Jg xs
theorem Oy:∀{xs ys zs:LI},GE xs ys=true->GE ys zs=true->GE xs zs=true
 | [],[],_,h,_=>by simp [GE] at h
 | [],_::_,[],_,h=>by simp [GE] at h
 | [],_::_,_::_,_,_=>rfl
 | _::_,[],_,h,_=>by simp [GE] at h
 | _::_,_::_,[],_,h=>by simp [GE] at h
 | x::xs,y::ys,z::zs,h1,h2=>by
  unfold GE at h1 h2 ⊢;by_cases e1:x=y
  ·rw [if_pos e1] at h1;by_cases e2:y=z
   ·rw [if_pos e2] at h2;rw [if_pos (e1.trans e2)];exact Oy h1 h2
   ·rw [if_neg e2] at h2;rw [if_neg (by rw [e1];exact e2),e1];exact h2
  ·rw [if_neg e1] at h1;have h1:=Ybv h1;by_cases e2:y=z
   ·rw [if_neg (by rw [<-e2];exact e1),<-e2];exact Yau h1
   ·rw [if_neg e2] at h2;have h2:=Ybv h2;rw [if_neg (by lia)];exact Yau (by lia)
theorem Oj:∀{xs ys:LI},GE xs ys=false->GE ys xs=false->xs=ys
 | [],[],_,_=>rfl
 | [],_::_,h,_=>by simp [GE] at h
 | _::_,[],_,h=>by simp [GE] at h
 | x::xs,y::ys,h1,h2=>by
  unfold GE at h1 h2;by_cases e:x=y
  ·rw [if_pos e] at h1;rw [if_pos e.symm] at h2;rw [e,Oj h1 h2]
  ·rw [if_neg e] at h1;rw [if_neg (Ne.symm e)] at h2;have h1:=Yez h1;have h2:=Yez h2
   lia
theorem Yd {α:Type}{κ:Keyed->α}{lt:α->α->Bool}(j:∀a,lt a a=false)(B:∀{a b c},lt a b=true->lt b c=true->lt a c=true)(q:∀{a b},lt a b=false->lt b a=false->a=b):WO (λx y=>lt (κ x) (κ y)):=by
 refine ⟨λx=>j _,λx y z=>B,λx y z h=>?_⟩;cases h1:lt (κ x) (κ y) with
 | true=>exact .inl rfl
 | false=>
  cases h2:lt (κ y) (κ x) with
  | true=>exact .inr (B h2 h)
  | false=>
   rw [<-q h1 h2];exact .inr h
theorem JD {α β:Type}{f:α->β}:∀{l:List β}{zs:List α},l.Perm (zs.map f)->∃j:List α,j.Perm zs/\j.map f=l:=by
 intro l zs h;generalize hm:zs.map f=m at h
 induction h generalizing zs with
 | nil=>exact ⟨zs,.refl _,by rw [hm]⟩
 | @cons x l1 l2 _ ih=>
  cases zs with
  | nil=>simp at hm
  | cons z zs=>
   simp at hm;obtain ⟨j,h1,h2⟩:=ih hm.2;exact ⟨z::j,h1.cons z,by rw [Yap,h2,hm.1]⟩
 | swap x y l=>
  cases zs with
  | nil=>simp at hm
  | cons z zs=>
   cases zs with
   | nil=>simp at hm
   | cons z2 zs=>
    simp at hm;exact ⟨z2::z::zs,.swap _ _ _,by simp [hm.1,hm.2.1,hm.2.2]⟩
 | trans _ _ ih1 ih2=>
  obtain ⟨B,h1,h2⟩:=ih2 hm;obtain ⟨q,D,L⟩:=ih1 h2;exact ⟨q,D.trans h1,L⟩
section
variable {prog:PP}{w:Ab}{A:Around}{E:Aa->SS->Prop}{s:SS}{b:Keyed->Keyed->Bool}{good:Keyed->Prop}
theorem Ye (h:∀x y,good x->good y->∀{j:Aa->SS->Prop}{Q:Bool->SS->Prop},Q (b x y) s->wpAny (model prog w) A (oneLt' true x.1 y.1) Q j s):O2 (model prog w) A E s oneType' b good:=by
 intro x y st Q B D L q;rw [lt'_eq];refine Yad (wpS_get ?_);refine Yad (wpS_lift ?_);rw [L,keyLt'_oneType];exact Yea (h x y B D ⟨rfl,Yaf q⟩)
theorem JT {β:Type}{f:Aa->Sem β}{g:Aa->β}:∀{vs:LW}{Q:List β->SS->Prop},(∀v∈vs,∀{Q:β->SS->Prop},Q (g v) s->wpAny (model prog w) A (f v) Q E s)->Q (vs.map g) s->wpAny (model prog w) A (List.mapM f vs) Q E s
 | [],Q,_,q=>by
  rw [List.mapM_nil];exact Yab q
 | v::vs,Q,h,q=>by
  rw [List.mapM_cons];refine Yaa (h v (Ybj ..) ?_);exact Yaa (JT (λu hu=>h u (Ybf _ hu)) (Yab q))
theorem OX {α β:Type}{m:Sem α}{f:α->β}{Q:β->SS->Prop}(h:wpAny (model prog w) A m (λa s'=>Q (f a) s') E s):wpAny (model prog w) A (f <$> m) Q E s:=by
 rw [map_eq_pure_bind];exact Yaa (Ybs h (λa s' z=>Yab z) λ_ _ z=>z)
theorem U0 {vs:LW}{R:SortKind->SS->Prop}(L:T ≠ "tuple")(h:∀v∈vs,s.TypeIs v T)(h2:2<=vs.length)(q:R oneType' s):wpAny (model prog w) A (keyKind' vs.toArray) R E s:=by
 rw [keyKind'_eq,List.mapM_toArray];have N:(Value.type T != Value.type "tuple")=true:=by
  rw [bne_iff_ne];intro e;injection e with e
  exact L e
 refine Yaa (OX (JT (g:=λ_=>none) (λv D Q q=>?_) ?_))
 ·show wpAny _ _ (typeOf v >>= _) _ _ s;refine Yaa (Ydz (h v D) ?_);rw [if_pos N];exact Yab q
 ·obtain ⟨j,B,rest,rfl⟩:∃j B rest,vs=j::B::rest:=by
   cases vs with
   | nil=>simp at h2
   | cons j t=>cases t with
    | nil=>simp at h2
    | cons B rest=>exact ⟨j,B,rest,rfl⟩
  rw [if_neg (by simp)];rw [if_neg (by simp)];rw [oneTypeOnly'_eq,List.mapM_toArray];refine Yaa (Yaa (OX (JT (g:=λ_=>Value.type T) (λv D Q q=>Ydz (h v D) q) ?_)));simp only [Yap,List.getElem?_toArray,List.getElem?_cons_zero];refine Yab ?_;rw [if_pos (by simp)];exact Yab q
end
noncomputable def ltI (x y:Int):Bool:=decide (x<y)
theorem Zfp:WO (λx y=>ltI (Vy x.1) (Vy y.1)):=Yd (κ:=λx:Keyed=>Vy x.1) (lt:=ltI) (λa=>by simp [ltI]) (λ{a b c} h1 h2=>by
  have h1:=Ybv h1;have h2:=Ybv h2;exact Yau (by lia)) (λ{a b} h1 h2=>by
  have h1:=Yez h1;have h2:=Yez h2
  lia)
theorem Jq (h:Rng b out 0 n)(D:out.size=n):out.toList.Pairwise (kle b):=by
 rw [Yec];intro i j hi q B;rw [Yan] at hi q;exact h i j _ _ (Yax _) (by lia) (by lia) (by simp [hi]) (by simp [q])
theorem UA {out:Array Keyed}(h:out.Perm (pairsOf vs)):(out.map (·.2)).toList.Perm vs/\(∀x∈out.toList,x.1=x.2/\x.1∈vs)/\out.size=vs.length:=by
 have p:out.toList.Perm (vs.zip vs):=by
  have:=h.toList;rw [pairsOf_toList] at this;exact this
 refine ⟨?_,λx j=>mem_zip_self (p.mem_iff.mp j),by rw [h.size_eq,pairsOf_size]⟩;rw [Yfo];have:=p.map (λx:Keyed=>x.2);rw [show (vs.zip vs).map (λx:Keyed=>x.2)=vs from List.map_snd_zip (Yae _)] at this;exact this
noncomputable def Zd6 (h:Heap)(v:Aa):LI:=if q:∃ns a its,v=.ref a/\h.IsList a its/\IntsAre its.toList ns then choose q else []
theorem Wa (h:IntsAre its ns)(k:IntsAre its ms):ns=ms:=by
 induction h generalizing ms with
 | nil=>cases k;rfl
 | cons n t h ih=>cases k with
  | cons _ _ k=>rw [ih k]
theorem Vz {h:Heap}(h1:h.IsList a xs)(h2:h.IsList a ys):xs=ys:=by
 obtain ⟨o,e,_,n,d⟩:=h1;obtain ⟨o',j,_,B,q⟩:=h2;rw [e] at j;cases j;rw [d] at q;cases q
 rfl
theorem Wb (B:h.IsList a its)(hi:IntsAre its.toList ns):Zd6 h (.ref a)=ns:=by
 have q:∃ns j its,Value.ref a=.ref j/\h.IsList j its/\IntsAre its.toList ns:=⟨ns,a,its,rfl,B,hi⟩;unfold Zd6;rw [dif_pos q];obtain ⟨j,D,e,h1,h2⟩:=choose_spec q;cases e;have:=Vz B h1;subst this;exact Wa h2 hi
theorem Zd7 (h:Heap):WO (λx y=>GE (Zd6 h x.1) (Zd6 h y.1)):=Yd (κ:=λx:Keyed=>Zd6 h x.1) (lt:=GE) Jg Oy Oj
section
variable {X:Cx}(K:FG)
noncomputable def Zd8:List V->Hp->VK->Prop:=λxs H Q=>∃(p:AD)(zs:List (AD×LI)),xs=[.ref p]/\SqL K H p (zs.map λz=>V.ref z.1)/\(∀z∈zs,SqL K H z.1 (z.2.map V.int)) /\
 ∀(l:AD)(zs':List (AD×LI)),H l=none->zs'.Perm zs->(zs'.map (·.2)).Pairwise (λa b=>GE b a=false)->Q (.ref l) (upd H l (.lst (zs'.map λz=>V.ref z.1)))
theorem Wc:∀{zs:List (AD×LI)}{its:LW},Vals (zs.map λz=>V.ref z.1) its->its=zs.map λz=>Value.ref z.1
 | [],_,h=>by cases h;rfl
 | z::zs,_,h=>by
  cases h with
  | cons r h=>
   cases r;rw [Wc h]
   rfl
theorem OY:∀(zs:List (AD×LI)),Vals (zs.map λz=>V.ref z.1) (zs.map λz=>Value.ref z.1)
 | []=>.nil
 | z::zs=>.cons rfl (OY zs)
theorem Zd9 (hu:X.A.units+64<cLine)(h:X.K=K:=by rfl):JG X (.builtin "sorted") (Zd8 K):=by
 subst h;intro qQ s σ H xs us Q I rv h;obtain ⟨p,zs,rfl,hq,hz,q⟩:=h;obtain ⟨u,rfl,ru⟩:=rv.one;cases ru;obtain ⟨its,r,pl,O⟩:=I.list hq;have hl:=r.length;rw [Yac] at hl O;have ei:=Wc r;have key:∀z∈zs,∃its:Array Aa,s.heap.IsList z.1 its/\IntsAre its.toList z.2:=λz L=>by
  obtain ⟨iz,rz,pz,_⟩:=I.list (hz z L);exact ⟨iz.toArray,pz.isList,JQ rz⟩
 have U:∀v∈its,∃a,∃B:Array Aa,∃ns,v=.ref a/\s.heap.IsList a B/\IntsAre B.toList ns:=λv Y=>by
  rw [ei] at Y;obtain ⟨z,L,rfl⟩:=Yai.mp Y;obtain ⟨B,h1,h2⟩:=key z L;exact ⟨z.1,B,z.2,rfl,h1,h2⟩
 have j:∀{h':Heap}{a:AD}{B:Array Aa},(∀c o,s.heap.get? c=some o->h'.get? c=some o)->s.heap.IsList a B->h'.IsList a B:=λk hl=>by
  obtain ⟨o,e,r⟩:=hl;exact ⟨o,k _ _ e,r⟩
 refine Ub (good:=λx=>∃a,∃B:Array Aa,∃ns,x.1=.ref a/\s.heap.IsList a B/\IntsAre B.toList ns) (Zd7 s.heap) pl.isList (by lia) U (λh' k h2 E' R q=>?_) (λh' k=>Ye λx y gx gy E' Q q=>?_) λout hp hr=>?_
 ·refine U0 (T := "list") (by decide) (λv Y=>?_) h2 q;obtain ⟨a,B,ns,rfl,h1,_⟩:=U v Y;obtain ⟨o,e,c,_⟩:=j k h1;exact ⟨o,e,c⟩
 ·obtain ⟨a,B,ns,e1,h1,h2⟩:=gx;obtain ⟨c,jt,ms,e2,Z,h4⟩:=gy;simp only [e1,e2,Wb h1 h2,Wb Z h4] at q ⊢;exact Zb (xs:=B.toList) (ys:=jt.toList) (j k h1) (j k Z) h2 h4 (by rw [Ydm,Ydm];lia) q
 ·obtain ⟨o1,o2,o3⟩:=UA hp;obtain ⟨e,he⟩:=sortedAll_at s.heap its (out.map (·.2));rw [ei] at o1;obtain ⟨N,p1,p2⟩:=JD o1;have ps:(N.map (·.2)).Pairwise (λa b=>GE b a=false):=by
   have a1:=Jq hr o3;have a2:(out.toList.map (·.2)).Pairwise (λu v=>GE (Zd6 s.heap v) (Zd6 s.heap u)=false):=by
    rw [Ybp];refine a1.imp_of_mem λ{x y} hx hy D=>?_;rw [<-(o2 x hx).1,<-(o2 y hy).1];exact D
   rw [Yfo] at p2;rw [<-p2,Ybp] at a2;rw [Ybp];refine a2.imp_of_mem λ{x y} hx hy D=>?_;obtain ⟨B,h1,h2⟩:=key x (p1.mem_iff.mp hx);obtain ⟨jt,Z,h4⟩:=key y (p1.mem_iff.mp hy);rw [Wb h1 h2,Wb Z h4] at D;exact D
  refine ⟨.ref _,_,I.laid (a:=s.heap.objs.size+1) (t':=s.toks) (o:=.lst (N.map λz=>V.ref z.1)) (λb o e=>sortedAll_old e) (Yde _) ⟨by rw [Yac,p1.length_eq];exact O,(out.map (·.2)).toList,e,by rw [<-p2];exact OY N,he⟩,rfl,q _ _ (I.hok.fresh (Yde _)) p1 ps⟩
end
end L2
namespace L2
open PySem PySem.Spec PyProof.Rows
section
variable {prog:PP}{w:Ab}{A:Around}{E:Aa->SS->Prop}{s:SS}
noncomputable def Fall (kz:LI)(vs out:LW):Prop:=∃ps:List (Int×Aa),ps.Perm (kz.zip vs)/\out=ps.map Prod.snd/\ps.Pairwise (λp q=>q.1<=p.1)
theorem fall_of {xs:Array Keyed}(q:IntsAre j kz)(B:xs.toList.Perm (j.zip vs))(D:xs.toList.Pairwise (kle λx y=>ltI (Vy x.1) (Vy y.1))):Fall kz vs ((xs.toList.map (·.2)).reverse):=by
 have L:∀{l:LW}{ns:LI},IntsAre l ns->l.map Vy=ns:=by
  intro l ns h
  induction h with
  | nil=>rfl
  | cons n t h ih=>rw [Yap,ih];rfl
 refine ⟨(xs.toList.map λx=>(Vy x.1,x.2)).reverse,(List.reverse_perm _).trans ?_,?_,?_⟩
 ·refine (B.map λx:Keyed=>(Vy x.1,x.2)).trans (.of_eq ?_);rw [<-L q,List.zip_map_left];exact List.map_congr_left λ⟨x,y⟩ _=>rfl
 ·rw [List.map_reverse,Ydh]
  rfl
 ·rw [List.pairwise_reverse,Ybp];refine D.imp λ{x y} h=>?_;have:=Yez h
  lia
structure Zfq (J:SS->Prop)(a b:AD):Prop where
 put:∀(s:SS)(c:AD)(f:Obj->Obj),c=a\/c=b->J s->J { s with heap:=s.heap.update c f }
noncomputable abbrev keyHeap (h:Heap)(a:AD)(vs:LW):Heap:=((h.update a (Obj.mapSeq λ_=>#[])).push (seqObj "tuple" vs.toArray 0)).push (seqObj "list" #[] 0)
theorem Zcl {α:Type}{R:α->α->Prop}:∀{l:List α},l.length<2->l.Pairwise R:=λ{l} h=>by
 cases l with
 | nil=>exact .nil
 | cons a l=>
  cases l with
  | nil=>simp
  | cons b l=>exact absurd h (by simp)
theorem OZ (ha:s.heap.get? a=some (seqObj "list" vs.toArray n))(hz:vs.length<=sizeLine)(hl:kz.length=vs.length)(S:Zfq J a (s.heap.objs.size+1))(hJ:J { s with heap:=keyHeap s.heap a vs })(ai:∀(i:Nat)(v:Aa)(k:Int)(s1:SS)(R:Aa->SS->Prop)(E':Aa->SS->Prop),vs[i]?=some v->kz[i]?=some k->J s1->s.heap.objs.size+1<s1.heap.objs.size ->
   (∀t N,J N->s1.heap.objs.size<=N.heap.objs.size->(∀c o,c=a\/c=s.heap.objs.size+1->s1.heap.get? c=some o->N.heap.get? c=some o)->R (.int k t) N)->wpAny (model prog w) A (call (.ref q) [v]) R E' s1)(fin:∀(N:SS)(out:Array Aa)(c:Nat),J N->N.heap.get? a=some (seqObj "list" out c)->Fall kz vs out.toList->P (.done (.ret .none)) N) :
  wpAny (model prog w) A (Builtin.«list.sort» ⟨[.ref a],[(Str.ofString "key", .ref q),(Str.ofString "reverse", .bool true)]⟩) P E s:=by
 rw [PyProof.Rows.ksk_t2];unfold PyProof.Rows.ksk_tree;have aj:=Yag ha;refine Yaa (Ycs ha rfl ?_);refine Yaa (Yex ha rfl ?_ (by rw [Yas];exact hz) (Yax _));have ab:=get?_update_seq ha (λ_=>#[]);generalize (if ((#[]:Array Aa).size == vs.toArray.size)=true then n else n+1)=O at ab;refine Yaa (seqEpoch_at ab rfl ?_);refine Yaa (wpAny_newTuple ?_ hz);refine Yaa (Yey ?_ (Yax _));refine Ycd ?_;have z1:((s.heap.update a (Obj.mapSeq λ_=>#[])).push (seqObj "tuple" vs.toArray 0)).objs.size=s.heap.objs.size+1:=by rw [Ybz,Heap.size_update]
 have ac:(keyHeap s.heap a vs).get? (s.heap.objs.size+1)=some (seqObj "list" #[] 0):=by rw [<-z1];exact Ybb _ rfl
 have ad:(keyHeap s.heap a vs).get? a=some (seqObj "list" #[] O):=Yah _ (Yah _ ab);have z2:(keyHeap s.heap a vs).objs.size=s.heap.objs.size+2:=by rw [Ybz,z1]
 show wpAny (model prog w) A (PyProof.Rows.ksk_rest a (.ref q) true vs.toArray O (.ref ((s.heap.update a (Obj.mapSeq λ_=>#[])).push (seqObj "tuple" vs.toArray 0)).objs.size)) P E { s with heap:=keyHeap s.heap a vs };rw [z1];generalize keyHeap s.heap a vs=h0 at hJ ac ad z2 ⊢;generalize hkS:s.heap.objs.size+1=U at *;have ae:a≠U:=by rw [<-hkS];exact Yar (Ydw aj)
 unfold PyProof.Rows.ksk_rest;refine Yaa (Ydi ?_);refine Yaa ?_;rw [<-Array.forIn_toList];refine PyProof.Rows.ksk_fold (λi s1=>J s1/\U<s1.heap.objs.size/\s1.heap.get? a=some (seqObj "list" #[] O)/\∃B c,s1.heap.get? U=some (seqObj "list" B c)/\IntsAre B.toList (kz.take i)) vs.toArray.toList 0 _ ⟨hJ,by show U<h0.objs.size;lia,ad,#[],0,ac,.nil⟩ ?_ ?_
 ·rintro j x s1 Y ⟨j1,l1,a1,B,c,k1,Z⟩;have Y:vs[j]?=some x:=by simpa using Y
  have hj:j<vs.length:=(Yal.mp Y).1;have hk:kz[j]?=some kz[j]:=Yaw (by lia);rw [Ydo] at Z;refine Yaa (Yea (ai j x kz[j] s1 _ _ Y hk j1 l1 λt N j2 l2 kp=>?_));have k2:=kp U _ (.inr rfl) k1;have a2:=kp a _ (.inl rfl) a1;have il:B.size=j:=by
   have:=Z.length;rw [Yan,Ybn] at this
   lia
  refine Yaa (Yex k2 rfl ?_ (by lia) (by show (B.push _).size<=_;rw [Ycq];lia));refine Yab ⟨rfl,S.put _ _ _ (.inr rfl) j2,by show U<(N.heap.update U _).objs.size;rw [Heap.size_update];lia,(Ycp _ _ (Ne.symm ae)).trans a2,B.push (.int kz[j] t),_,get?_update_seq k2 (·.push (.int kz[j] t)),?_⟩;rw [Yek,Ydo,Ybx,hk];exact PyProof.Rows.ksk_snoc Z
 ·rintro s1 ⟨j1,l1,a1,B,c,k1,Z⟩;rw [show 0+vs.toArray.toList.length=kz.length by simp [hl],Ybu] at Z;have il:B.size=vs.length:=by
   have:=Z.length;rw [Yan] at this
   lia
  have af:∀v∈B.toList,∃i t,v=.int i t:=Z.all;refine Yaa (Ycs k1 rfl ?_);have D:(B.zip vs.toArray).toList=B.toList.zip vs:=PyProof.Rows.ksk_zip B vs;have al:(B.zip vs.toArray).size=vs.length:=by simp [Array.size_zip,il]
  have aa:∀st:SortSt,failedOf st=none->(arrOf st).toList.Perm (B.toList.zip vs)->(arrOf st).toList.Pairwise (kle λx y=>ltI (Vy x.1) (Vy y.1))->wpAny (model prog w) A (PyProof.Rows.ksk_tail a true O (.ref U) st) P E s1:=by
   intro st f0 p0 r0;have am:(arrOf st).size=vs.length:=by
    have:=p0.length_eq;rw [Yan,List.length_zip,Yan] at this
    lia
   unfold PyProof.Rows.ksk_tail;refine Yaa (Yex k1 rfl ?_ (by lia) (Yax _));refine Yaa (wpAny_letGo ?_);have a3:(s1.heap.update U (Obj.mapSeq λ_=>#[])).get? a=some (seqObj "list" #[] O):=(Ycp _ _ (Ne.symm ae)).trans a1;refine Yaa (seqEpoch_at a3 rfl ?_);refine Yaa (Yex a3 rfl ?_ (Yax _) (by rw [if_pos rfl,Array.size_reverse,Array.size_map];lia));rw [show (O != O)=false by simp,f0];refine Yab (fin _ _ _ (S.put _ _ _ (.inl rfl) (S.put _ _ _ (.inr rfl) j1)) (get?_update_seq a3 _) ?_);rw [if_pos rfl,Yem,Yfo];exact fall_of Z p0 r0
  unfold PyProof.Rows.ksk_end;dsimp only;rw [if_pos rfl];refine Yaa (Ydi ?_);split
  ·rename_i h2;have h2:vs.length<2:=by simpa using h2
   refine Yaa (Yab ?_);refine Yaa (Ybs (Q:=λr s'=>s'=s1/\r.2=SortSt.mk' general' (B.zip vs.toArray).reverse #[] 7 none) (Yab ⟨rfl,rfl⟩) ?_ (λ_ _ z=>z));rintro ⟨_,st⟩ s' ⟨rfl,rfl⟩;refine aa _ rfl ?_ ?_
   ·show (B.zip vs.toArray).reverse.toList.Perm _;rw [Yem,D];exact List.reverse_perm _
   ·show (B.zip vs.toArray).reverse.toList.Pairwise _;have ak:(B.zip vs.toArray).reverse.toList.length<2:=by rw [Yan,Array.size_reverse];lia
    exact Zcl ak
  ·rename_i h2;have h2:¬ vs.length<2:=by simpa using h2
   have kk:wpAny (model prog w) A (keyKind' B) (λag s'=>ag=oneType'/\s'=s1) E s1:=by
    have:B=B.toList.toArray:=by simp
    rw [this];exact U0 (T := "int") (by decide) (λv hv=>by obtain ⟨i,t,rfl⟩:=af v hv;exact typeIs_int _ _ _) (by rw [Yan];lia) ⟨rfl,rfl⟩
   refine Yaa (Ybs kk ?_ (λ_ _ z=>z));rintro _ an ⟨rfl,es⟩;rw [es];have L:O2 (model prog w) A E s1 oneType' (λx y=>ltI (Vy x.1) (Vy y.1)) (λx=>∃i t,x.1=.int i t):=Ye λx y gx gy E' Q q=>by
    obtain ⟨i,t,O⟩:=gx;obtain ⟨j,u,e2⟩:=gy;simp only [O,e2] at q ⊢;exact oneLt_int q
   refine Yaa (Ybs (J0 (st:=SortSt.mk' oneType' (B.zip vs.toArray).reverse #[] 7 none) (Q:=λ_ st=>failedOf st=none/\(arrOf st).toList.Perm (B.toList.zip vs)/\(arrOf st).toList.Pairwise (kle λx y=>ltI (Vy x.1) (Vy y.1))) Zfp L rfl rfl rfl (λx Y=>?_) λah p1 f1 r1=>⟨f1,?_,?_⟩) ?_ (λ_ _ z=>z))
   ·have Y:x∈(B.zip vs.toArray).reverse.toList:=Y;rw [Yem,List.mem_reverse,D] at Y;exact af _ (List.of_mem_zip (a:=x.1) (b:=x.2) Y).1
   ·have p1:(arrOf ah).Perm (B.zip vs.toArray).reverse:=p1;refine p1.toList.trans ?_;rw [Yem,D];exact List.reverse_perm _
   ·have p1:(arrOf ah).Perm (B.zip vs.toArray).reverse:=p1;exact Jq r1 p1.size_eq
   ·rintro ⟨_,st⟩ s' ⟨rfl,f1,p1,r1⟩;exact aa st f1 p1 r1
noncomputable def upI (a:Int)(n:Nat):LI:=(List.range n).map λ(i:Nat)=>a+(i:Int)
theorem Zea :∀{n:Nat}{acc:Array Aa},ItemsOf (λi v=>∃t,v=Value.int (a+i * 1) t) acc n->IntsAre acc.toList (upI a n):=by
 intro n acc h;have e:∀(l:LW)(b:Int),(∀(j:Nat) v,l[j]?=some v->∃t,v=Value.int (b+j) t)->IntsAre l ((List.range l.length).map λ(i:Nat)=>b+(i:Int)):=by
  intro l
  induction l with
  | nil=>intro b _;exact .nil
  | cons x l ih=>
   intro b B;obtain ⟨t,e⟩:=B 0 x rfl;subst e;rw [Ybo,List.range_succ_eq_map,Yap,Ydh];have h2:=ih (b+1) λj v q=>by
    obtain ⟨t,e⟩:=B (j+1) v (by simpa using q);exact ⟨t,by rw [e];congr 1;lia⟩
   have D:((List.range l.length).map λ(i:Nat)=>b+1+(i:Int))=(List.range l.length).map ((λ(i:Nat)=>b+(i:Int))∘Nat.succ):=List.map_congr_left λi _=>by show b+1+(i:Int)=b+((i+1:Nat):Int);lia
   rw [D] at h2;exact .cons _ t h2
 have:=e acc.toList a λj v q=>by
  rw [Yba] at q;obtain ⟨t,e⟩:=h.2 j v q;exact ⟨t,by rw [e];congr 1;lia⟩
 rw [Yan,h.1] at this;exact this
theorem Yg:∀{vs:LW}{ns:LI}{i:Nat}{v:Aa},IntsAre vs ns->vs[i]?=some v->∃k t,ns[i]?=some k/\v=.int k t
 | _,_,i,v,.nil,h=>by simp at h
 | _,_,0,v,.cons n t _,h=>⟨n,t,rfl,by simpa using h.symm⟩
 | _,_,i+1,v,.cons n t r,h=>by
  obtain ⟨k,t',e1,e2⟩:=Yg (i:=i) r (by simpa using h);exact ⟨k,t',by simpa using e1,e2⟩
theorem WW:∀{l:LW}{ns:LI},IntsAre l ns->l.map Vy=ns
 | _,_,.nil=>rfl
 | _,_,.cons n t r=>by rw [Yap,WW r];rfl
theorem Yh:∀{l:LW},(∀v∈l,∃i t,v=.int i t)->IntsAre l (l.map Vy)
 | [],_=>.nil
 | x::l,h=>by
  obtain ⟨i,t,e⟩:=h x Ybj;subst e;exact .cons i t (Yh λv j=>h v (Ybf _ j))
theorem ZaL {n:Nat}(q:A.handled=none)(B:IsRange s.heap r a b 1 t u v)(j:Builtin.Range.small a b 1=true)(D:Builtin.Range.rangeSize a b 1=n)(L:n<=1000)(N:∀h' tk (acc:Array Aa) c,(∀c o,s.heap.get? c=some o->h'.get? c=some o)->h'.get? s.heap.objs.size=some { cls:=.type "list", dict:=none,data:=.seq acc c,slots:=#[] }->IntsAre acc.toList (upI a n)->R (.ok (.ret (.ref s.heap.objs.size))) { s with heap:=h',toks:=tk }) :
  codeAny (model prog w) A (.builtin "proto.collect" ⟨[.ref r],[]⟩) R s:=by
 refine Ycz F.entry_proto_collect ?_;rw [Ydx F.plain_proto_collect _];refine Yaa (Yey ?_ (Yax _));refine Yab ⟨Yed F.plain_list_iadd _,Ycz F.entry_list_iadd ?_⟩;rw [Ydx F.plain_list_iadd _];have O:(s.heap.push { cls:=.type "list", data:=.seq #[] }).get? s.heap.objs.size=some { cls:=.type "list", data:=.seq #[] }:=Ybb _ rfl;exact wpAny_extend_range (A:=A) (R:=R) (s:={ s with heap:=s.heap.push { cls:=.type "list", data:=.seq #[] } }) q (Yah _ B) j D (Ybr L (by decide)) s.heap.objs.size (.ref s.heap.objs.size) 0 O λh' tk acc c' kp U Y=>
  N h' tk acc c' (λd o e=>kp d o (Yar (Yag e)) (Yah _ e)) U (Zea Y)
theorem Xw {n:Nat}(B:A.handled=none)(D:IsRange s.heap r a b 1 t u v)(j:Builtin.Range.small a b 1=true)(L:Builtin.Range.rangeSize a b 1=n)(N:n<=1000)(O:∀h' tk (vs:LW),(∀c o,s.heap.get? c=some o->h'.get? c=some o)->s.heap.objs.size<=h'.objs.size->IntsAre vs (upI a n)->Q vs { s with heap:=h',toks:=tk }):wpAny (model prog w) A (collect (.ref r)) Q E s:=
 Yaa (wpAny_runValue (ZaL B D j L N λh' tk acc c k q U=>Yaa (wpAny_load q (Yab (O h' tk acc.toList k (Ycw (Yag q)) U)))))
theorem Vg {n:Nat}{kz:LI}{J:SS->Prop}(hh:A.in1.in1.handled=none)(hr:IsRange s.heap r a b 1 t u v)(L:Builtin.Range.small a b 1=true)(hn:Builtin.Range.rangeSize a b 1=n)(qV:n<=1000)(hl:kz.length=n)(hJ:∀h' tk,(∀c o,s.heap.get? c=some o->h'.get? c=some o)->J { s with heap:=h',toks:=tk })(put:∀(B:SS)(c:AD)(f:Obj->Obj),s.heap.objs.size<=c->J B->J { B with heap:=B.heap.update c f })(Z:∀(i:Nat)(k:Int)(t:Tok)(B:SS)(R:Aa->SS->Prop)(E':Aa->SS->Prop),kz[i]?=some k->i<n->J B ->
   (∀t D,J D->B.heap.objs.size<=D.heap.objs.size->(∀c o,s.heap.objs.size<=c->B.heap.get? c=some o->D.heap.get? c=some o)->R (.int k t) D)->wpAny (model prog w) A.in1.in1 (call (.ref q) [.int (a+(i:Int)) t]) R E' B)(fin:∀(D:SS)(l:AD)(out:Array Aa)(c:Nat)(ps:List (Int×Int)),J D->s.heap.objs.size<=l->D.heap.get? l=some (seqObj "list" out c)->IntsAre out.toList (ps.map Prod.snd)->ps.Perm (kz.zip (upI a n))->ps.Pairwise (λp q=>q.1<=p.1)->Q (.ref l) D) :
  wpAny (model prog w) A (call (.builtin "sorted") [.ref r] [(Str.ofString "key", .ref q),(Str.ofString "reverse", .bool true)]) Q E s:=by
 have aa:=Ybd;refine call_function_entry_kw kind_sorted plain_sorted entry_sorted (ksk_s2 _ _ _) ?_;unfold Builtin.sorted;refine Yaa (Yab ?_);refine Yaa (Xw hh hr L hn qV λh1 tk vs k1 sz Y=>?_);have N:vs.length=n:=by
  have:=Y.length;unfold upI at this;rw [Yac,Ydg] at this;exact this
 refine Yaa (Yey ?_ (by lia));have k2:∀c o,s.heap.get? c=some o->(h1.push { cls:=Value.type "list", data:=Data.seq vs.toArray }).get? c=some o:=λc o e=>Yah _ (k1 c o e);have eL:(h1.push { cls:=Value.type "list", data:=Data.seq vs.toArray }).get? h1.objs.size=some (seqObj "list" vs.toArray 0):=Ybb _ rfl;have zz:(h1.push { cls:=Value.type "list", data:=Data.seq vs.toArray }).objs.size=h1.objs.size+1:=Ybz ..;have j1:J { s with heap:=h1.push { cls:=Value.type "list", data:=Data.seq vs.toArray },toks:=tk }:=hJ _ tk k2;show wpAny _ _ _ _ _ { s with heap:=h1.push { cls:=Value.type "list", data:=Data.seq vs.toArray },toks:=tk };have O:∀h':Heap,(∀c o,s.heap.get? c=some o->h'.get? c=some o)->J { s with heap:=h',toks:=tk }:=λh' k=>hJ h' tk k;generalize h1.push { cls:=Value.type "list", data:=Data.seq vs.toArray }=h2 at k2 eL zz j1 ⊢;refine Yaa (Ycd (wpAny_call_entry_kw (s:={ s with heap:=h2,toks:=tk }) slot_list_sort ⟨_,eL,rfl⟩ entry_list_sort ?_ (ksk_l2 _ _ _)));refine OZ (s:={ s with heap:=h2,toks:=tk }) (J:=λB=>J B) eL (by lia) (hl.trans N.symm) ⟨λB c f hc j=>put B c f (by rcases hc with rfl | rfl;exact sz;show _<=h2.objs.size+1;lia) j⟩ ?_ ?_ ?_
 ·refine O _ λc o e=>Yah _ (Yah _ ((Ycp _ _ ?_).trans (k2 c o e)));exact Ydj (Ybm (Yag e) sz)
 ·intro i v k B R E' U hk j _ hR;have hi:i<n:=by rw [<-N];exact (Yal.mp U).1
  obtain ⟨t,e⟩:∃t,v=.int (a+(i:Int)) t:=by
   obtain ⟨k',t,e1,e2⟩:=Yg Y U;unfold upI at e1;rw [Yay,List.getElem?_range hi] at e1;exact ⟨t,by rw [e2,<-Ybk e1]⟩
  subst e;exact Z i k t B R E' hk hi j λt D j2 l2 kp=>hR t D j2 l2 λc o hc e=>kp c o (by rcases hc with rfl | rfl;exact sz;show _<=h2.objs.size+1;lia) e
 ·intro D out c j e F;obtain ⟨ps,p1,p2,p3⟩:=F;refine ⟨.none,rfl,Yab ⟨_,rfl,?_⟩⟩;refine fin D _ out c (ps.map λx=>(x.1,Vy x.2)) j sz e ?_ ?_ ?_
  ·rw [Ydh,show (Prod.snd∘λx:Int×Aa=>(x.1,Vy x.2))=Vy∘Prod.snd from rfl,<-Ydh,<-p2];refine Yh λv U=>?_;rw [p2] at U;obtain ⟨x,hx,rfl⟩:=Yai.mp U;exact Y.all _ (List.of_mem_zip (a:=x.1) (b:=x.2) (p1.mem_iff.mp hx)).2
  ·refine (p1.map λx=>(x.1,Vy x.2)).trans (.of_eq ?_);rw [<-WW Y,List.zip_map_right];exact List.map_congr_left λ⟨x,y⟩ _=>rfl
  ·rw [Ybp];exact p3
theorem Yi (jJ:A.depth<recursionLimit)(ho:s.heap.get? O=some (W.kla_obj "<lambda>" qual params body scope clos pm c' B))(U:s.heap.CodeRec (.ref c') qual)(Y:s.heap.NoLimit)(Z:scope.isCoroutine=false)(D:scope.isGenerator=false)(hk:scope.kind=.function)(j:bindArgs (W.kla_fn "<lambda>" qual params body scope clos pm (.ref c') B) ⟨[arg],[]⟩=pure [(x,arg)])(N:scope.names.lookup x=some .local)(jX:∀y∈scope.names,y.2≠.cell)(h:∀(h1:Heap)(L:AD),(∀b o,s.heap.get? b=some o->h1.get? b=some o)->s.heap.objs.size<=h1.objs.size->h1.Ns L (λy=>[(x,arg)].reverse.lookup y) ->
   wpAny (model prog w) (A.deeper (W.envX qual scope L O (.ref c') clos)) (eval body (W.envX qual scope L O (.ref c') clos)) R (λ_ _=>False) { s with heap:=h1,toks:=s.toks+1 }) :
  wpAny (model prog w) A (call (.ref O) [arg]) R E s:=by
 refine wpAny_call (W.kla_callFunE jJ ho rfl Z D rfl U ?_);rw [j];refine Yab (wpAny_newFunctionEnv jX (λy hy=>?_) (λh1 aa q=>⟨?_,?_⟩) hk)
 ·cases Yaj.mp hy;exact N
 ·exact Y.fresh _ q
 ·refine W.kla_codeExpr ?_;have k1:∀b o,s.heap.get? b=some o->h1.get? b=some o:=λb o e=>q.extBut b o (Yar (Yag e)) (Yah _ e);refine Ybs (h h1 s.heap.objs.size k1 ?_ aa) (λv s' hR=>hR) λ_ _ z=>z.elim;rw [q.1,Ybz];exact Yde _
theorem ZaM (hk:env.scope.kind=.function)(B:env.kindOf x=some .local)(D:s.heap.Ns env.locals m)(L:m x=some (.int i t))(N:env.kindOf y=some .free)(O:env.cells.lookup y=some c)(jX:s.heap.IsCell c (some (.ref l)))(hl:s.heap.IsList l items)(h0:2<=i)(h1:i<2 ^ 62)(U:items[(i-2).toNat]?=some (.ref p))(hp:s.heap.IsTuple p vals)(hv:vals[0]?=some (.int k u))(hz:vals.size<=sizeLine)(Y:(x == ("__debug__" : Str))=false)(Z:(y == ("__debug__" : Str))=false)(aa:(y == ("__classdict__" : Str))=false)(q:∀tk,Q (.int k u) { s with toks:=tk }) :
  wpAny (model prog w) A (eval (.Subscript (.Subscript (.Name y p1) (.BinOp (.Name x p2) .Sub (.Constant (.int 2) d1 p3) p4) p5) (.Constant (.int 0) d2 p6) p7) env) Q E s:=by
 refine Subscript_ (Subscript_ (wpAny_Name (wpAny_loadName_free hk N O jX ?_ aa) Z));refine wpAny_BinOp (wpAny_Name (wpAny_loadName_local hk B D L ?_) Y);refine wpAny_Constant_int ?_;refine PyProof.Rows.sub_int ?_;refine item_listR hl (by lia) (by lia) U ?_ rfl;refine wpAny_Constant_int ?_;have ab:=Ybd;have ac:0<vals.size:=by
  have:=Yfu.mp hv;exact this.1
 exact subscriptTail_builtinR (x:=.int k u) hp.typeIs slot_tuple_getitem.lookup (getItem_tuple (j:=0) (Q:=λr s'=>r=.int k u/\Q r s') hp (by lia) (by lia) (by rw [seqIndex_of (by lia) (by lia)];rfl) hv ⟨rfl,q _⟩) rfl
end
noncomputable def SameL (P:AD)(H H':Hp):Prop:=∀a o,a≠P->H a=some o->H' a=some o
theorem SameL.of (s:Same H H'):SameL P H H':=λa o _ e=>s a o e
theorem SameL.trans (a:SameL P H H')(b:SameL P H' H''):SameL P H H'':=λc o n e=>b c o n (a c o n e)
noncomputable def Zeb (qual:Str)(j:Obj):Prop:=∃vs t,j.data=.fields vs/\vs[1]?=some (.str qual t)
noncomputable def LamOn (P:AD)(j col:Nat)(qual:Str)(H:Hp)(c:AD):Prop:=H P=some (.tbl #[rawInt j,rawInt col,.ref c])/\∃q,H c=some (.frz q (.own c))/\Zeb qual q
noncomputable def LamSt (P:AD)(j col:Nat)(qual:Str)(H:Hp):Prop:=H P=some (.tbl #[])\/∃c,LamOn P j col qual H c
theorem LamOn.same (h:LamOn P j col qual H c)(s:Same H H'):LamOn P j col qual H' c:=⟨s _ _ h.1,h.2.elim λq z=>⟨q,s _ _ z.1,z.2⟩⟩
theorem LamSt.same (h:LamSt P j col qual H)(s:Same H H'):LamSt P j col qual H':=h.imp (λe=>s _ _ e) λ⟨c,z⟩=>⟨c,z.same s⟩
section
variable {X:Cx}
noncomputable def Zit (P:AD)(qual:Str)(params:Arguments)(body:Expr)(scope:Scope)(clos:List (Str×AD))(pos:Pos)(pm:Aa):TE:=λσ H Q=>LamSt P pos.line pos.col qual H /\
 ∀(f c:AD)(ctv:Aa)(H':Hp),SameL P H H'->LamOn P pos.line pos.col qual H' c->H f=none->H' f=some (.frz (W.kla_obj "<lambda>" qual params body scope clos pm c ctv) (.own f))->Q (.ref f) H'
theorem Zc6 (Z:closureFor scope X.env=pure clos)(B:X.env.code=.ref c)(C:W.CodeHd X.base c P)(hb:X.base.BuiltinsAt X.mg P)(hq:X.env.qual ++ "<lambda>" = qual)(aa:defaultsOf params X.env=([],[]):=by rfl):PE X (.Lambda params body scope pos) (Zit P qual params body scope clos pos ((X.mg "__name__").getD .none)):=by
 intro qQ s σ H Q I h;obtain ⟨st,q⟩:=h;refine W.kla_eval aa ?_;rw [hq];have hg:s.heap.Ns mainGlobals X.mg:=I.ok.mod.glob.keeps I.bk;have hB:s.heap.BuiltinsAt X.mg P:=by
  obtain ⟨bm,o,h1,h2,h3,h4,h5,h6⟩:=hb;exact ⟨bm,o,h1,h2,h3,h4,I.bk _ _ h5,h6⟩
 rcases st with U | ⟨c',e1,oc,e2,vs,tq,N,hv⟩
 ·have hP:s.heap.get? P=some (W.tabObj #[]):=I.hok P _ U;have ag:mainGlobals≠P:=λz=>by
   obtain ⟨o,es,ep,e,N,_⟩:=hg;rw [z,hP] at e;cases e;cases N
  refine W.kla_makeFunction (mg:=X.mg) Z I.ok.glob hg B (C.keeps I.bk) hP trivial rfl ag hB λc' j h' tk hx D ab ad Y=>?_;obtain ⟨c2,oc,vs,tq,ec,ae,N,hv⟩:=ad;cases ec;have ah:c'≠P:=λz=>by rw [z] at D;exact Ych _ (Ybm (Yag hP) D)
  have ai:P<h'.objs.size:=Yag Y;have nc:H c'=none:=I.hok.fresh D;have L:s.heap.objs.size<=h'.objs.size:=Ybr D (Ycw ab);have nf:H h'.objs.size=none:=I.hok.fresh L;have aj:c'≠h'.objs.size:=Yar ab;have ak:P≠h'.objs.size:=Yar ai;generalize hH':upd (upd (upd H P (.tbl #[rawInt pos.line,rawInt pos.col,.ref c'])) c' (.frz oc (.own c'))) h'.objs.size (.frz (W.kla_obj "<lambda>" qual params body scope clos ((X.mg "__name__").getD .none) c' j) (.own h'.objs.size))=H';have aP:H' P=some (.tbl #[rawInt pos.line,rawInt pos.col,.ref c']):=by rw [<-hH',Gi ak,Gi (Ne.symm ah),Gb]
  have ac:H' c'=some (.frz oc (.own c')):=by rw [<-hH',Gi aj,Gb]
  have af:H' h'.objs.size=some (.frz (W.kla_obj "<lambda>" qual params body scope clos ((X.mg "__name__").getD .none) c' j) (.own h'.objs.size)):=by rw [<-hH',Gb]
  have ao:∀b,b≠P->b≠c'->b≠h'.objs.size->H' b=H b:=λb h1 h2 h3=>by rw [<-hH',Gi h3,Gi h2,Gi h1]
  have sl:SameL P H H':=λb o hb e=>by
   rw [ao b hb (λz=>by rw [z,nc] at e;cases e) (λz=>by rw [z,nf] at e;cases e)];exact e
  have kp:∀b o,b≠P->s.heap.get? b=some o->(h'.push (W.kla_obj "<lambda>" qual params body scope clos ((X.mg "__name__").getD .none) c' j)).get? b=some o:=λb o hb e=>Yah _ (hx b o hb e);have nP:∀b,H b=none->b≠P:=λb n z=>by rw [z,U] at n;cases n
  have I':Inv X qQ σ H' { s with heap:=h'.push (W.kla_obj "<lambda>" qual params body scope clos ((X.mg "__name__").getD .none) c' j),toks:=tk }:=by
   refine I.un ⟨λb o e n _ _=>kp b o (nP b n) e,λb o e n _ _=>⟨o.slots,kp b o (nP b n) e⟩,λb o e n _=>?_,λb o e _=>?_,λb ys e=>sl b _ (λz=>by rw [z,U] at e;cases e) e,λb o u e=>sl b _ (λz=>by rw [z,U] at e;cases e) e,λb ps e=>?_⟩ λb o e=>?_
   ·rw [ao b (nP b n) (Yar (Ybm (Yag e) D)) (Yar (Ybm (Yag e) L))];exact n
   ·by_cases z:b=P
    ·rw [z];exact ⟨_,Yah _ Y⟩
    ·exact ⟨o,kp b o z e⟩
   ·by_cases z:b=P
    ·rw [z,U] at e;cases e;exact ⟨_,by rw [z];simpa using aP⟩
    ·exact ⟨#[],by rw [sl b _ z e];simp⟩
   ·by_cases z:b=P
    ·rw [z,aP] at e;cases e;rw [z];exact Yah _ Y
    ·by_cases z2:b=c'
     ·rw [z2,ac] at e;cases e;rw [z2];exact ⟨Yah _ ae,_,Yah _ ae⟩
     ·by_cases z3:b=h'.objs.size
      ·rw [z3,af] at e;cases e;rw [z3];exact ⟨Ybb _ rfl,_,Ybb _ rfl⟩
      ·rw [ao b z z2 z3] at e;refine (I.hok b o e).stay (λd u N O=>kp d u ?_ O) (λd O=>sl d _ (λy=>by rw [y,U] at O;cases O) O) λd ys O=>sl d _ (λy=>by rw [y,U] at O;cases O) O;rcases N with rfl | N
       ·exact z
       ·exact λy=>by rw [y,U] at N;cases N
  exact ⟨.ref h'.objs.size,H',I',rfl,q _ c' j H' sl ⟨aP,oc,ac,vs,tq,N,hv⟩ nf af⟩
 ·have hP:s.heap.get? P=some (W.tabObj #[rawInt pos.line,rawInt pos.col,.ref c']):=I.hok P _ e1;refine W.kla_makeFunctionHit (cv:=.ref c') (mg:=X.mg) Z I.ok.glob hg B (C.keeps I.bk) hP trivial ?_ hB λj h' tk hk L=>?_
  ·simp [codeAmong,rawInt]
  ·have nf:H h'.objs.size=none:=I.hok.fresh L;have I':=I.laid (a:=h'.objs.size) (o:=.frz (W.kla_obj "<lambda>" qual params body scope clos ((X.mg "__name__").getD .none) c' j) (.own h'.objs.size)) (h':=h'.push (W.kla_obj "<lambda>" qual params body scope clos ((X.mg "__name__").getD .none) c' j)) (t':=tk) (λb o e=>Yah _ (hk b o e)) L ⟨Ybb _ rfl,_,Ybb _ rfl⟩;have sm:Same H (upd H h'.objs.size (.frz (W.kla_obj "<lambda>" qual params body scope clos ((X.mg "__name__").getD .none) c' j) (.own h'.objs.size))):=Same.new nf;exact ⟨.ref h'.objs.size,_,I',rfl,q _ c' j _ (.of sm) (LamOn.same ⟨e1,oc,e2,vs,tq,N,hv⟩ sm) nf Gb⟩
theorem VA {id:String}{r:St->List V->List V->Hp->VK->Prop}(N:∀(qQ:List (AD×Obj))(s:SS)(σ:St)(H:Hp)(xs:List V)(us:LW)(zs:List V)(ws:LW)(Q:VK),Inv X qQ σ H s->Vals xs us->Vals zs ws->r σ xs zs H Q->wpAny (model X.prog X.w) X.A (call (.builtin id) us (ks.zip ws)) (EP X qQ σ Q) X.xe s)(O:Gl X x)(U:X.mg x=none)(Y:bootBuiltins x=some (.builtin id))(ha:PA X (e::es) t)(j:PK X kws tk)(q:(backToKw pos (keywordEach kws X.env)).filterMap (·.1)=ks:=by rfl)(Z:x ≠ "__name__" := by decide)(B:(x == ("__debug__" : Str))=false:=by decide)(he:backTo pos (starEach (e::es) X.env)=(false,eval e X.env)::backTo pos (starEach es X.env):=by rfl)(D:(backTo pos (starEach (e::es) X.env)).any (·.1)=false:=by rfl)(qK:(backToKw pos (keywordEach kws X.env)).all (·.1.isSome)=true:=by rfl)(L:(backToKw pos (keywordEach kws X.env)).any (·.1.isNone)=false:=by rfl) :
  PE X (.Call (.Name x p) (e::es) kws pos) (λσ H Q=>t σ H λvs H1=>tk σ H1 λzs H2=>r σ vs zs H2 Q):=by
 intro qQ s σ H Q I h;refine Yeg (OB I O U Y ?_ Z B);refine PyProof.Rows.callWith_kw (thG (ha pos qQ s σ H _ I h) λus s1 vs H1 I1 r1 q1=>thG (j pos qQ s1 σ H1 _ I1 q1) λws s2 zs H2 I2 r2 q2=>?_) he D qK L;rw [q];exact N qQ s2 σ H2 vs us zs ws Q I2 r1 r2 q2
noncomputable def Zhz (K:FG)(j:Nat)(qual:Str)(params:Arguments)(body:Expr)(scope:Scope)(clos:List (Str×AD))(pm:Aa):St->List V->List V->Hp->VK->Prop:=λσ xs zs H Q=>
 ∃(r f c nl:AD)(oc:Obj)(ctv:Aa)(n:Nat)(ts:List (AD×Int×List V)),xs=[.ref r]/\zs=[.ref f,.bl true]/\H r=some (.rng 2 ((n:Nat)+2))/\n<=1000 /\
  H f=some (.frz (W.kla_obj "<lambda>" qual params body scope clos pm c ctv) (.own f))/\H c=some (.frz oc (.own c))/\Zeb qual oc/\σ[j]?=some (some (.ref nl))/\SqL K H nl (ts.map λt=>V.ref t.1)/\ts.length=n/\(∀t∈ts,SqT K H t.1 (V.int t.2.1::t.2.2)) /\
  ∀(l:AD)(ps:List (Int×Int)),H l=none->ps.Perm ((ts.map (·.2.1)).zip (upI 2 n))->ps.Pairwise (λp q=>q.1<=p.1)->Q (.ref l) (upd H l (.lst ((ps.map Prod.snd).map V.int)))
theorem ZaN {K:FG}(hK:X.K=K)(hc:X.calm=true)(jJ:X.A.in1.in1.depth<recursionLimit)(hN:X.N[j]?=some y)(hv:Vis X.env.scope y)(af:X.env.kindOf y=some .cell)(ag:X.env.cells.lookup y=some cc)(ah:scope.isCoroutine=false)(Y:scope.isGenerator=false)(hk:scope.kind=.function)(U:∀(c:AD)(ctv arg:Aa),bindArgs (W.kla_fn "<lambda>" qual params (.Subscript (.Subscript (.Name y p1) (.BinOp (.Name x p2) .Sub (.Constant (.int 2) d1 p3) p4) p5) (.Constant (.int 0) d2 p6) p7) scope [(y,cc)] pm (.ref c) ctv) ⟨[arg],[]⟩=pure [(x,arg)])(Z:scope.names.lookup x=some .local)(ai:scope.names.lookup y=some .free)(jX:∀z∈scope.names,z.2≠.cell)(aj:(x == ("__debug__" : Str))=false)(ak:(y == ("__debug__" : Str))=false)(al:(y == ("__classdict__" : Str))=false)(qQ:List (AD×Obj))(s:SS)(σ:St)(H:Hp)(xs:List V)(us:LW)(zs:List V)(ws:LW)(Q:VK)(I:Inv X qQ σ H s)(rx:Vals xs us)(rz:Vals zs ws)(h:Zhz K j qual params (.Subscript (.Subscript (.Name y p1) (.BinOp (.Name x p2) .Sub (.Constant (.int 2) d1 p3) p4) p5) (.Constant (.int 0) d2 p6) p7) scope [(y,cc)] pm σ xs zs H Q) :
  wpAny (model X.prog X.w) X.A (call (.builtin "sorted") us (([Str.ofString "key", Str.ofString "reverse"]:List Str).zip ws)) (EP X qQ σ Q) X.xe s:=by
 subst hK;obtain ⟨r,f,c,nl,oc,ctv,n,ts,rfl,rfl,er,hn,ef,ec,⟨am,tq,an,ao⟩,eσ,hq,aa,ht,q⟩:=h;obtain ⟨u,rfl,ru⟩:=rx.one;cases ru;obtain ⟨u1,u2,rfl,ap,aq⟩:=rz.two;cases ap;cases aq;obtain ⟨t0,t1,t2,eR⟩:=I.hok r _ er;have ay:=Ybd.symm;have D:∀(h1:Heap)(tk:Nat),(∀b o,s.heap.get? b=some o->h1.get? b=some o)->Inv X qQ σ H { s with heap:=h1,toks:=tk }:=λh1 tk k=>I.kept (t':=tk) k;show wpAny (model X.prog X.w) X.A (call (.builtin "sorted") [.ref r] [(Str.ofString "key", .ref f),(Str.ofString "reverse", .bool true)]) (EP X qQ σ Q) X.xe s;refine Vg (kz:=ts.map (·.2.1)) (n:=n) (J:=λs1=>∃h1 tk,s1={ s with heap:=h1,toks:=tk }/\∀b o,s.heap.get? b=some o->h1.get? b=some o) (I.ok.hd hc) eR (small_one (by lia) (by lia) (by lia) (by lia)) (by rw [rangeSize_one];split <;> lia) hn (by rw [Yac];exact aa)
  (λh1 tk k=>⟨h1,tk,rfl,k⟩) ?_ ?_ ?_
 ·rintro s1 d g hd ⟨h1,tk,rfl,k⟩;exact ⟨_,tk,rfl,λb o e=>(Ycp _ _ (Ydj (Ybm (Yag e) hd))).trans (k b o e)⟩
 ·rintro i k t s1 R E' O hi ⟨h1,tk,rfl,kp⟩ hR;have I1:=D h1 tk kp;obtain ⟨B,ab,rfl⟩:∃B,ts[i]?=some B/\B.2.1=k:=by
   rw [Yay] at O;cases z:ts[i]? with
   | none=>rw [z] at O;cases O
   | some B=>rw [z] at O;exact ⟨B,rfl,Ybk O⟩
  have of:h1.get? f=some (W.kla_obj "<lambda>" qual params (.Subscript (.Subscript (.Name y p1) (.BinOp (.Name x p2) .Sub (.Constant (.int 2) d1 p3) p4) p5) (.Constant (.int 0) d2 p6) p7) scope [(y,cc)] pm c ctv):=(I1.hok f _ ef).1;have ar:h1.get? c=some oc:=(I1.hok c _ ec).1;refine Yi (s:={ s with heap:=h1,toks:=tk }) (x:=x) jJ of ⟨c,oc,am,tq,rfl,ar,an,ao⟩ (I1.ok.mod.nolimit.keeps I1.bk) ah Y hk (U _ _ _) Z jX λh2 L k2 sz as=>?_;have I2:Inv X qQ σ H { s with heap:=h2,toks:=tk+1 }:=D h2 (tk+1) λb o e=>k2 b o (kp b o e);obtain ⟨m,hm,lk⟩:=I2.loc;obtain ⟨u,ru,lu⟩:=lk j y _ hN eσ hv;cases ru;have au:h2.IsCell cc (some (.ref nl)):=by
   rcases lu with ⟨z,_⟩ | ⟨_,c2,z1,z2⟩
   ·rw [af] at z;cases z
   ·rw [ag] at z1;cases z1;exact z2
  obtain ⟨its,rv,pl,hz⟩:=I2.list hq;obtain ⟨ui,gi,ri⟩:=rv.get (show (ts.map λt=>V.ref t.1)[i]?=some (V.ref B.1) by rw [Yay,ab];rfl);cases ri;obtain ⟨ac,ad,av,aw⟩:=I2.tuple (ht B (Yaz ab));obtain ⟨uk,gk,rk⟩:=ad.get (show (V.int B.2.1::B.2.2)[0]?=some (V.int B.2.1) from rfl);obtain ⟨tu,rfl⟩:=rk;refine ZaM (m:=λz=>[(x,Value.int (2+(i:Int)) t)].reverse.lookup z) (i:=2+(i:Int)) (k:=B.2.1) (u:=tu) (t:=t) (c:=cc) (l:=nl) (p:=B.1) (items:=its.toArray) (vals:=ac.toArray) hk Z as (by simp) ai (by simp) au pl.isList (by lia) (by lia) ?_ av ?_ ?_ aj ak al λax=>?_
  ·rw [show (2+(i:Int)-2).toNat=i by lia];simpa using gi
  ·simpa using gk
  ·rw [Yas,<-ad.length];exact aw
  ·exact hR tu _ ⟨h2,ax,rfl,λb o e=>k2 b o (kp b o e)⟩ sz λb o _ e=>k2 b o e
 ·rintro s2 l out cn ps ⟨h1,tk,rfl,kp⟩ hl eL hi pm pw;refine ⟨.ref l,_,I.laid (a:=l) (o:=.lst ((ps.map Prod.snd).map V.int)) (h':=h1) (t':=tk) kp hl ⟨?_,out.toList,cn,UM hi,by simpa [seqObj] using eL⟩,rfl,q l ps (I.hok.fresh hl) pm pw⟩;have ae:=pm.length_eq;rw [List.length_zip,Yac,aa] at ae;rw [Yac,Yac,ae]
  lia
end
section
variable {P:PP}{w:Ab}{K:FG}{mg:Str->Option Aa}{base:Heap}
theorem Fun.okC {st:Stmt}(F:Fun K x qual st f fd)(L:fd.code=.ref c)(S:Go N ps (Gf st))(len:∀vs H Q E,sp vs H Q E->vs.length=ps.length)(O:∀(A:Around)(outer:List Env)(s:SS)(H:Hp)(vs:List V)(Q:VK)(E:XK),Room k (A.deeper (envOfC qual (Gf st) s.heap.objs.size f (.ref c)))->sp vs H Q E ->
   ∃t,PSs (YN CX0 P w K mg base N qual (Gf st) f (.ref c) A outer s H E).nox (GP st) t/\t { nx:=λ_ H'=>Q .non H',rt:=Q } (start N vs) H):GG P w K mg base CX0 (k+1) f fd ps sp:=by
 obtain ⟨oc,od,kV,U,pm,an,j,ct,Y,rfl,Z,B⟩:=F.ex;have e:j=.ref c:=L;subst e;refine ZO Z B S len λA outer s H vs Q E hr D=>?_;obtain ⟨t,h,q⟩:=O A outer s H vs Q E hr D;exact ⟨t,h.nox,q⟩
theorem SameL.lst {P:AD}{H H':Hp}{a:AD}{xs:List V}{ps:Array Aa}(s:SameL P H H')(j:H P=some (.tbl ps))(e:H a=some (.lst xs)):H' a=some (.lst xs):=s a _ (λz=>by rw [z,j] at e;cases e) e
theorem SameL.tup {P:AD}{H H':Hp}{a:AD}{xs:List V}{ps:Array Aa}(s:SameL P H H')(j:H P=some (.tbl ps))(e:H a=some (.tup xs)):H' a=some (.tup xs):=s a _ (λz=>by rw [z,j] at e;cases e) e
theorem SameL.dK {P:AD}{H H':Hp}{a:AD}{xs:List (Key×V)}{ps:Array Aa}(s:SameL P H H')(j:H P=some (.tbl ps))(e:H a=some (.dK xs)):H' a=some (.dK xs):=s a _ (λz=>by rw [z,j] at e;cases e) e
theorem LamSt.tbl {P:AD}(h:LamSt P j col qual H):∃ps,H P=some (.tbl ps):=by
 rcases h with h | ⟨c,h,_⟩
 ·exact ⟨_,h⟩
 ·exact ⟨_,h⟩
theorem Trs.sameL {P:AD}{H H':Hp}{ps:Array Aa}(s:SameL P H H')(hP:H P=some (.tbl ps)):∀{xs:List V}{ts:List Tri},Trs H xs ts->Trs H' xs ts
 | _,_,.nil=>.nil
 | _,_,.cons e r=>.cons (s.tup hP e) (Trs.sameL s hP r)
theorem SameL.free {P p:AD}(s:SameL P H H')(B:H P=some (.tbl ps))(j:∃qs,H' P=some (.tbl qs))(h:H' p=none):H p=none:=by
 cases e:H p with
 | none=>rfl
 | some o=>
  by_cases z:p=P
  ·obtain ⟨qs,q⟩:=j;rw [z,q] at h;cases h
  ·rw [s p o z e] at h;cases h
theorem SameL.put {P p:AD}(s:SameL P H H')(h:H p=none):SameL P H (upd H' p o):=λa u n e=>Gj (s a u n e) (λz=>by rw [z,h] at e;cases e)
end
end L2
namespace L2
open PySem PySem.Spec PyProof.Rows Classical
section
variable {prog:PP}{w:Ab}{A:Around}{E:Aa->SS->Prop}{s:SS}{b:Keyed->Keyed->Bool}{good:Keyed->Prop}
theorem WX (h:∀x y,good x->good y->∀{j:Aa->SS->Prop}{Q:Bool->SS->Prop},Q (b x y) s->wpAny (model prog w) A (keyLt' (tuples' true) x.1 y.1) Q j s):O2 (model prog w) A E s (tuples' true) b good:=by
 intro x y st Q B D L q;rw [lt'_eq];refine Yad (wpS_get ?_);refine Yad (wpS_lift ?_);rw [L];exact Yea (h x y B D ⟨rfl,Yaf q⟩)
theorem Wd {Q:Bool->SS->Prop}{fin:Bool}:∀{xs ys:LW}{ns ms:LI}(i:Nat),IntsAre xs ns->IntsAre ys ms->fin=decide (ns.length<ms.length)->Q (GE ns ms) s->W.KatLex prog w A true fin Q (xs.zip ys) i s
 | _,_,_,_,i,.nil,hy,hf,q=>by
  refine W.kat_nil ?_;cases hy with
  | nil=>rw [hf];exact q
  | cons m u hy=>rw [hf];simpa [GE] using q
 | _,_,_,_,i,.cons n t hx,.nil,hf,q=>by
  refine W.kat_nil ?_;rw [hf];simpa [GE] using q
 | _,_,_,_,i,.cons (vs:=xs) (ns:=ns) n t hx,.cons (vs:=ys) (ns:=ms) m u hy,hf,q=>by
  rw [List.zip_cons_cons];refine W.kat_cons (wpAny_eqBool_int ?_);unfold GE at q;refine W.kat_go (λj=>W.kat_yes (Wd (i+1) hx hy ?_ ?_)) λj=>W.kat_no ?_
  ·rw [hf];simp
  ·have j:n=m:=by simpa using j
   rw [if_pos j] at q;exact q
  ·have j:n≠m:=by simpa using j
   rw [if_neg j] at q;cases hc:(true && i == 0) with
   | true=>exact oneLt_int q
   | false=>exact W.kat_one _ _ (PyProof.Rows.lt_int q)
noncomputable def Zcm (h:Heap)(v:Aa):LI:=if q:∃ns a its,v=.ref a/\h.IsTuple a its/\IntsAre its.toList ns then choose q else []
theorem U1 {h:Heap}(h1:h.IsTuple a xs)(h2:h.IsTuple a ys):xs=ys:=by
 obtain ⟨o,e,_,n,d⟩:=h1;obtain ⟨o',j,_,B,q⟩:=h2;rw [e] at j;cases j;rw [d] at q;cases q
 rfl
theorem J9 (B:h.IsTuple a its)(hi:IntsAre its.toList ns):Zcm h (.ref a)=ns:=by
 have q:∃ns j its,Value.ref a=.ref j/\h.IsTuple j its/\IntsAre its.toList ns:=⟨ns,a,its,rfl,B,hi⟩;unfold Zcm;rw [dif_pos q];obtain ⟨j,D,e,h1,h2⟩:=choose_spec q;cases e;have:=U1 B h1;subst this;exact Wa h2 hi
theorem Zc7 (h:Heap):WO (λx y=>GE (Zcm h x.1) (Zcm h y.1)):=Yd (κ:=λx:Keyed=>Zcm h x.1) (lt:=GE) Jg Oy Oj
end
section
variable {X:Cx}(K:FG)
noncomputable def Zec:List V->Hp->VK->Prop:=λxs H Q=>∃(p:AD)(zs:List (AD×LI)),xs=[.ref p]/\SqL K H p (zs.map λz=>V.ref z.1)/\(∀z∈zs,SqT K H z.1 (z.2.map V.int)/\z.2≠[]) /\
 ∀(l:AD)(zs':List (AD×LI)),H l=none->zs'.Perm zs->(zs'.map (·.2)).Pairwise (λa b=>GE b a=false)->Q (.ref l) (upd H l (.lst (zs'.map λz=>V.ref z.1)))
theorem Zed (h:X.K=K:=by rfl):JG X (.builtin "sorted") (Zec K):=by
 subst h;intro qQ s σ H xs us Q I rv h;obtain ⟨p,zs,rfl,hq,hz,q⟩:=h;obtain ⟨u,rfl,ru⟩:=rv.one;cases ru;obtain ⟨its,r,pl,U⟩:=I.list hq;have hl:=r.length;rw [Yac] at hl U;have ei:=Wc r;have key:∀z∈zs,∃its:Array Aa,s.heap.IsTuple z.1 its/\IntsAre its.toList z.2/\z.2≠[]:=λz D=>by
  obtain ⟨iz,rz,pz,_⟩:=I.tuple (hz z D).1;exact ⟨iz.toArray,pz,JQ rz,(hz z D).2⟩
 have Y:∀v∈its,∃a,∃j:Array Aa,∃ns,v=.ref a/\s.heap.IsTuple a j/\IntsAre j.toList ns/\ns≠[]:=λv hv=>by
  rw [ei] at hv;obtain ⟨z,D,rfl⟩:=Yai.mp hv;obtain ⟨j,h1,h2,N⟩:=key z D;exact ⟨z.1,j,z.2,rfl,h1,h2,N⟩
 have B:∀{h':Heap}{a:AD}{j:Array Aa},(∀c o,s.heap.get? c=some o->h'.get? c=some o)->s.heap.IsTuple a j->h'.IsTuple a j:=λk hl=>by
  obtain ⟨o,e,r⟩:=hl;exact ⟨o,k _ _ e,r⟩
 have Z:∀(h':Heap),(∀c o,s.heap.get? c=some o->h'.get? c=some o)->∀vs:LW,(∀v∈vs,∃a,∃j:Array Aa,∃ns,v=.ref a/\s.heap.IsTuple a j/\IntsAre j.toList ns/\ns≠[])->∃fs:LW,W.KatTups h' vs fs/\fs.length=vs.length/\∀f∈fs,∃i t,f=.int i t:=by
  intro h' k vs
  induction vs with
  | nil=>intro _;exact ⟨[],.nil,rfl,λf hf=>by cases hf⟩
  | cons v vs ih=>
   intro h;obtain ⟨fs,h1,h2,N⟩:=ih λx hx=>h x (Ybf _ hx);obtain ⟨a,j,ns,rfl,t1,t2,t3⟩:=h v (Ybj ..);obtain ⟨o,e,c,n,d⟩:=B k t1;have ff:∃i t,j[0]?=some (.int i t):=by
    rcases Uc t2 0 with ⟨h1,h2⟩ | ⟨i,t,h1,h2⟩
    ·exact absurd (by simpa using h2) t3
    ·exact ⟨i,t,by simpa using h1⟩
   obtain ⟨i,t,ef⟩:=ff;refine ⟨.int i t::fs,.cons e c d ef h1,by simp [h2],λf hf=>?_⟩;rcases Yav.mp hf with rfl | hf
   ·exact ⟨i,t,rfl⟩
   ·exact N f hf
 refine Ub (kd:=tuples' true) (good:=λx=>∃a,∃j:Array Aa,∃ns,x.1=.ref a/\s.heap.IsTuple a j/\IntsAre j.toList ns/\ns≠[]) (Zc7 s.heap) pl.isList (by lia) Y (λh' k h2 E' R q=>?_) (λh' k=>WX λx y gx gy E' Q q=>?_) λout hp hr=>?_
 ·obtain ⟨fs,t1,t2,t3⟩:=Z h' k its Y;exact W.kat_kind (T:=.type "int") t1 (by lia) (λv hv=>by obtain ⟨i,t,rfl⟩:=t3 v hv;exact .now) rfl q
 ·obtain ⟨a,j,ns,e1,h1,h2,_⟩:=gx;obtain ⟨c,jt,ms,e2,N,h4,_⟩:=gy;simp only [e1,e2,J9 h1 h2,J9 N h4] at q ⊢;obtain ⟨o1,g1,_,n1,d1⟩:=B k h1;obtain ⟨o2,g2,_,n2,d2⟩:=B k N;refine W.kat_lt (xs:=j) (ys:=jt) g1 d1 g2 d2 (Wd 0 h2 h4 ?_ q);rw [<-G5 h2,<-G5 h4];simp
 ·obtain ⟨o1,o2,o3⟩:=UA hp;obtain ⟨e,he⟩:=sortedAll_at s.heap its (out.map (·.2));rw [ei] at o1;obtain ⟨O,p1,p2⟩:=JD o1;have ps:(O.map (·.2)).Pairwise (λa b=>GE b a=false):=by
   have a1:=Jq hr o3;have a2:(out.toList.map (·.2)).Pairwise (λu v=>GE (Zcm s.heap v) (Zcm s.heap u)=false):=by
    rw [Ybp];refine a1.imp_of_mem λ{x y} hx hy L=>?_;rw [<-(o2 x hx).1,<-(o2 y hy).1];exact L
   rw [Yfo] at p2;rw [<-p2,Ybp] at a2;rw [Ybp];refine a2.imp_of_mem λ{x y} hx hy L=>?_;obtain ⟨j,h1,h2,_⟩:=key x (p1.mem_iff.mp hx);obtain ⟨jt,N,h4,_⟩:=key y (p1.mem_iff.mp hy);rw [J9 h1 h2,J9 N h4] at L;exact L
  refine ⟨.ref _,_,I.laid (a:=s.heap.objs.size+1) (t':=s.toks) (o:=.lst (O.map λz=>V.ref z.1)) (λb o e=>sortedAll_old e) (Yde _) ⟨by rw [Yac,p1.length_eq];exact U,(out.map (·.2)).toList,e,by rw [<-p2];exact OY O,he⟩,rfl,q _ _ (I.hok.fresh (Yde _)) p1 ps⟩
end
section
variable {prog:PP}{w:Ab}{A:Around}{E:Aa->SS->Prop}{s:SS}
theorem ZaO {β:Type}{f:Aa×Aa->β->Sem (ForInStep β)}{c0:β}{cR:Bool->β}{Q:β->SS->Prop}(feq:∀(x:Int)(t u:Tok){Q:ForInStep β->SS->Prop},Q (.yield c0) s->wpAny (model prog w) A (f (.int x t,.int x u) c0) Q E s)(fne:∀(x y:Int)(t u:Tok){Q:ForInStep β->SS->Prop},x≠y->Q (.done (cR (decide (x<y)))) s->wpAny (model prog w) A (f (.int x t,.int y u) c0) Q E s) :
  ∀{xs ys:LW}{ns ms:LI},IntsAre xs ns->IntsAre ys ms->Q (cR (GE ns ms)) s->(decide (ns.length<ms.length)=GE ns ms->Q c0 s)->wpAny (model prog w) A (forIn (xs.zip ys) c0 f) Q E s
 | _,_,_,_,.nil,hy,_,q=>by
  rw [List.zip_nil_left,List.forIn_nil];refine Yab (q ?_);cases hy <;> simp [GE]
 | _,_,_,_,.cons n t hx,.nil,_,q=>by
  rw [List.zip_nil_right,List.forIn_nil];exact Yab (q (by simp [GE]))
 | _,_,_,_,.cons n t hx,.cons m u hy,q1,q2=>by
  rw [List.zip_cons_cons,List.forIn_cons];by_cases e:n=m
  ·subst e;refine Yaa (feq n t u ?_);dsimp only;unfold GE at q1 q2;rw [if_pos rfl] at q1 q2;exact ZaO feq fne hx hy q1 λz=>q2 (by rw [<-z];simp)
  ·refine Yaa (fne n m t u e ?_);dsimp only;unfold GE at q1;rw [if_neg e] at q1;exact Yab q1
theorem Yj (ha:s.heap.IsTuple a xs)(N:s.heap.IsTuple b ys)(B:IntsAre xs.toList ns)(D:IntsAre ys.toList ms)(h:P (.done (.ret (.bool (GE ns ms)))) s) :
  wpAny (model prog w) A (Builtin.«tuple.__lt__» ⟨[.ref a,.ref b],[]⟩) P E s:=by
 obtain ⟨oa,O,ca,na,U⟩:=ha;obtain ⟨Y,L,cb,nb,Z⟩:=N;show wpAny _ _ (isInstance (.ref b) (.type "tuple") >>= _) _ _ s;refine Yaa (Yfi (T := "tuple") ⟨Y,L,cb⟩ isSubtype_tuple_tuple ?_);simp only [Bool.not_true,Ydl,Ycj];refine Yaa (wpAny_tupleItemsOf O U (Yaa (wpAny_tupleItemsOf L Z (Yaa ?_))));refine ZaO (cR:=λc=>(some (PySem.Fin.done (.ret (.bool c))),())) ?_ ?_ B D ?_ ?_
 ·intro x t u Q q;refine Yaa (wpAny_eqBool_int ?_);rw [show (x == x)=true from Yfe _];simp only [Bool.not_true,Ydl,Ycj];exact Yab q
 ·intro x y t u Q j q;refine Yaa (wpAny_eqBool_int ?_);rw [show (x == y)=false by rw [Ydy];exact j];simp only [Bool.not_false,if_true];exact Yaa (Ydi (Yaa (lt_int (Yaa (Yab (Yab q))))))
 ·exact Yab h
 ·intro z;refine Yab ?_;have e:Builtin.Tuple.tupleCompareSizes .Lt xs.size ys.size=.bool (GE ns ms):=by
   rw [<-z,<-G5 B,<-G5 D,Yan,Yan]
   rfl
  show P (.done (.ret (Builtin.Tuple.tupleCompareSizes .Lt xs.size ys.size))) s;rw [e];exact h
theorem Zc8 (ha:s.heap.IsTuple a xs)(j:s.heap.IsTuple b ys)(B:IntsAre xs.toList ns)(D:IntsAre ys.toList ms)(L:A.units<cLine)(h:Q (.bool (GE ns ms)) s):wpAny (model prog w) A (richCompare .Lt (.ref a) (.ref b)) Q E s:=by
 have q:s.TypeIs (.ref a) "tuple" := ha.elim λo z=>⟨o,z.1,z.2.1⟩;have N:s.TypeIs (.ref b) "tuple" := j.elim λo z=>⟨o,z.1,z.2.1⟩;exact wpAny_richCompare_same_room (op:=.Lt) q N F.slot_tuple_lt (Ycy F.slot_tuple_lt q F.entry_tuple_lt (Yj ha j B D ⟨_,rfl,(λe=>nomatch e),h⟩) (F.args_tuple_lt_2 _ _)) L
theorem WY (ha:s.heap.IsTuple a xs)(j:s.heap.IsTuple c ys)(q:IntsAre xs.toList ns)(B:IntsAre ys.toList ms)(D:A.units<cLine)(h:Q (GE ns ms) s) :
  wpAny (model prog w) A (oneLt' o (.ref a) (.ref c)) Q E s:=by
 cases o with
 | true=>
  rw [oneLt'_eq];dsimp only;rw [if_pos rfl];refine Yaa (wpAny_cRoom D ?_);have L:s.TypeIs (.ref a) "tuple" := ha.elim λo z=>⟨o,z.1,z.2.1⟩;refine Yaa (wpAny_callSpecialIfBound?_slot L F.slot_tuple_lt (Ycy F.slot_tuple_lt L F.entry_tuple_lt (Yj ha j q B ⟨_,rfl,?_⟩) (F.args_tuple_lt_2 _ _)));show wpAny _ A (truthOfDropped (.bool (GE ns ms))) Q E s;exact Yds h
 | false=>exact W.kat_one _ _ (Zc8 ha j q B D h)
noncomputable def Zc9 (h:Heap):Aa->Option Aa
 | .ref a=>(h.get? a).bind λo=>match o.data with
  | .seq its _=>its[0]?
  | _=>none
 | _=>none
theorem We (t:h.IsTuple a its):Zc9 h (.ref a)=its[0]?:=by
 obtain ⟨o,e,_,n,d⟩:=t;show (h.get? a).bind _=_;rw [e];simp only [Option.bind_some,d]
noncomputable def kdT (h:Heap)(vs:LW):SortKind:=if ((vs[0]?).bind (Zc9 h)).isSome then general' else oneType'
theorem Wf {R:SortKind->SS->Prop}(h:∀v∈vs,∃a,∃its:Array Aa,v=.ref a/\s.heap.IsTuple a its)(h2:2<=vs.length)(N:∃v∈vs,Zc9 s.heap v=none)(q:R (kdT s.heap vs) s):wpAny (model prog w) A (keyKind' vs.toArray) R E s:=by
 rw [keyKind'_eq,List.mapM_toArray];have ty:∀v∈vs,s.TypeIs v "tuple" := λv j=>by
  obtain ⟨a,its,rfl,o,e,c,_⟩:=h v j;exact ⟨o,e,c⟩
 refine Yaa (OX (JT (g:=Zc9 s.heap) (λv j Q q=>?_) ?_))
 ·obtain ⟨a,its,rfl,t⟩:=h v j;rw [We t] at q;obtain ⟨o,e,c,n,d⟩:=t;show wpAny _ _ (typeOf _ >>= _) _ _ s;refine Yaa (Ydz (ty _ j) ?_);rw [if_neg (by decide)];exact Yaa (Ycs e d (Yab q))
 ·obtain ⟨B,D,rest,rfl⟩:∃B D rest,vs=B::D::rest:=by
   match vs,h2 with
   | B::D::rest,_=>exact ⟨B,D,rest,rfl⟩
  rw [if_neg (by
   intro z;obtain ⟨v,j,e⟩:=N;have:=List.all_eq_true.mp (by simpa using z:(((B::D::rest).map (Zc9 s.heap)).all λx=>x.isSome)=true) _ (Yai.mpr ⟨v,j,rfl⟩);rw [e] at this;cases this)]
  unfold kdT at q;simp only [List.getElem?_cons_zero,Option.bind_some] at q;by_cases L:(Zc9 s.heap B).isSome=true
  ·rw [if_pos L] at q;rw [if_pos (by simpa using L)];exact Yab q
  ·rw [if_neg L] at q;rw [if_neg (by simpa using L)];rw [oneTypeOnly'_eq,List.mapM_toArray];refine Yaa (Yaa (OX (JT (g:=λ_=>Value.type "tuple") (λv j Q q=>Ydz (ty v j) q) ?_)));simp only [Yap,List.getElem?_toArray,List.getElem?_cons_zero];refine Yab ?_;rw [if_pos (by simp)];exact Yab q
theorem Zee {kd:SortKind}(h:∀x y,good x->good y->∀{j:Aa->SS->Prop}{Q:Bool->SS->Prop},Q (b x y) s->wpAny (model prog w) A (keyLt' kd x.1 y.1) Q j s):O2 (model prog w) A E s kd b good:=by
 intro x y st Q B D L q;rw [lt'_eq];refine Yad (wpS_get ?_);refine Yad (wpS_lift ?_);rw [L];exact Yea (h x y B D ⟨rfl,Yaf q⟩)
end
noncomputable def Zda (w:Ab)(a:AD)(zs:List (AD×LI)):HO:=.ext λh=>∃es ep t,SAt w h a es ep t/\es.toList.map (·.2)=zs.map λz=>Value.ref z.1
theorem Zc :∀{l:List (Int×Aa)}{ps:List (LI)},Paired (Y0 P w Ad h) l ps->∃zs:List (AD×LI),l.map (·.2)=zs.map (λz=>Value.ref z.1)/\zs.map (·.2)=ps/\∀z∈zs,Ad z.1 z.2
 := by
 intro l ps x
 induction x with
 | nil=>exact ⟨[],rfl,rfl,nofun⟩
 | @cons _ r _ _ e t ih=>
  obtain ⟨h1,a,h2,N,q⟩:=e;obtain ⟨zs,B,D,L⟩:=ih;refine ⟨(a,r)::zs,by rw [Yap,Yap,h2,B],by rw [Yap,D],λz j=>?_⟩;rcases Yav.mp j with rfl | j
  ·exact q
  ·exact L z j
theorem Zd {h h':Heap}(k:∀c o,h.get? c=some o->h'.get? c=some o):∀vs:LW,(∀v∈vs,∃a,∃q:Array Aa,∃ns,v=.ref a/\h.IsTuple a q/\IntsAre q.toList ns/\ns≠[])->∃fs:LW,W.KatTups h' vs fs/\fs.length=vs.length/\∀f∈fs,∃i t,f=.int i t:=by
 intro vs
 induction vs with
 | nil=>intro _;exact ⟨[],.nil,rfl,λf j=>by cases j⟩
 | cons v vs ih=>
  intro h;obtain ⟨fs,h1,h2,B⟩:=ih λx D=>h x (Ybf _ D);obtain ⟨a,q,ns,rfl,L,N,O⟩:=h v (Ybj ..);obtain ⟨o,e,c,n,d⟩:=L;have e:=k _ _ e;have U:∃i t,q[0]?=some (.int i t):=by
   rcases Uc N 0 with ⟨h1,h2⟩ | ⟨i,t,h1,h2⟩
   ·exact absurd (by simpa using h2) O
   ·exact ⟨i,t,by simpa using h1⟩
  obtain ⟨i,t,Y⟩:=U;refine ⟨.int i t::fs,.cons e c d Y h1,by simp [h2],λf j=>?_⟩;rcases Yav.mp j with rfl | j
  ·exact ⟨i,t,rfl⟩
  ·exact B f j
section
variable {X:Cx}{w:Ab}(K:FG)
theorem ZhA (hc:X.calm=true)(hu:X.A.units+64<cLine)(h:X.K=K:=by rfl)(hw:X.w=w:=by rfl):JG X (.type "set") (λxs H Q=>∃(p:AD)(ys:List V)(rs:List (LI)),xs=[.ref p]/\SqL K H p ys/\Tus H ys rs/\rs.length<=306 /\
  ∀(l:AD)(zs:List (AD×LI)),H l=none->(zs.map (·.2)).Nodup->(∀k,k∈zs.map (·.2)↔k∈rs)->(∀z∈zs,H z.1=some (.tup (z.2.map V.int)))->Q (.ref l) (upd H l (Zda w l zs))):=by
 subst h hw;intro qQ s σ H xs us Q I rv h;obtain ⟨p,ys,rs,rfl,hq,pr,hn,q⟩:=h;obtain ⟨u,rfl,Z⟩:=rv.one;cases Z;obtain ⟨its,r,pl,hz⟩:=I.list hq;have hl:=r.length;have ai:=pr.len;have es:its.toArray.size=rs.length:=by rw [Yas];lia
 refine Zam (I.ok.hd hc) pl.isList (λi o=>∃ps,Zb5 X.prog X.w (λa r=>H a=some (.tup (r.map V.int))) s.heap o ps/\ps.length<=i/\(∀k,k∈ps↔k∈rs.take i)) (λh'=>∀b o,b<s.heap.objs.size->s.heap.get? b=some o->h'.get? b=some o) ⟨[],Zat _ _ _ _,Yae _,λk=>by simp⟩ (λ_ k=>k) ?_ ?_
 ·intro i v s1 o Q1 E1 hi hv kp ho ⟨ps,B,aa,D⟩ ab;have L:i<ys.length:=by lia
  have aj:i<rs.length:=by lia
  have ac:its[i]?=some v:=by rw [List.getElem?_toArray] at hv;exact hv
  obtain ⟨t,rr,et,N,er⟩:=pr.get (i:=i) (x:=ys[i]) (Yaw L);obtain ⟨u,eu,Z⟩:=r.get (i:=i) (x:=ys[i]) (Yaw L);rw [ac] at eu;cases eu;rw [et] at Z;cases Z;have hx:IsTu X.prog X.w s.heap rr t:=ZdY I.hok N;have O:∀c o',s.heap.get? c=some o'->s1.heap.get? c=some o':=λc o' e=>kp c o' (Yag e) e;have U:X.A.in1.in1.in1.units<cLine:=by simp only [Ydm];lia
  unfold setAdd;apply Ycd;apply Yaa;refine wpAny_pyHash_tuple U (hx.keep λo' e=>O t o' e) ?_;refine ZdX (s:={ s1 with toks:=s1.toks+((rr:LI).length+1) }) U O ho B hx N (by lia) λb h' o' ad sb j Y hp=>?_;refine ab b h' _ o' (Nat.le_add_right _ _) sb j ⟨ad,Y,?_,λk=>?_⟩
  ·rw [hp.length_eq];split
   ·lia
   ·rw [Yam,Ybc];lia
  ·rw [hp.mem_iff,V1 er];split
   ·rename_i ae;rw [D k];constructor
    ·exact .inl
    ·rintro (z | rfl)
     ·exact z
     ·exact (D _).mp ae
   ·rw [Yak,D k,Yaj]
 ·intro h' tk o' j ⟨ps,B,aa,D⟩ hk;rw [es,Ybu] at D;obtain ⟨af,ep,t,h1,h2,h3,h4,h5,h6,h7⟩:=B;obtain ⟨zs,z1,z2,z3⟩:=Zc h3;subst z2;exact ⟨.ref _,_,I.laid (o:=Zda X.w s.heap.objs.size zs) (λb o e=>hk b o (Yag e) e) (Yae _) ⟨⟨af,ep,t,⟨⟨o',j,h1,h2⟩,h5,h6,h7⟩,z1⟩,⟨o',j⟩,λh1 h2 ⟨ag,ah,t',e,r⟩ k=>⟨ag,ah,t',e.ext λo e=>k o e,r⟩⟩,rfl,q _ zs I.fresh h4 D z3⟩
theorem Zfr (hc:X.calm=true)(hu:X.A.units+64<cLine)(h:X.K=K:=by rfl)(hw:X.w=w:=by rfl):JG X (.builtin "sorted") (λxs H Q=>∃(p:AD)(zs:List (AD×LI)),xs=[.ref p]/\H p=some (Zda w p zs)/\(∀z∈zs,H z.1=some (.tup (z.2.map V.int)))/\zs.length<=1000 /\
  ∀(l:AD)(zs':List (AD×LI)),H l=none->zs'.Perm zs->(zs'.map (·.2)).Pairwise (λa b=>GE b a=false)->Q (.ref l) (upd H l (.lst (zs'.map λz=>V.ref z.1)))):=by
 subst h hw;intro qQ s σ H xs us Q I rv h;obtain ⟨p,zs,rfl,hp,hz,hl,q⟩:=h;obtain ⟨u,rfl,ru⟩:=rv.one;cases ru;obtain ⟨⟨es,ep,t,ai,hE⟩,_⟩:=I.hok p _ hp;have al:=Ybd.symm;have qV:es.size=zs.length:=by
  have:=Ybg List.length hE
  rwa [Yac,Yac,Yan] at this
 have hh:X.A.in1.handled=none:=I.ok.hd hc;have ae:=(JB (w:=X.w) p es ep).map (·.2);rw [hE] at ae;obtain ⟨U,p1,e1⟩:=JD ae;have key:∀z∈U,∃its:Array Aa,s.heap.IsTuple z.1 its/\IntsAre its.toList z.2:=λz j=>by
  obtain ⟨iz,rz,pz,_⟩:=I.tuple (SqT.of (K:=X.K) (hz z (p1.mem_iff.mp j)));exact ⟨iz.toArray,pz,JQ rz⟩
 have L:∀{h':Heap}{a:AD}{B:Array Aa},(∀c o,s.heap.get? c=some o->h'.get? c=some o)->s.heap.IsTuple a B->h'.IsTuple a B:=λk hl=>by
  obtain ⟨o,e,r⟩:=hl;exact ⟨o,k _ _ e,r⟩
 refine Calls.call_function_entry kind_sorted plain_sorted entry_sorted (args_sorted1 _) ?_;unfold Builtin.«sorted»;apply Yaa (m:=checkCount "sorted" 1 1 _);apply Yab;apply Yaa;refine W.kdu_collect (ZdV (P:=X.prog) (es:=es) (ep:=ep) (t:=t)) hh ai (by lia) λh' tk acc Y ab=>?_;have af:acc.toList.length=es.size:=by rw [Yan];exact ab.1
 have Z:acc.toList=U.map λz=>Value.ref z.1:=by
  rw [e1];refine List.ext_getElem? λi=>?_;by_cases hi:i<acc.size
  ·obtain ⟨e,e3,e4⟩:=ab.2 i acc[i] (Ybe hi);rw [Yay,e3,Yba,Ybe hi,e4]
   rfl
  ·have am:(JA X.w p es ep).length=es.size:=by rw [(JB (w:=X.w) p es ep).length_eq,Yan]
   rw [Yan] at af;rw [Yba,Yft (by lia),List.getElem?_eq_none (by rw [Yac];lia)]
 have ag:∀v∈acc.toList,∃a,∃B:Array Aa,∃ns,v=.ref a/\s.heap.IsTuple a B/\IntsAre B.toList ns:=λv O=>by
  rw [Z] at O;obtain ⟨z,j,rfl⟩:=Yai.mp O;obtain ⟨B,h1,h2⟩:=key z j;exact ⟨z.1,B,z.2,rfl,h1,h2⟩
 apply Yaa;refine Yey ?_ (by rw [af];lia);have ad:(h'.push (seqObj "list" acc.toList.toArray 0)).get? h'.objs.size=some (seqObj "list" acc.toList.toArray 0):=Ybb _ rfl;apply Yaa;apply Ycd;have k3:∀(T:Nat) c o,s.heap.get? c=some o->(JS { s with heap:=h'.push (seqObj "list" acc.toList.toArray 0),toks:=T } h'.objs.size acc.toList).heap.get? c=some o:=λT c o e=>by
  unfold JS;refine Yah _ (Yah _ (Ju ?_ (Yah _ (Y c o e))));exact Yar (Yag (Y c o e))
 have ah:X.A.in1.in1.units<cLine:=by rw [Ydm,Ydm];lia
 let kd:SortKind:=if ∀z∈U,z.2≠[] then tuples' true else kdT s.heap acc.toList
 have D:∀T,∀v∈acc.toList,Zc9 (JS { s with heap:=h'.push (seqObj "list" acc.toList.toArray 0),toks:=T } h'.objs.size acc.toList).heap v=Zc9 s.heap v:=λT v O=>by
  obtain ⟨a,B,ns,rfl,t1,_⟩:=ag v O;rw [We t1,We (L (k3 T) t1)]
 refine Ycy slot_list_sort ⟨_,ad,rfl⟩ entry_list_sort (OW (kd:=kd) (good:=λx=>∃a,∃B:Array Aa,∃ns,x.1=.ref a/\s.heap.IsTuple a B/\IntsAre B.toList ns/\((∀z∈U,z.2≠[])->ns≠[])) (Zc7 s.heap) ad (by lia) (λv O=>?_) (λh2 E' R q=>?_) (Zee λx y gx gy E' Q q=>?_) λout aj hr=>⟨_,rfl,?_⟩) (args_list_sort _)
 ·rw [Z] at O;obtain ⟨z,j,rfl⟩:=Yai.mp O;obtain ⟨B,h1,h2⟩:=key z j;exact ⟨z.1,B,z.2,rfl,h1,h2,λh=>h z j⟩
 ·by_cases qK:∀z∈U,z.2≠[]
  ·have ek:kd=tuples' true:=if_pos qK;rw [ek] at q;obtain ⟨fs,t1,t2,t3⟩:=Zd (k3 _) acc.toList λv O=>by
    rw [Z] at O;obtain ⟨z,j,rfl⟩:=Yai.mp O;obtain ⟨B,h1,h2⟩:=key z j;exact ⟨z.1,B,z.2,rfl,h1,h2,qK z j⟩
   exact W.kat_kind (T:=.type "int") t1 (by lia) (λv O=>by obtain ⟨i,t,rfl⟩:=t3 v O;exact .now) rfl q
  ·have ek:kd=kdT s.heap acc.toList:=if_neg qK;rw [ek] at q;have eq:∀T,kdT (JS { s with heap:=h'.push (seqObj "list" acc.toList.toArray 0),toks:=T } h'.objs.size acc.toList).heap acc.toList=kdT s.heap acc.toList:=λT=>by
    unfold kdT;cases e0:acc.toList[0]? with
    | none=>rfl
    | some v=>rw [Option.bind_some,Option.bind_some];simp only [D T v (Yaz e0)]
   refine Wf (λv O=>?_) h2 ?_ (by rw [eq];exact q)
   ·obtain ⟨a,B,ns,e,t1,_⟩:=ag v O;exact ⟨a,B,e,L (k3 _) t1⟩
   ·have:∃z∈U,z.2=[]:=by
     refine Classical.byContradiction λhn=>qK λz hz e=>hn ⟨z,hz,e⟩
    obtain ⟨z,j,ez⟩:=this;have O:Value.ref z.1∈acc.toList:=by rw [Z];exact Yai.mpr ⟨z,j,rfl⟩
    refine ⟨_,O,?_⟩;rw [D _ _ O];obtain ⟨B,h1,h2⟩:=key z j;rw [We h1];rw [ez] at h2;have:=G5 h2;rw [Yan] at this;exact Yft (by simpa using this)
 ·obtain ⟨a,B,ns,e1,h1,h2,_⟩:=gx;obtain ⟨c,jt,ms,e2,h3,h4,_⟩:=gy;simp only [e1,e2,J9 h1 h2,J9 h3 h4] at q ⊢;have g1:=L (k3 tk) h1;have g3:=L (k3 tk) h3;by_cases qK:∀z∈U,z.2≠[]
  ·have ek:kd=tuples' true:=if_pos qK;rw [ek];obtain ⟨o1,g1,_,n1,d1⟩:=g1;obtain ⟨o2,g2,_,n2,d2⟩:=g3;refine W.kat_lt (xs:=B) (ys:=jt) g1 d1 g2 d2 (Wd 0 h2 h4 ?_ q);rw [<-G5 h2,<-G5 h4];simp
  ·have ek:kd=kdT s.heap acc.toList:=if_neg qK;rw [ek];unfold kdT;split
   ·exact WY (o:=false) g1 g3 h2 h4 ah q
   ·rw [keyLt'_oneType];exact WY (o:=true) g1 g3 h2 h4 ah q
 ·obtain ⟨o1,o2,o3⟩:=UA aj;refine Yab ⟨_,rfl,?_⟩;obtain ⟨e,he⟩:=sortedHeap_at (out:=out.map (·.2)) ad;have N:∀b o,s.heap.get? b=some o->(sortedHeap (h'.push (seqObj "list" acc.toList.toArray 0)) h'.objs.size acc.toList (out.map (·.2))).get? b=some o:=λb o e=>by
   have e':=Y b o e;have hb:=Yag e';rw [sortedHeap_old (Yar hb) (by rw [Ybz];exact Ydw hb)];exact Yah _ e'
  rw [Z] at o1;obtain ⟨zs',p2,e2⟩:=JD o1;have ps:(zs'.map (·.2)).Pairwise (λa b=>GE b a=false):=by
   have a1:=Jq hr o3;have a2:(out.toList.map (·.2)).Pairwise (λu v=>GE (Zcm s.heap v) (Zcm s.heap u)=false):=by
    rw [Ybp];refine a1.imp_of_mem λ{x y} hx hy aa=>?_;rw [<-(o2 x hx).1,<-(o2 y hy).1];exact aa
   rw [Yfo] at e2;rw [<-e2,Ybp] at a2;rw [Ybp];refine a2.imp_of_mem λ{x y} hx hy aa=>?_;obtain ⟨B,h1,h2⟩:=key x (p2.mem_iff.mp hx);obtain ⟨jt,h3,h4⟩:=key y (p2.mem_iff.mp hy);rw [J9 h1 h2,J9 h3 h4] at aa;exact aa
  have ac:zs'.Perm zs:=p2.trans p1;have ak:(zs'.map λz=>V.ref z.1).length<=sizeLine:=by rw [Yac,ac.length_eq];lia
  have hn:H h'.objs.size=none:=by
   cases zz:H h'.objs.size with
   | none=>rfl
   | some o=>
    obtain ⟨x,ex⟩:∃x,s.heap.get? h'.objs.size=some x:=(I.hok _ _ zz).there;exact absurd (Yag (Y _ _ ex)) (Ych _)
  have sm:Same H (upd H h'.objs.size (.lst (zs'.map λz=>V.ref z.1))):=Same.new hn;refine ⟨.ref h'.objs.size,upd H h'.objs.size (.lst (zs'.map λz=>V.ref z.1)),I.un (t':=tk) ⟨λb o e _ _ _=>N b o e,λb o e _ _ _=>⟨o.slots,N b o e⟩,λb o e n _=>?_,λb o e _=>⟨o,N b o e⟩,λb ys e=>sm _ _ e,λb o u e=>sm _ _ e,λb ps e=>⟨#[],by rw [sm _ _ e];simp⟩⟩ (λb o e'=>?_),rfl,q _ zs' hn ac ps⟩
  ·rw [Gi (Yar (Yag (Y b o e)))];exact n
  ·by_cases hb:b=h'.objs.size
   ·subst hb;rw [Gb] at e';cases e';exact ⟨ak,(out.map (·.2)).toList,e,by rw [<-e2];exact OY zs',he⟩
   ·rw [Gi hb] at e';exact (I.hok b o e').stay (λc v _ x=>N c v x) (λd x=>sm _ _ x) λd ys x=>sm _ _ x
end
end L2
namespace L2
open PySem PySem.Spec PyProof.Rows
theorem Zcn (h1:GE b a=false)(h2:GE c b=false):GE c a=false:=by
 cases h:GE c a with
 | false=>rfl
 | true=>
  cases h3:GE a b with
  | true=>rw [Oy h h3] at h2;cases h2
  | false=>
   rw [Oj h3 h1] at h;rw [h] at h2;cases h2
theorem Yk (f:Nat->LI):∀k,argBest (λi j=>GE (f i) (f j)) k<=k/\∀j,j<=k->GE (f j) (f (argBest (λi j=>GE (f i) (f j)) k))=false
 | 0=>⟨Yae _,λj B=>by
  have:j=0:=by lia
  subst this;exact Jg _⟩
 | k+1=>by
  obtain ⟨i1,i2⟩:=Yk f k;have e:argBest (λi j=>GE (f i) (f j)) (k+1)=if GE (f (k+1)) (f (argBest (λi j=>GE (f i) (f j)) k))=true then k+1 else argBest (λi j=>GE (f i) (f j)) k:=rfl
  rw [e];generalize argBest (λi j=>GE (f i) (f j)) k=g at i1 i2;by_cases z:GE (f (k+1)) (f g)=true
  ·rw [if_pos z];refine ⟨Yae _,λj B=>?_⟩;by_cases q:j=k+1
   ·subst q;exact Jg _
   ·refine Zcn ?_ (i2 j (by lia));cases h:GE (f g) (f (k+1)) with
    | false=>rfl
    | true=>have:=Oy h z;rw [Jg] at this;cases this
  ·rw [if_neg z];refine ⟨by lia,λj B=>?_⟩;by_cases q:j=k+1
   ·rw [q];exact Yep.mpr z
   ·exact i2 j (by lia)
section
variable {X:Cx}
noncomputable def Zdb (xs:List V)(rs:List (LI))(t:AD)(r:LI):Prop:=(∃i:Nat,xs[i]?=some (.ref t)/\rs[i]?=some r)/\∀r'∈rs,GE r' r=false
noncomputable def ZhB (K:FG):List V->Hp->VK->Prop:=λvs H Q=>∃(p:AD)(xs:List V)(rs:List (LI)),vs=[.ref p]/\SqL K H p xs/\Tus H xs rs/\rs≠[]/\∀t r,Zdb xs rs t r->Q (.ref t) H
theorem ZaP {rs:List (LI)}(hc:X.calm=true)(hu:X.A.units+1<cLine)(I:Inv X qQ σ H s)(r:Vals xs its)(pl:PlainL s.heap p its.toArray)(pr:Tus H xs rs)(aa:rs≠[])(q:∀t r,Zdb xs rs t r->Q (.ref t) H)(hR:∀v s',EP X qQ σ Q v s'->R (.ok (.ret v)) s'):∀c:Nat,
  codeAny (model X.prog X.w) X.A (.builtin "min.loop" ⟨[.ref s.heap.objs.size,.none,.ref (s.heap.objs.size+1)],kw⟩) R { s with heap:=(s.heap.push { cls:=.type "list_iterator", data:=.fields #[.ref p,.int 0 0] }).push { cls:=.type "list", dict:=none,data:=.seq #[] c,slots:=#[] } }:=by
 intro c;have hl:=r.length;have hx:=pr.len;have hpos:0<rs.length:=List.length_pos_iff.mpr aa;have hh:X.A.in1.handled=none:=I.ok.hd hc;obtain ⟨o,eo,_⟩:=id pl.isList;have O:p<s.heap.objs.size:=Yag eo;have e1:(s.heap.push { cls:=.type "list_iterator", data:=.fields #[.ref p,.int 0 0] }).objs.size=s.heap.objs.size+1:=Ybz ..;have at_:∀i v,its[i]?=some v->∃t,∃D:Array Aa,v=.ref t/\xs[i]?=some (.ref t)/\rs[i]?=some (rs.getD i [])/\s.heap.IsTuple t D/\IntsAre D.toList (rs.getD i []):=λi v N=>by
  have hi:i<its.length:=(Yal.mp N).1;have L:xs[i]?=some xs[i]:=Yaw (by lia);obtain ⟨t,q',et,eh,Y⟩:=pr.get L;obtain ⟨u,gu,ru⟩:=r.get L;rw [gu] at N;cases N;rw [et] at ru;cases ru;have eg:rs.getD i []=q':=by rw [Yca,Y];rfl
  obtain ⟨U,r2,ab,_⟩:=I.tuple (SqT.of eh);exact ⟨t,U.toArray,rfl,by rw [L,et],by rw [eg];exact Y,ab,by rw [eg];exact JQ r2⟩
 have B:∀b o,s.heap.get? b=some o->((s.heap.push { cls:=.type "list_iterator", data:=.fields #[.ref p,.int 0 0] }).push { cls:=.type "list", dict:=none,data:=.seq #[] c,slots:=#[] }).get? b=some o:=λb o e=>Yah _ (Yah _ e);have W:=Walks.list (prog:=X.prog) (w:=X.w) hh s.heap.objs.size p (Yar O) its.toArray;have ac:its.toArray.size=rs.length:=by rw [Yas];lia
 refine Y5 (J:=λh=>∀t,∀D:Array Aa,s.heap.IsTuple t D->h.IsTuple t D) W (λi j=>GE (rs.getD i []) (rs.getD j [])) ?cmp (s.heap.objs.size+1) ?hD ?kJ (by rw [ac];exact hpos) ?st ?j (by rw [<-e1];exact Ybb _ rfl) ?fin
 case cmp=>
  intro s' i j vi vj Q' E' Z hi hj hq;obtain ⟨a,u1,rfl,_,_,ha,ia⟩:=at_ i vi (by simpa using hi);obtain ⟨b,w1,rfl,_,_,hb,ib⟩:=at_ j vj (by simpa using hj);exact Zc8 (Z a u1 ha) (Z b w1 hb) ia ib (by rw [Ydm];exact hu) hq
 case hD=>
  intro z;have:s.heap.objs.size+1=s.heap.objs.size\/s.heap.objs.size+1=p:=by simpa using z
  rcases this with e | e
  ·exact absurd e (Nat.succ_ne_self _)
  ·exact absurd O (by rw [<-e];exact Nat.not_lt.mpr (Yde _))
 case kJ=>
  intro h h' Z kp t D hT;obtain ⟨o',g',rest⟩:=Z t D hT;obtain ⟨o0,g0,_⟩:=hT;have ht:t<s.heap.objs.size:=Yag g0;refine ⟨o',kp t o' (λz=>?_) (Yar (Ydw ht)) g',rest⟩;have:t=s.heap.objs.size:=by simpa using z
  exact absurd ht (by rw [this];exact Ych _)
 case st=>
  refine ⟨⟨_,Yah _ (Ybb _ rfl),rfl,rfl⟩,pl.isList.at λo e=>B _ _ e⟩
 case j=>
  intro t D hT;obtain ⟨o0,g0,rest⟩:=hT;exact ⟨o0,B _ _ g0,rest⟩
 case fin=>
  intro v h' tk N hk;obtain ⟨b1,b2⟩:=Yk (λi=>rs.getD i []) (its.toArray.size-1);generalize argBest (λi j=>GE (rs.getD i []) (rs.getD j [])) (its.toArray.size-1)=g at N b1 b2;obtain ⟨t,u1,rfl,ex,Y,_⟩:=at_ g v (by simpa using N);refine hR _ _ ⟨.ref t,H,I.kept λb o e'=>hk b o ?_ ?_ (B b o e'),rfl,q t _ ⟨⟨g,ex,Y⟩,λr' ad=>?_⟩⟩
  ·intro z;have:b=s.heap.objs.size:=by simpa using z
   exact absurd (Yag e') (by rw [this];exact Ych _)
  ·exact Yar (Ydw (Yag e'))
  ·obtain ⟨j,hj,rfl⟩:=Yck ad;have:=b2 j (by lia);rw [Yca,Yaw hj] at this;exact this
theorem Zfs (K:FG)(D:X.calm=true)(L:X.A.units+1<cLine)(h:X.K=K:=by rfl):JG X (.builtin "min") (ZhB K):=by
 subst h;intro qQ s σ H xs us Q I N h;obtain ⟨p,xs,rs,rfl,O,pr,j,q⟩:=h;obtain ⟨u,rfl,U⟩:=N.one;cases U;obtain ⟨its,r,B,Z⟩:=I.list O;have nm:(toString "min" ++ toString ".loop" : String) = "min.loop" := by decide
 refine call_function_tree F.kind_min F.plain_min F.entry_min (F.args_min1 _) ?_;refine Yaa (wpAny_of_eq (show Builtin.Builtins.bindParams "min" ["key", "default"] 0 ⟨[],[]⟩=pure [none,none] from rfl) (Yaa (Yab (Yaa (wpAny_pyIter_list B.isList (Yaa (Ydt ?_)))))));rw [nm];have Y:(s.heap.push { cls:=.type "list_iterator", data:=.fields #[.ref p,.int 0 0] }).objs.size=s.heap.objs.size+1:=Ybz ..;refine Yab ⟨Yed Yeu _,?_⟩;show codeAny _ _ (.builtin "min.loop" ⟨[.ref s.heap.objs.size,.none,.ref (s.heap.push { cls:=.type "list_iterator", data:=.fields #[.ref p,.int 0 0] }).objs.size],[]⟩) _ _;rw [Y];exact ZaP D L I r B pr j q (λv s' h=>h) 0
end
section
variable {prog:PP}{w:Ab}{A:Around}{E:Aa->SS->Prop}{s:SS}
theorem Wg {lo hi:Option Int}(j:IsTup s.heap t items)(N:s.heap.IsSliceOf sl D L .none)(pl:IsPart D lo)(O:IsPart L hi)(h0:HT.sIx items.size 0 lo=0)(h1:HT.sIx items.size items.size hi=items.size)(h:Q (.ref t) s):wpAny (model prog w) A (getItem (.ref t) (.ref sl)) Q E s:=by
 have U:s.TypeIs (.ref sl) "slice" := by
  obtain ⟨Y,q,B,_⟩:=id N;exact ⟨Y,q,B⟩
 unfold getItem
 try with_reducible refine Ycd ?_
 first | refine Yaa (Yab ?_) | skip
 refine Yaa (wpAny_sequenceKey j.typeIs (by decide) (Yaa (Yfd (name:=Str.ofString "__getitem__") j.typeIs Yfy (Ycy Yfy j.typeIs entry_tuple_getitem ?_ (args_tuple_getitem _ _)))));show wpAny _ _ (Builtin.Tuple.tupleItemsOf (.ref t) >>= _) _ _ s;refine Yaa (tupleItemsOf_ j (Yaa (Ydz U ?_)));rw [if_pos (by decide)];refine Yaa (HT.sliceApplied_gen N pl O ?_);show wpAny _ _ (if (((HT.sIx items.size 0 lo:Nat):Int) == 0 && (1:Int) == 1 && (HT.sIx items.size items.size hi-HT.sIx items.size 0 lo) == items.size)=true then _ else _) _ _ s;rw [h0,h1,if_pos (by simp)]
 first
  | exact Yaa (m:=Builtin.Tuple.tupleIsExact _) (Yaa (Ydz j.typeIs (Yab (Yaa (Ydi (Yab ⟨_,rfl,Yab h⟩))))))
end
section
variable {X:Cx}(K:FG)
noncomputable def Zh5:V->Option Int->Option Int->Hp->VK->Prop:=λx lo hi H Q=>∃a xs,x=.ref a/\SqT K H a xs/\(VM xs lo hi=xs->Q (.ref a) H)/\∀p,H p=none->Q (.ref p) (upd H p (.tup (VM xs lo hi)))
theorem ZgR (h:X.K=K:=by rfl):SlR X (Zh5 K):=by
 subst h;intro qQ s σ H x v Z vu lo hi sl Q I B D L N h;obtain ⟨a,xs,rfl,O,qw,q⟩:=h;by_cases j:HT.sIx xs.length 0 lo=0/\HT.sIx xs.length xs.length hi=xs.length
 ·cases B;obtain ⟨its,r,U,hz⟩:=I.tuple O;have Y:its.toArray.size=xs.length:=by rw [Yas];exact r.length.symm
  refine ⟨"tuple", _,PyProof.Rows.slot_tuple_getitem.lookup,U.typeIs,Wg U D L N (by rw [Y];exact j.1) (by rw [Y];exact j.2) ⟨.ref a,H,I,rfl,qw ?_⟩⟩;unfold VM;rw [j.1,j.2];simp
 ·exact ZcT qQ s σ H _ v Z vu lo hi sl Q I B D L N ⟨a,xs,rfl,O,j,q⟩
end
section
variable (P:PP)(w:Ab)
noncomputable def Wh (h:Heap)(j:LI)(v:Aa):Prop:=∃b,v=.ref b/\IsTupleKey (intKind P w) h j b
noncomputable def Uk (h:Heap)(k:List (LI))(a:AD):Prop:=∃o vs n,h.get? a=some o/\o.cls=.type "tuple" /\ o.data=.seq vs n/\Paired (Wh P w h) k vs.toList
noncomputable def Wi (k:List (LI)):Int:=reduceHash (Builtin.Tuple.tupleHashOf (k.map (tupleKeyHash (intKind P w))))
end
section
variable {P:PP}{w:Ab}{A:Around}{E:Aa->SS->Prop}{s:SS}{h h':Heap}
theorem Zco (r:Paired (Wh P w h) k vs)(t:Paired (Wh P w h) l vs):k=l:=by
 induction r generalizing l with
 | nil=>cases t;rfl
 | cons x r ih=>cases t with
  | cons y t=>
   obtain ⟨b,e,x⟩:=x;obtain ⟨c,j,y⟩:=y;rw [e] at j;cases j;rw [x.inj y,ih t]
theorem WZ (B:A.units<cLine):∀{k:List (LI)}{vs:LW}{b:Array Int}{s:SS}{Q:Array Int->SS->Prop},Paired (Wh P w s.heap) k vs ->
  (∀j:Array Int,j.toList=b.toList++k.map (tupleKeyHash (intKind P w))->Q j { s with toks:=s.toks+(k.map λr=>r.length+1).sum }) ->
  wpAny (model P w) A (forIn vs b λx r=>do let h <- pyHash x;pure PUnit.unit;pure (ForInStep.yield (r.push h))) Q E s
 | _,_,b,s,Q,.nil,q=>by
  rw [List.forIn_nil];exact Yab (by simpa using q b (by simp))
 | _,_,b,s,Q,.cons (a:=row) (l₁:=k) ⟨c,e,x⟩ r,q=>by
  subst e;rw [List.forIn_cons];refine Yaa (Yaa (wpAny_pyHash_tuple B x (Yaa (Yab (Yab ?_)))));refine WZ B (s:={ s with toks:=s.toks+(row.length+1) }) r λj D=>?_;have:=q j (by rw [D];simp);simpa [Nat.add_assoc] using this
theorem Xx (O:A.units+70<cLine)(x:Uk P w s.heap k a)(q:Q (Wi P w k) { s with toks:=s.toks+((k.map λr=>r.length+1).sum+1) }) :
  wpAny (model P w) A (pyHash (.ref a)) Q E s:=by
 obtain ⟨o,vs,n,j,B,D,r⟩:=x;refine W.pyHash_slot (T := "tuple") ⟨o,j,B⟩ F.slot_tuple_hash F.entry_tuple_hash (F.args_tuple_hash_1 _) (beq_builtin_none _) (.inr (by lia)) ?_;show wpAny (model P w) A.in1 (Builtin.Tuple.tupleItemsOf (.ref a) >>= _) _ E s;refine Yaa (wpAny_tupleItemsOf j D (Yaa ?_));rw [<-Array.forIn_toList];refine WZ (by rw [Ydm];lia) r λL N=>?_;show wpAny _ _ (retInt (Builtin.Tuple.tupleHashOf L.toList)) _ _ _;refine Yaa (wpAny_mkInt (Yab ⟨_,_,rfl,?_⟩));rw [N];simpa [Wi,Nat.add_assoc] using q
noncomputable def Ul (row:LI):PyData:=.tuple (row.map PyData.int)
theorem Ze (x:ItemsAre (intKind P w) j its):∃q,ReadsAll h its (j.map PyData.int) q:=by
 induction x with
 | nil=>exact ⟨_,.nil⟩
 | @cons k v ks vs h1 _ ih=>
  obtain ⟨q,r⟩:=ih;obtain ⟨t,rfl⟩:∃t,v=.int k t:=by
   cases v <;> simp [intKind,Value.isInt] at h1;subst h1;exact ⟨_,rfl⟩
  exact ⟨_,.cons (.int _ _) r⟩
theorem ZaQ (x:Wh P w h j v):∃q,Reads h v (Ul j) q:=by
 obtain ⟨b,rfl,o,its,n,h1,h2,B,D⟩:=x;obtain ⟨q,r⟩:=Ze (h:=h) D;exact ⟨q,.tuple h1 h2 B r⟩
theorem Ud:∀{k:List (LI)}{vs:LW},Paired (Wh P w h) k vs->∃j,ReadsAll h vs (k.map Ul) j
 | _,_,.nil=>⟨_,.nil⟩
 | _,_,.cons x r=>by
  obtain ⟨j,h1⟩:=ZaQ x;obtain ⟨bs,h2⟩:=Ud r;exact ⟨_,.cons h1 h2⟩
theorem Yl (j:LI):PyData.canLay0 (Ul j)=true:=by
 unfold Ul;simp only [PyData.canLay0];exact OH j
theorem UB:∀k:List (LI),PyData.canLayAll0 (k.map Ul)=true
 | []=>by simp [PyData.canLayAll0]
 | r::k=>by
  rw [Yap];simp [PyData.canLayAll0,Yl r,UB k]
theorem Ue:∀k:List (LI),PyData.depthAll (k.map Ul)<=2
 | []=>by simp [PyData.depthAll]
 | r::k=>by
  have ih:=Ue k;have:=Jw r;rw [Yap];simp only [PyData.depthAll,Ul,PyData.depth]
  lia
theorem Wj (r q:LI):PyData.eqv (Ul r) (Ul q)=decide (r=q):=by
 have:=OI r q;unfold Ul;simp only [PyData.eqv] at this ⊢;exact this
theorem U3:∀k l:List (LI),PyData.eqvAll (k.map Ul) (l.map Ul)=decide (k=l)
 | [],[]=>by simp [PyData.eqvAll]
 | [],_::_=>by simp [PyData.eqvAll]
 | _::_,[]=>by simp [PyData.eqvAll]
 | r::k,q::l=>by
  rw [Yap,Yap];simp only [PyData.eqvAll,Wj,U3 k l];by_cases e1:r=q <;> by_cases e2:k=l <;> simp [e1,e2]
theorem Ym (k l:List (LI)):PyData.eqv (.tuple (k.map Ul)) (.tuple (l.map Ul))=decide (k=l):=by
 simp only [PyData.eqv,U3]
theorem Xy (Z:A.units+70<cLine)(x:Uk P w s.heap k a)(y:Uk P w s.heap l b)(q:Q (decide (k=l)) s) :
  wpAny (model P w) A (eqBool (.ref a) (.ref b)) Q E s:=by
 obtain ⟨o,vs,n,L,N,O,r⟩:=x;obtain ⟨o',U,n',j,B,D,r'⟩:=y;obtain ⟨Y,h1⟩:=Ud r;obtain ⟨bs,h2⟩:=Ud r';have e:=SeqAt.eqAt_reads (.tuple (k.map Ul)) (.tuple (l.map Ul)) A s (.ref a) (.ref b) Y bs (.tuple L N O h1) (.tuple j B D h2) (by simp only [PyData.canLay0];exact UB k) (by simp only [PyData.canLay0];exact UB l) ?_
 ·rw [Ym] at e;exact e P w E Q q
 ·have d1:=Ue k;simp only [PyData.depth]
  lia
theorem VB {n:Nat}{Q:Option Bool×PUnit->SS->Prop}(q:Q (none,⟨⟩) s):∀{vs:LW},(∀v∈vs,∀{Q:Bool->SS->Prop},Q true s->wpAny (model P w) A (eqIsQuiet n v) Q E s) ->
  wpAny (model P w) A (forIn vs ((none,⟨⟩):Option Bool×PUnit) λy r=>do if !(<- eqIsQuiet n y) then pure (ForInStep.done (some false,⟨⟩)) else pure (ForInStep.yield (none,⟨⟩))) Q E s
 | [],_=>by
  rw [List.forIn_nil];exact Yab q
 | v::vs,hv=>by
  rw [List.forIn_cons];refine Yaa (Yaa (hv v (Ybj ..) ?_));simp only [Bool.not_true,Ydl,Ycj];exact Yab (VB q λu hu=>hv u (Ybf _ hu))
theorem W1 (j:s.heap.get? a=some o)(B:o.cls=.type "tuple")(D:o.data=.seq vs m)(L:∀v∈vs.toList,∀{Q:Bool->SS->Prop},Q true s->wpAny (model P w) A (eqIsQuiet n v) Q E s)(q:Q true s):wpAny (model P w) A (eqIsQuiet (n+1) (.ref a)) Q E s:=by
 unfold eqIsQuiet;refine Yaa (wpAny_specialOf (⟨o,j,B⟩:s.TypeIs (.ref a) "tuple") F.slot_tuple_eq.lookup ?_);show wpAny _ _ (isInstance (.ref a) (.type "tuple") >>= _) _ _ s;refine Yaa (Yfi (⟨o,j,B⟩:s.TypeIs (.ref a) "tuple") isSubtype_tuple_tuple ?_);simp only [Bool.not_true,Ydl,Ycj];refine Yaa (wpAny_seqItems j D (Yaa ?_));show wpAny _ _ (forIn vs _ _) _ _ s;rw [<-Array.forIn_toList];exact VB (Yab q) L
theorem ZaR (x:ItemsAre (intKind P w) j its):∀v∈its,∀{Q:Bool->SS->Prop},Q true s->wpAny (model P w) A (eqIsQuiet n v) Q E s:=λv B Q q=>by
 rw [eqIsQuiet_byValue n (x.byValue v B)];exact Yab q
theorem Zf (x:Uk P w s.heap k a)(q:Q true s):wpAny (model P w) A (eqIsQuiet 8 (.ref a)) Q E s:=by
 obtain ⟨o,vs,n,L,N,O,r⟩:=x;refine W1 L N O (λv j Q q=>?_) q;have B:∀{k:List (LI)}{vs:LW},Paired (Wh P w s.heap) k vs->∀v∈vs,∃D,Wh P w s.heap D v:=by
  intro k vs r
  induction r with
  | nil=>intro v j;cases j
  | cons x _ ih=>
   intro v j;rcases Yav.mp j with rfl | j
   ·exact ⟨_,x⟩
   ·exact ih v j
 obtain ⟨D,b,rfl,o',its,m,h1,h2,U,Y⟩:=B r v j;exact W1 h1 h2 U (ZaR Y) q
theorem Zg {es ep}(x:Uk P w h k a)(q:h.get? d=some o)(B:o.data=.dict es ep)(D:Heap.SameBut d h h'):Uk P w h' k a:=by
 obtain ⟨o',vs,n,h1,h2,j,r⟩:=x;have L:a≠d:=λz=>by
  rw [z,q] at h1;cases h1;rw [B] at j;cases j
 refine ⟨o',vs,n,(D.2 a L).trans h1,h2,j,?_⟩;refine Paired.mapP r λN v z=>?_;obtain ⟨b,e,y⟩:=z;exact ⟨b,e,y.keeps q B D⟩
end
noncomputable def Yn (P:PP)(w:Ab):HeapKind P w (List (LI)) where
 is:=Uk P w
 hash:=Wi P w
 draws:=λk=>(k.map λr=>r.length+1).sum+1
 room:=λA=>A.units+70<cLine
 inj:=λ{h a x y} hx hy=>by
  obtain ⟨o,vs,n,h1,_,h3,r⟩:=hx;obtain ⟨o',vs',n',h1',_,h3',r'⟩:=hy;rw [h1] at h1';cases h1';rw [h3] at h3';cases h3';exact Zco r r'
 keeps:=λx ho hd hs=>Zg x ho hd hs
 pyHash:=λhu x q=>Xx hu x q
 eqBool:=λhu x y q=>Xy hu x y q
 quiet:=λx q=>Zf x q
noncomputable def KeyTT (H:Hp)(b:AD)(k:List (LI)):Prop:=∃cs:List AD,H b=some (.tup (cs.map V.ref))/\Paired (λ(j:LI) (c:AD)=>H c=some (.tup (j.map V.int))) k cs
theorem KeyTT.keep (x:KeyTT H b k)(t:∀p ys,H p=some (.tup ys)->H' p=some (.tup ys)):KeyTT H' b k:=by
 obtain ⟨cs,h1,h2⟩:=x;exact ⟨cs,t _ _ h1,Paired.mapP h2 λ_ _ z=>t _ _ z⟩
theorem KeyTT.same (x:KeyTT H b k)(s:Same H H'):KeyTT H' b k:=x.keep λp ys e=>s _ _ e
section
variable {P:PP}{w:Ab}{H:Hp}{h:Heap}{a:AD}
theorem Zft (ok:HOk P w H h)(x:KeyTT H b k):Uk P w h k b:=by
 obtain ⟨cs,h1,h2⟩:=x;obtain ⟨_,its,r,o,B,D,n,L⟩:=(show ObjOk P w H h b (.tup (cs.map V.ref)) from ok b _ h1);refine ⟨o,its.toArray,n,B,D,L,?_⟩;have j:∀{j:LI}{c:AD},H c=some (.tup (j.map V.int))->IsTupleKey (intKind P w) h j c:=λ{j c} e=>by
  obtain ⟨_,its,r,o,N,O,n,U⟩:=(show ObjOk P w H h c (.tup (j.map V.int)) from ok c _ e);refine ⟨o,its.toArray,n,N,O,U,?_⟩;have q:∀{j:LI}{its:LW},Vals (j.map V.int) its->ItemsAre (intKind P w) j its:=by
   intro j
   induction j with
   | nil=>intro its r;cases r;exact .nil
   | cons x j ih=>
    intro its r;rw [Yap] at r;cases r with
    | cons h t=>
     obtain ⟨tk,rfl⟩:=h;exact .cons (by simp [intKind,Value.isInt]) (ih t)
  simpa using q r
 have q:∀{k:List (LI)}{cs:List AD}{its:LW},Paired (λ(j:LI) (c:AD)=>H c=some (.tup (j.map V.int))) k cs->Vals (cs.map V.ref) its->Paired (Wh P w h) k its:=by
  intro k cs its p
  induction p generalizing its with
  | nil=>intro r;cases r;exact .nil
  | @cons a b l1 l2 e _ ih=>
   intro r;rw [Yap] at r;cases r with
   | cons hh t=>
    cases hh;exact .cons ⟨_,rfl,j e⟩ (ih t)
 simpa using q h2 r
end
section
variable {X:Cx}{qQ:List (AD×Obj)}{σ:St}{H:Hp}{s:SS}{a:AD}{y v d:V}{u r:Aa}{o:Option V}{A:Around}{E:Aa->SS->Prop}
theorem Zcp (j:A.units+71<cLine):(Yn P w).room A.in1:=by
 show A.in1.units+70<cLine;rw [Ydm]
 lia
end
section
variable {prog:PP}{w:Ab}{A:Around}{E:Aa->SS->Prop}{s:SS}
theorem ZaS {Q:Aa->SS->Prop}(D:s.heap.IsKeyIter j d i es.size ep)(U:s.heap.get? d=some o)(Y:o.data=.dict es ep)(hi:es[i]?=some e)(q:∀h',h'.IsKeyIter j d (i+1) es.size ep->Heap.SameBut j s.heap h'->Q e.key { s with heap:=h' }):wpAny (model prog w) A (Builtin.«dict_keyiterator.__next__» ⟨[.ref j],[]⟩) (λfin s'=>∃v,fin=.done (.ret v)/\Q v s') E s:=by
 obtain ⟨⟨c0,d0,t0,aa⟩,B,L,N⟩:=id D;subst L N;have T:=D.typeIs
 wp_walk using wpAny_fieldsOf B rfl,wpAny_dictEntries U Y,wpAny_dictEpoch U Y,Yfz T,wpAny_isOneOf_keyiter T
 rw [if_neg (by lia),Ydf,hi]
 wp_walk using Yfz T,wpAny_isOneOf_keyiter T,wpAny_setField B rfl
 case hi=>exact (by decide:(0:Nat)+1<4)
 case h=>
  have O:(s.heap.update j (Obj.mapFields (·.setIfInBounds 1 (rawInt ((i:Int)+1))))).IsKeyIter j d (i+1) es.size ep:=by
   exact ⟨_,Yfh _ B rfl,rfl,rfl⟩
  have Z:Heap.SameBut j s.heap (s.heap.update j (Obj.mapFields (·.setIfInBounds 1 (rawInt ((i:Int)+1))))):=Yet ..;have T1:=O.typeIs (s:={ s with heap:=s.heap.update j (Obj.mapFields (·.setIfInBounds 1 (rawInt ((i:Int)+1)))) });show wpAny _ _ _ _ _ { s with heap:=s.heap.update j (Obj.mapFields (·.setIfInBounds 1 (rawInt ((i:Int)+1)))) };generalize s.heap.update j (Obj.mapFields (·.setIfInBounds 1 (rawInt ((i:Int)+1))))=h1 at O Z T1 ⊢
  wp_walk using wpAny_isOneOf_keyiter T1
  exact ⟨_,rfl,q _ O Z⟩
theorem ZaT {Q:Aa->SS->Prop}(Z:A.handled=none)(B:s.heap.IsKeyIter j d i es.size ep)(O:s.heap.get? d=some o)(U:o.data=.dict es ep)(hi:es[i]?=none)(q:∀h' e,(∀c o,c≠j->s.heap.get? c=some o->h'.get? c=some o)->(∃o,h'.get? e=some o/\o.cls=.type "StopIteration")->E (.ref e) { s with heap:=h' }):wpAny (model prog w) A (Builtin.«dict_keyiterator.__next__» ⟨[.ref j],[]⟩) (λfin s'=>∃v,fin=.done (.ret v)/\Q v s') E s:=by
 obtain ⟨⟨c0,d0,t0,aa⟩,D,L,N⟩:=id B;subst L N;have T:=B.typeIs
 wp_walk using wpAny_fieldsOf D rfl,wpAny_dictEntries O U,wpAny_dictEpoch O U,Yfz T,wpAny_isOneOf_keyiter T
 rw [if_neg (by lia),Ydf,hi]
 wp_walk using Yfz T,wpAny_setField D rfl
 case hi=>exact (by decide:(0:Nat)<4)
 case h=>
  have Y:Heap.SameBut j s.heap (s.heap.update j (Obj.mapFields (·.setIfInBounds 0 Value.none))):=Yet ..;show wpAny _ _ _ _ _ { s with heap:=s.heap.update j (Obj.mapFields (·.setIfInBounds 0 Value.none)) };generalize s.heap.update j (Obj.mapFields (·.setIfInBounds 0 Value.none))=h1 at Y ⊢
  wp_walk using wpAny_raiseNew_none Z
  exact q _ _ (λc o n e=>Yah _ (Yah _ (by rw [Y.2 c n];exact e))) ⟨_,Ybb _ rfl,rfl⟩
theorem ZaU (j:s.heap.IsKeyIter B d i es.size ep)(D:s.heap.get? d=some o)(L:o.data=.dict es ep)(hi:es[i]?=some e)(q:∀h',h'.IsKeyIter B d (i+1) es.size ep->Heap.SameBut B s.heap h'->Q (some e.key) { s with heap:=h' }):wpAny (model prog w) A (pyNext (.ref B)) Q E s:=by
 refine Yaa (Yea (Yfd j.typeIs Yga (Ycy Yga j.typeIs F.entry_dict_keyiterator_next (ZaS j D L hi λh' k b=>?_) (F.args_dict_keyiterator_next_1 _))))
 wp_walk
 exact q h' k b
theorem ZaV (D:A.in1.handled=none)(j:s.heap.IsKeyIter B d i es.size ep)(L:s.heap.get? d=some o)(N:o.data=.dict es ep)(hi:es[i]?=none)(q:∀h',(∀c o,c≠B->s.heap.get? c=some o->h'.get? c=some o)->Q none { s with heap:=h' }):wpAny (model prog w) A (pyNext (.ref B)) Q E s:=by
 refine Yaa (Yea (Yfd j.typeIs Yga (Ycy Yga j.typeIs F.entry_dict_keyiterator_next (ZaT D j L N hi ?_) (F.args_dict_keyiterator_next_1 _))));rintro h' e k ⟨o',O,U⟩;exact Yaa (Yfi ⟨o',O,U⟩ isSubtype_stop (Yab (q h' k)))
theorem ZaW (L:(d == sysModules)=false)(j:s.heap.get? d=some o)(D:o.ExactDict)(B:o.data=.dict es ep)(q:∀h',h'.IsKeyIter s.heap.objs.size d 0 es.size ep->(∀c o,s.heap.get? c=some o->h'.get? c=some o)->Q (.ref s.heap.objs.size) { s with heap:=h' }):wpAny (model prog w) A (pyIter (.ref d)) Q E s:=by
 have T:s.TypeIs (.ref d) "dict" := ⟨o,j,D.1⟩;refine wpAny_pyIter_slot T F.slot_dict_iter (Ycy F.slot_dict_iter T F.entry_dict_iter ?_ (F.args_dict_iter_1 _))
 wp_walk using wpAny_notOrdered_dict T,wpAny_dictEntries j B,wpAny_dictEpoch j B
 exact ⟨_,rfl, "dict_keyiterator", _,⟨_,Ybb _ rfl,rfl⟩,F.slot_dict_keyiterator_next.lookup,q _ ⟨_,Ybb _ rfl,rfl,rfl⟩ λc o e=>Yah _ e⟩
end
section
variable {X:Cx}
theorem Zcq {α β:Type}{F:α->β->Prop}{l:List α}{m:List β}(h:Paired F l m):∀{i:Nat}{x:α},l[i]?=some x->∃y,m[i]?=some y/\F x y:=by
 induction h with
 | nil=>intro i x e;simp at e
 | @cons p q _ _ r _ ih=>
  intro i x e;cases i with
  | zero=>simp at e;subst e;exact ⟨q,by simp,r⟩
  | succ i=>simp at e;obtain ⟨y,h1,h2⟩:=ih e;exact ⟨y,by simpa using h1,h2⟩
end
structure GK (P:PP)(w:Ab)(κ:Type)[DecidableEq κ] where
 knd:HeapKind P w κ
 At:Hp->AD->κ->Prop
 ok:∀{H:Hp}{h:Heap}{b:AD}{k:κ},HOk P w H h->At H b k->knd.is h k b
 keep:∀{H H':Hp}{b:AD}{k:κ},At H b k->(∀p ys,H p=some (.tup ys)->H' p=some (.tup ys))->At H' b k
 room:∀{A:Around},A.units+71<cLine->knd.room A.in1
noncomputable abbrev GKv (κ:Type):=List (κ×AD×V)
section
variable {P:PP}{w:Ab}{κ:Type}[DecidableEq κ](G:GK P w κ)
noncomputable def GPr (p:κ×AD×V)(q:κ×AD×Aa):Prop:=p.1=q.1/\p.2.1=q.2.1/\RelV p.2.2 q.2.2
noncomputable def gd (a:AD)(kvs:GKv κ):HO:=.ext λh=>kvs.length<=sizeLine/\(a == sysModules)=false/\∃xs:List (κ×AD×Aa),Paired GPr kvs xs/\∃o es ep,h.get? a=some o/\o.ExactDict/\o.data=.dict es ep/\es.toList=xs.map (entryOfKey G.knd)/\(xs.map (·.1)).Nodup
noncomputable def GKeys (H:Hp)(kvs:GKv κ):Prop:=∀p∈kvs,G.At H p.2.1 p.1
noncomputable def O3 (kvs:GKv κ)(k:κ):Option V:=(kvs.find? λp=>decide (p.1=k)).map (·.2.2)
end
section
variable {P:PP}{w:Ab}{κ:Type}[DecidableEq κ]{G:GK P w κ}{H H':Hp}{h:Heap}{a:AD}{kvs:GKv κ}
theorem GKeys.keep (x:GKeys G H kvs)(t:∀p ys,H p=some (.tup ys)->H' p=some (.tup ys)):GKeys G H' kvs:=λp j=>G.keep (x p j) t
theorem ZaX (ok:HOk P w H h)(e:Rd H a (gd G a kvs))(K:GKeys G H kvs):kvs.length<=sizeLine/\(a == sysModules)=false/\∃xs,Paired GPr kvs xs/\h.DictOfH G.knd a xs:=by
 obtain ⟨⟨z,y,xs,r,o,es,ep,h1,h2,B,D,L⟩,_,_⟩:=(show ObjOk P w H h a (gd G a kvs) from e.ok ok);refine ⟨z,y,xs,r,o,es,ep,h1,h2,B,D,λx j=>?_,L⟩;have all:∀{l:GKv κ}{m:List (κ×AD×Aa)},Paired GPr l m->GKeys G H l->∀x∈m,G.knd.is h x.1 x.2.1:=by
  intro l m q
  induction q with
  | nil=>intro _ x j;cases j
  | @cons p q ps qs hq t ih=>
   intro K x j;rcases Yav.mp j with rfl | j
   ·rw [<-hq.1,<-hq.2.1];exact G.ok ok (K p (Ybj ..))
   ·exact ih (λy N=>K y (Ybf _ N)) x j
 exact all r K x j
theorem Yo (r:Paired GPr kvs xs)(k:κ):RelO (O3 kvs k) ((atKey xs k).map (·.2)):=by
 induction r with
 | nil=>exact True.intro
 | @cons p q ps qs h t L=>
  obtain ⟨h1,_,h2⟩:=h;by_cases e:p.1=k
  ·have j:q.1=k:=h1.symm.trans e;have B:O3 (p::ps) k=some p.2.2:=by simp [O3,Ydn,e]
   have D:atKey (q::qs) k=some q.2:=by simp [atKey,Ydn,j]
   rw [B,D];exact h2
  ·have j:¬ q.1=k:=λz=>e (h1.trans z);have B:O3 (p::ps) k=O3 ps k:=by simp [O3,Ydn,e]
   have D:atKey (q::qs) k=atKey qs k:=by simp [atKey,Ydn,j]
   rw [B,D];exact L
theorem Zdc (z:kvs.length<=sizeLine)(y:(a == sysModules)=false)(r:Paired GPr kvs xs)(dd:h.DictOfH G.knd a xs):ObjOk P w H' h a (gd G a kvs):=by
 obtain ⟨o,es,ep,h1,h2,B,D,_,L⟩:=dd;refine ⟨⟨z,y,xs,r,o,es,ep,h1,h2,B,D,L⟩,⟨o,h1⟩,λZ g2 x k=>?_⟩;obtain ⟨N,O,xs',r',o',j,q,U,Y⟩:=x;exact ⟨N,O,xs',r',o',j,q,k _ U,Y⟩
theorem Zcr (h:Heap)(j:sysModules<h.objs.size):ObjOk P w H (h.push { cls:=.type "dict", data:=.dict #[] }) h.objs.size (gd G h.objs.size ([]:GKv κ)):=by
 have e:(h.push { cls:=.type "dict", data:=.dict #[] }).get? h.objs.size=some { cls:=.type "dict", data:=.dict #[] }:=Ybb _ rfl;refine Zdc (Yax _) (Ydy.mpr (Ydj j)) .nil ⟨_,#[],_,e,⟨rfl,rfl,rfl⟩,rfl,rfl,λx q=>(by cases q),Yeb⟩
end
noncomputable def Zh {P:PP}{w:Ab}{κ:Type}[DecidableEq κ](G:GK P w κ)(H:Hp)(a:AD)(y:V)(o:Option V):Prop:=∃kvs k b,Rd H a (gd G a kvs)/\GKeys G H kvs/\y=.ref b/\G.At H b k/\o=O3 kvs k
section
variable {X:Cx}{κ:Type}[DecidableEq κ]{G:GK X.prog X.w κ}{qQ:List (AD×Obj)}{σ:St}{H:Hp}{s:SS}{a:AD}{y v d:V}{u r:Aa}{o:Option V}{A:Around}{E:Aa->SS->Prop}
theorem Zef (B:A.units+71<cLine)(I:Inv X qQ σ H s)(g:Zh G H a y o)(D:RelV y u)(h:∀s',Inv X qQ σ H s'->Q (.bool (!o.isSome)) s') :
  wpAny (model X.prog X.w) A (compareOp .NotIn u (.ref a)) Q E s:=by
 obtain ⟨kvs,k,b,e,K,rfl,L,rfl⟩:=g;cases (show u=Value.ref b from D);obtain ⟨z,N,xs,j,O⟩:=ZaX I.hok e K;refine wpAny_notIn_heap (G.room B) (G.ok I.hok L) N O ?_;have q:=(Yo j k).isSome_eq;rw [Option.isSome_map] at q;rw [<-q];exact h _ (I.tok _)
theorem ZaY (D:A.units+71<cLine)(I:Inv X qQ σ H s)(g:Zh G H a y (some v))(L:RelV y u)(h:∀j s',Inv X qQ σ H s'->RelV v j->Q j s') :
  wpAny (model X.prog X.w) A (getItem (.ref a) u) Q E s:=by
 obtain ⟨kvs,k,b,e,K,rfl,N,O⟩:=g;cases (show u=Value.ref b from L);obtain ⟨z,hd,xs,q,U⟩:=ZaX I.hok e K;obtain ⟨j,Y,B⟩:=RelO.some_of (v:=v) (o:=(atKey xs k).map (·.2)) (by rw [O];exact Yo q k);obtain ⟨p,Z,rfl⟩:=Ybt.mp Y;exact wpAny_getItem_heap (G.room D) (G.ok I.hok N) U Z (h _ _ (I.tok _) B)
theorem ZaZ (L:A.units+71<cLine)(I:Inv X qQ σ H s)(e:H a=some (gd G a kvs))(K:GKeys G H kvs)(N:G.At H b k)(O:O3 kvs k=none)(hl:kvs.length<sizeLine)(U:RelV v r)(h:∀s',Inv X qQ σ (upd H a (gd G a (kvs++[(k,b,v)]))) s'->Q () s'):wpAny (model X.prog X.w) A (setItem (.ref a) (.ref b) r) Q E s:=by
 obtain ⟨z,Y,xs,j,Z⟩:=ZaX I.hok (.inl e) K;have hz:xs.length<=sizeLine:=by rw [<-Ycv j];exact z
 have D:atKey xs k=none:=Yfj.mp (RelO.none_of (by rw [<-O];exact Yo j k));refine wpAny_setItem_heap (hsz:=hz) (G.room L) (G.ok I.hok N) Z λh' B hs=>h _ ?_;rw [storedH_new D] at B;have he:∃q,h'.get? a=some q:=let ⟨q,_,_,hq,_⟩:=B;⟨q,hq⟩;exact VS I (by rw [e];exact True.intro) hs he (Zdc (by rw [Yam,Ybc];lia) Y (Paired.snoc j ⟨rfl,rfl,U⟩) B)
theorem Inv.freezeG (I:Inv X qQ σ H s)(e:H a=some (gd G a kvs)):∃o,Inv X qQ σ (upd H a (.frz o (gd G a kvs))) s:=by
 have B:ObjOk X.prog X.w H s.heap a (gd G a kvs):=I.hok a _ e;obtain ⟨⟨_,_,_,_,o,_,_,h1,_⟩,_⟩:=id B;have j:ObjOk X.prog X.w (upd H a (.frz o (gd G a kvs))) s.heap a (gd G a kvs):=B;exact ⟨o,I.write (x:=a) (e:=a) (o:=.frz o (gd G a kvs)) (h':=s.heap) (t':=s.toks) (by rw [e];exact True.intro) (.inl rfl) (λb u _ q=>q) ⟨_,h1⟩ ⟨h1,j⟩⟩
end
section
variable {X:Cx}{κ:Type}[DecidableEq κ]{G:GK X.prog X.w κ}{qQ:List (AD×Obj)}{σ:St}{H:Hp}{s:SS}{a:AD}
theorem Za0 (I:Inv X qQ σ H s)(g:Zh G H a y o):s.TypeIs (.ref a) "dict" /\ ∀b,Value.ref a=.ref b->∃j,s.heap.get? b=some j/\j.dict=none:=by
 obtain ⟨kvs,k,b,e,K,_,_,_⟩:=g;obtain ⟨_,_,xs,_,B⟩:=ZaX I.hok e K;refine ⟨B.typeIs,λb q=>?_⟩;cases q;obtain ⟨j,_,_,h1,h2,_⟩:=B;exact ⟨j,h1,h2.2.1⟩
end
section
variable {P:PP}{w:Ab}{κ:Type}[DecidableEq κ](G:GK P w κ)
noncomputable def ZhC:TE:=λ_ H Q=>∀p,H p=none->Q (.ref p) (upd H p (gd G p ([]:GKv κ)))
noncomputable def Zeg (ty td:TE):TE:=λσ H Q=>ty σ H λy H1=>td σ H1 λx H2=>∃a o,x=.ref a/\Zh G H2 a y o/\Q (.bl (!o.isSome)) H2
noncomputable def Zh6 (td ty:TE):TE:=λσ H Q=>td σ H λx H1=>ty σ H1 λy H2=>∃a v,x=.ref a/\Zh G H2 a y (some v)/\Q v H2
noncomputable def ZhD (td ty tv:TE):TS:=λD σ H=>tv σ H λv H1=>td σ H1 λx H2=>ty σ H2 λy j=>∃a b kvs k,x=.ref a/\y=.ref b/\j a=some (gd G a kvs)/\GKeys G j kvs/\G.At j b k/\O3 kvs k=none/\kvs.length<sizeLine/\D.nx σ (upd j a (gd G a (kvs++[(k,b,v)])))
end
section
variable {X:Cx}{κ:Type}[DecidableEq κ]{G:GK X.prog X.w κ}{o i e f value:Expr}{pos pos' apos qG:Pos}{td ty tv tx:TE}
theorem Za1:PE X (.Dict [] [] pos) (ZhC G):=λqQ s σ H Q I h=>
 wpAny_Dict_empty ⟨.ref s.heap.objs.size,_,I.laid (a:=s.heap.objs.size) (o:=gd G s.heap.objs.size ([]:GKv κ)) (t':=s.toks) (λ_ _ q=>Yah _ q) (Yae _) (Zcr s.heap I.big),rfl,h _ (I.hok.fresh (Yae _))⟩
theorem Za2 (j:X.A.units+71<cLine)(hi:PE X i ty)(q:PE X o td):PC X .NotIn i o (Zeg G ty td):=by
 intro qQ s σ H Q I h;refine thG (hi qQ s σ H _ I h) λiv B y H1 D L N=>thG (q qQ B σ H1 _ D N) λu s2 x H2 O U ⟨a,Y,ex,g,Z⟩=>?_;subst ex;obtain rfl:u=Value.ref a:=U;exact Zef j O g L λs3 I3=>⟨.bl (!Y.isSome),H2,I3,rfl,Z⟩
theorem O0 (B:X.A.units+71<cLine)(D:PE X o td)(hi:PE X i ty)(L:Zff i):PE X (.Subscript o i pos) (Zh6 G td ty):=by
 intro qQ s σ H Q I h;refine Z9 PySem.F.slot_dict_getitem.lookup L (thG (D qQ s σ H _ I h) λu N x H1 O U Y=>thG (hi qQ N σ H1 _ O Y) λiv s2 y H2 q Z ⟨a,v,ex,g,q2⟩=>?_);subst ex;obtain rfl:u=Value.ref a:=U;exact ⟨(Za0 q g).1,ZaY B q g Z λw' s3 I3 j=>⟨v,H2,I3,j,q2⟩⟩
theorem Xz (j:X.A.units+71<cLine)(q:PE X o td)(hi:PE X i ty)(B:PE X value tv)(L:swapsWith value (some (.Subscript o i pos')) pos.line X.env=pure false) :
  PS X (.Assign [.Subscript o i pos'] value pos) (ZhD G td ty tv):=by
 intro qQ s σ H D I h;refine wpAny_Assign_Subscript (thG (B qQ s σ H _ I h) λr N v H1 O U Y=>thG (q qQ N σ H1 _ O Y) λu Z x H2 I2 rx q2=>thG (hi qQ Z σ H2 _ I2 q2) λiv s3 y H3 I3 ry ⟨a,b,kvs,k,ex,ey,ea,K,kb,hn,hl,q3⟩=>?_) L;subst ex ey;obtain rfl:u=Value.ref a:=rx;obtain rfl:iv=Value.ref b:=ry;exact ZaZ j I3 ea K kb hn hl U λs4 I4=>⟨σ,_,I4,q3⟩
end
section
variable {X:Cx}{κ:Type}[DecidableEq κ]
noncomputable def ItG {P:PP}{w:Ab}(G:GK P w κ)(a:AD)(o:Obj)(kvs:GKv κ):It:=
 ⟨λi H=>H a=some (.frz o (gd G a kvs))/\i<kvs.length,λi H x H'=>H'=H/\∃k b v,kvs[i]?=some (k,b,v)/\x=.ref b,λi H=>H a=some (.frz o (gd G a kvs))/\kvs.length<=i⟩
theorem Wl {G:GK X.prog X.w κ}{σ:St}{H:Hp}{s:SS}{a:AD}{o:Obj}{kvs:GKv κ}(I:Inv X qQ σ H s)(e:H a=some (.frz o (gd G a kvs))) :
  (a == sysModules)=false/\s.heap.get? a=some o/\o.ExactDict/\∃es ep,o.data=.dict es ep/\es.size=kvs.length/\∀(i:Nat) k b v,kvs[i]?=some (k,b,v)->∃j:DictEntry,es[i]?=some j/\j.key=.ref b:=by
 obtain ⟨h1,⟨z,B,xs,r,o',es,ep,h2,D,L,q,Z⟩,_⟩:=(show ObjOk X.prog X.w H s.heap a (.frz o (gd G a kvs)) from I.hok a _ e);rw [h1] at h2;cases h2;refine ⟨B,h1,D,es,ep,L,?_,λi k b v hi=>?_⟩
 ·rw [<-Yan,q,Yac,Ycv r]
 ·obtain ⟨⟨N,O,u⟩,U,e1,Y,_⟩:=Zcq r hi;refine ⟨entryOfKey G.knd (N,O,u),?_,?_⟩
  ·rw [<-Yba,q,Yay,U]
   rfl
  ·exact Ybg Value.ref Y.symm
theorem Zi {P:PP}{w:Ab}{G:GK P w κ}{K:FG}{tg:Expr}(a it:AD)(o:Obj)(kvs:GKv κ)(es:Array DictEntry)(ep:Nat)(ho:o.data=.dict es ep)(hsz:es.size=kvs.length) :
  ZcP P w K tg (ItG G a o kvs) [it] it (λi h=>h.IsKeyIter it a i es.size ep) where
 mem:=by simp
 obj:=λi h st b hb=>by
  have e:b=it:=by simpa using hb
  subst e;obtain ⟨o,e,c,d⟩:=st;exact ⟨o,e,λv z=>by rw [d] at z;cases z⟩
 keep:=λi h h' st k=>by
  obtain ⟨o,e,c,d⟩:=st;exact ⟨o,k it (by simp) o e,c,d⟩
 item:=by
  intro X hP hw hK hc i qQ s σ H E I hf st hg;subst hP hw hK;obtain ⟨hq,hi⟩:=hg;obtain ⟨hd,h1,h2,es',ep',h3,h4,h5⟩:=Wl I hq;rw [ho] at h3;cases h3;obtain ⟨⟨k,b,v⟩,hx⟩:∃x,kvs[i]?=some x:=⟨_,Yaw hi⟩;obtain ⟨de,hde,hkey⟩:=h5 i k b v hx;obtain ⟨f0,f1,f2,f3,f4,f5⟩:=hf it (by simp);refine ZaU st h1 ho hde λh' st' sb=>?_;have I1:Inv X qQ σ H { s with heap:=h' }:=I.turned (t':=s.toks) (λb o hb e=>(sb.2 b hb).trans e) f0 f1 f3 f4 f5;obtain ⟨o',e,c,d⟩:=id st';exact ⟨de.key,rfl,ZbG (s:={ s with heap:=h' }) e c d (by decide) ⟨.ref b,H,I1,hkey,⟨rfl,k,b,v,hx,rfl⟩,st',λb hb=>(hf b hb).1⟩⟩
 done:=by
  intro X hP hw hK hc i qQ s σ H E I hf st hg;subst hP hw hK;obtain ⟨hq,hi⟩:=hg;obtain ⟨hd,h1,h2,es',ep',h3,h4,h5⟩:=Wl I hq;rw [ho] at h3;cases h3;obtain ⟨f0,f1,f2,f3,f4,f5⟩:=hf it (by simp);exact ZaV (I.ok.hd hc) st h1 ho (Yft (by lia)) λh' eb=>⟨rfl,I.turned (t':=s.toks) (λb o hb e=>eb b o hb e) f0 f1 f3 f4 f5⟩
 self:=λ_ _ _ _ _ st h=>wpAny_pyIter_keyiter st h
noncomputable def Zfu {P:PP}{w:Ab}(G:GK P w κ)(tl:TE):TI:=λσ H R=>tl σ H λx H1=>∃a kvs,x=.ref a/\((H1 a=some (gd G a kvs)/\∀o,R (ItG G a o kvs) (upd H1 a (.frz o (gd G a kvs))))\/∃o,H1 a=some (.frz o (gd G a kvs))/\R (ItG G a o kvs) H1)
theorem Yp {G:GK X.prog X.w κ}(N:PE X l tl):PI X tg l (Zfu G tl):=by
 intro qQ s σ H R I h;refine thG (N qQ s σ H _ I h) λv B x H1 D O U=>?_;obtain ⟨a,kvs,e,q⟩:=U;subst e;cases O;obtain ⟨o,H2,j,Y,Z⟩:∃o H2,Inv X qQ σ H2 B/\H2 a=some (.frz o (gd G a kvs))/\R (ItG G a o kvs) H2:=by
  rcases q with ⟨e,q⟩ | ⟨o,e,q⟩
  ·obtain ⟨o,j⟩:=D.freezeG e;exact ⟨o,_,j,Gb,q o⟩
  ·exact ⟨o,H1,D,e,q⟩
 obtain ⟨hd,h1,h2,es,ep,L,h4,h5⟩:=Wl j Y;refine ZaW hd h1 h2 L λh' st kp=>?_;refine ⟨B.heap.objs.size,[B.heap.objs.size],_,_,H2,rfl,j.kept (t':=B.toks) kp,Zi a _ o kvs es ep L h4,st,λb hb=>?_,Z⟩;have e:b=B.heap.objs.size:=by simpa using hb
 subst e;exact j.fpOk (Yae _) (j.hok.fresh (Yae _))
theorem Za3 {G:GK P w κ}(j:Nat->St->Hp->Prop)(h0:j 0 σ H)(q:∀i σ H,i<=kvs.length->j i σ H->H a=some (.frz o (gd G a kvs)))(B:∀i k b v σ H,kvs[i]?=some (k,b,v)->j i σ H->g (.ref b) σ H λL H2=>tb { D with nx:=j (i+1),ct:=j (i+1),bk:=D.nx } L H2)(N:∀ σ H,j kvs.length σ H->D.nx σ H) :
  YF (ItG G a o kvs) g tb D σ H:=UG j h0 (λi s H hi p=>⟨λz=>⟨q i s H hi p,z⟩,λe=>⟨q i s H hi p,Nat.le_of_eq e.symm⟩⟩) (λi s H x H' z p y=>by obtain ⟨rfl,k,b,v,O,rfl⟩:=y;exact B i k b v s _ O p) N
theorem Zj {G:GK P w κ}(j:Nat->List V->Hp->Prop)(h0:j 0 [] (upd H1 D (.lst [])))(L:∀i ys H,i<=kvs.length->j i ys H->H a=some (.frz o (gd G a kvs)))(U:∀i k b v ys H,kvs[i]?=some (k,b,v)->j i ys H->g (.ref b) q H λB Y=>JJ q B/\tc B Y λc N=>if c=true then te B N λy O=>O D=some (.lst ys)/\ys.length<sizeLine/\j (i+1) (ys++[y]) (upd O D (.lst (ys++[y]))) else j (i+1) ys N)(Z:∀ys H,j kvs.length ys H->R H):Vn (ItG G a o kvs) D g tc te q R H1:=OG j h0 (λi s H hi p=>⟨λz=>⟨L i s H hi p,z⟩,λe=>⟨L i s H hi p,Nat.le_of_eq e.symm⟩⟩) (λi s H x H' z p y=>by obtain ⟨rfl,k,b,v,ek,rfl⟩:=y;exact U i k b v s _ ek p) Z
end
section
variable {X:Cx}
noncomputable def Zfv (i:Nat)(f:AD)(sp:Sp)(dvs:List V)(E:XK)(t:TA):TE:=λσ H Q=>σ[i]?=some (some (.ref f))/\Zdz sp dvs E t σ H Q
theorem Zcs (F:GG X.prog X.w X.K X.mg X.base CX k f fd ps sp)(L:Room k X.A)(N:PE X (.Name x p) (Zq i))(O:W.keepIn X.K (.ref f)=true)(U:Binds X.K fd ps ds)(Y:Vals dvs ds)(Z:Oo CX X E)(ha:PA X (e::es) t)(he:starEach (e::es) X.env=(false,eval e X.env)::starEach es X.env:=by rfl)(j:(backTo pos (starEach es X.env)).any (·.1)=false:=by rfl):PE X (.Call (.Name x p) (e::es) [] pos) (Zfv i f sp dvs E t):=by
 intro qQ s σ H Q I h;refine Yeg (thG (N qQ s σ H (λv H'=>v=.ref f/\H'=H) I ⟨_,h.1,rfl,rfl⟩) λu s1 v H1 B r1 ⟨ev,eH⟩=>?_);subst ev eH;obtain rfl:u=Value.ref f:=r1;refine W.callWith_K (h₀:=X.base) B.ok.mod.kin O (thG (ha pos qQ s1 σ H1 _ B h.2) λus s2 vs H2 D r q=>⟨D.kIn,?_⟩) he j;exact ZM F L U Y Z D r q
end
section
variable {prog:PP}{w:Ab}{A:Around}{E:Aa->SS->Prop}{s:SS}
theorem Vh {J:SS->Prop}(hv:s.heap.IsList r vs.toArray)(hz:vs.length<=sizeLine)(hl:kz.length=vs.length)(hJ:∀h' tk,(∀c o,s.heap.get? c=some o->h'.get? c=some o)->J { s with heap:=h',toks:=tk })(put:∀(B:SS)(c:AD)(f:Obj->Obj),s.heap.objs.size<=c->J B->J { B with heap:=B.heap.update c f })(N:∀(i:Nat)(v:Aa)(k:Int)(B:SS)(R:Aa->SS->Prop)(E':Aa->SS->Prop),vs[i]?=some v->kz[i]?=some k->J B ->
   (∀t D,J D->B.heap.objs.size<=D.heap.objs.size->(∀c o,s.heap.objs.size<=c->B.heap.get? c=some o->D.heap.get? c=some o)->R (.int k t) D)->wpAny (model prog w) A.in1.in1 (call (.ref q) [v]) R E' B)(fin:∀(D:SS)(l:AD)(out:Array Aa)(c:Nat),J D->s.heap.objs.size<=l->D.heap.get? l=some (seqObj "list" out c)->Fall kz vs out.toList->Q (.ref l) D) :
  wpAny (model prog w) A (call (.builtin "sorted") [.ref r] [(Str.ofString "key", .ref q),(Str.ofString "reverse", .bool true)]) Q E s:=by
 have aa:=Ybd;refine call_function_entry_kw kind_sorted plain_sorted entry_sorted (ksk_s2 _ _ _) ?_;unfold Builtin.sorted;refine Yaa (Yab ?_);refine Yaa (collect_list hv ?_ hz);generalize hh1:(s.heap.push (seqObj "list" #[] 0)).update s.heap.objs.size (Obj.mapSeq λx=>x++vs.toArray)=h1;have sz:s.heap.objs.size<=h1.objs.size:=by rw [<-hh1,Heap.size_update,Ybz];exact Yde _
 have k1:∀c o,s.heap.get? c=some o->h1.get? c=some o:=λc o e=>by
  rw [<-hh1];exact Ju (Yar (Yag e)) (Yah _ e)
 refine Yaa (Yey ?_ hz);have Z:∀c o,s.heap.get? c=some o->(h1.push { cls:=Value.type "list", data:=Data.seq vs.toArray }).get? c=some o:=λc o e=>Yah _ (k1 c o e);have O:(h1.push { cls:=Value.type "list", data:=Data.seq vs.toArray }).get? h1.objs.size=some (seqObj "list" vs.toArray 0):=Ybb _ rfl;have zz:(h1.push { cls:=Value.type "list", data:=Data.seq vs.toArray }).objs.size=h1.objs.size+1:=Ybz ..;show wpAny _ _ _ _ _ { s with heap:=h1.push { cls:=Value.type "list", data:=Data.seq vs.toArray } };have L:∀h':Heap,(∀c o,s.heap.get? c=some o->h'.get? c=some o)->J { s with heap:=h' }:=λh' k=>hJ h' s.toks k;generalize h1.push { cls:=Value.type "list", data:=Data.seq vs.toArray }=h2 at Z O zz ⊢;refine Yaa (Ycd (wpAny_call_entry_kw (s:={ s with heap:=h2 }) slot_list_sort ⟨_,O,rfl⟩ entry_list_sort ?_ (ksk_l2 _ _ _)));refine OZ (s:={ s with heap:=h2 }) (J:=λB=>J B) O hz hl ⟨λB c f U j=>put B c f (by rcases U with rfl | rfl;exact sz;show _<=h2.objs.size+1;lia) j⟩ ?_ ?_ ?_
 ·refine L _ λc o e=>Yah _ (Yah _ ((Ycp _ _ ?_).trans (Z c o e)));exact Ydj (Ybm (Yag e) sz)
 ·intro i v k B R E' Y hk j _ hR;exact N i v k B R E' Y hk j λt D j2 l2 kp=>hR t D j2 l2 λc o U e=>kp c o (by rcases U with rfl | rfl;exact sz;show _<=h2.objs.size+1;lia) e
 ·intro D out c j e F;exact ⟨.none,rfl,Yab ⟨_,rfl,fin D _ out c j sz e F⟩⟩
end
section
variable {X:Cx}
theorem Yq:∀{bs:List AD}{us:LW}{i:Nat}{v:Aa},Vals (bs.map V.ref) us->us[i]?=some v->∃b,bs[i]?=some b/\v=.ref b
 | [],_,i,v,h,e=>by cases h;simp at e
 | b::bs,_,0,v,h,e=>by
  cases h with
  | cons r t=>cases r;simp at e;exact ⟨b,rfl,e.symm⟩
 | b::bs,_,i+1,v,h,e=>by
  cases h with
  | cons r t=>obtain ⟨c,h1,h2⟩:=Yq (i:=i) t (by simpa using e);exact ⟨c,by simpa using h1,h2⟩
theorem Za4:∀{bs:List AD}{us:LW},Vals (bs.map V.ref) us->us=bs.map Value.ref
 | [],_,h=>by cases h;rfl
 | b::bs,_,h=>by
  cases h with
  | cons r t=>cases r;rw [Za4 t];rfl
theorem Um:∀bs:List AD,Vals (bs.map V.ref) (bs.map Value.ref)
 | []=>.nil
 | b::bs=>.cons rfl (Um bs)
theorem Zk {κ:Type}[DecidableEq κ]{G:GK X.prog X.w κ}(D:A.units+71<cLine)(I:Inv X qQ σ H s)(g:Zh G H a y (some v))(L:RelV y u)(h:∀j tk,RelV v j->Q j { s with toks:=tk }) :
  wpAny (model X.prog X.w) A (getItem (.ref a) u) Q E s:=by
 obtain ⟨kvs,k,b,e,K,rfl,N,O⟩:=g;cases (show u=Value.ref b from L);obtain ⟨z,hd,xs,q,U⟩:=ZaX I.hok e K;obtain ⟨j,Y,B⟩:=RelO.some_of (v:=v) (o:=(atKey xs k).map (·.2)) (by rw [O];exact Yo q k);obtain ⟨p,Z,rfl⟩:=Ybt.mp Y;exact wpAny_getItem_heap (G.room D) (G.ok I.hok N) U Z (h _ _ B)
noncomputable def Zfw {P:PP}{w:Ab}{κ:Type}[DecidableEq κ](G:GK P w κ)(K:FG)(j:Nat)(qual:Str)(params:Arguments)(body:Expr)(scope:Scope)(clos:List (Str×AD))(pm:Aa):St->List V->List V->Hp->VK->Prop:=λσ xs zs H Q=>
 ∃(r f c nd:AD)(oc:Obj)(ctv:Aa)(ts:List (AD×Int)),xs=[.ref r]/\zs=[.ref f,.bl true]/\SqL K H r (ts.map λt=>V.ref t.1) /\
  H f=some (.frz (W.kla_obj "<lambda>" qual params body scope clos pm c ctv) (.own f))/\H c=some (.frz oc (.own c))/\Zeb qual oc/\σ[j]?=some (some (.ref nd)) /\
  (∀t∈ts,∃(b:AD)(ys:List V),Zh G H nd (.ref t.1) (some (.ref b))/\SqT K H b (V.int t.2::ys)) /\
  ∀(l:AD)(ps:List (AD×Int)),H l=none->ps.Perm ts->ps.Pairwise (λp q=>q.2<=p.2)->Q (.ref l) (upd H l (.lst (ps.map λt=>V.ref t.1)))
theorem Zl {κ:Type}[DecidableEq κ]{G:GK X.prog X.w κ}{K:FG}(hK:X.K=K)(jJ:X.A.in1.in1.depth<recursionLimit)(hu:X.A.units+80<cLine)(hN:X.N[j]?=some y)(hv:Vis X.env.scope y)(ah:X.env.kindOf y=some .cell)(ai:X.env.cells.lookup y=some cc)(aj:scope.isCoroutine=false)(Y:scope.isGenerator=false)(hk:scope.kind=.function)(U:∀(c:AD)(ctv arg:Aa),bindArgs (W.kla_fn "<lambda>" qual params (.Subscript (.Subscript (.Name y p1) (.Name x p2) p5) (.Constant (.int 0) d2 p6) p7) scope [(y,cc)] pm (.ref c) ctv) ⟨[arg],[]⟩=pure [(x,arg)])(Z:scope.names.lookup x=some .local)(ak:scope.names.lookup y=some .free)(jX:∀z∈scope.names,z.2≠.cell)(al:(x == ("__debug__" : Str))=false)(am:(y == ("__debug__" : Str))=false)(an:(y == ("__classdict__" : Str))=false)(qQ:List (AD×Obj))(s:SS)(σ:St)(H:Hp)(xs:List V)(us:LW)(zs:List V)(ws:LW)(Q:VK)(I:Inv X qQ σ H s)(rx:Vals xs us)(rz:Vals zs ws)(h:Zfw G K j qual params (.Subscript (.Subscript (.Name y p1) (.Name x p2) p5) (.Constant (.int 0) d2 p6) p7) scope [(y,cc)] pm σ xs zs H Q) :
  wpAny (model X.prog X.w) X.A (call (.builtin "sorted") us (([Str.ofString "key", Str.ofString "reverse"]:List Str).zip ws)) (EP X qQ σ Q) X.xe s:=by
 subst hK;obtain ⟨r,f,c,nd,oc,ctv,ts,rfl,rfl,er,ef,ec,⟨ao,tq,ap,aq⟩,eσ,ht,q⟩:=h;obtain ⟨u,rfl,ru⟩:=rx.one;cases ru;obtain ⟨u1,u2,rfl,ar,as⟩:=rz.two;cases ar;cases as;obtain ⟨its,rv,pl,hz⟩:=I.list er;have qV:=rv.length;rw [Yac] at qV hz;have a2:=Ybd.symm;have aa:Vals ((ts.map Prod.fst).map V.ref) its:=by rw [Ydh];exact rv
 have B:∀(h1:Heap)(tk:Nat),(∀b o,s.heap.get? b=some o->h1.get? b=some o)->Inv X qQ σ H { s with heap:=h1,toks:=tk }:=λh1 tk k=>I.kept (t':=tk) k;show wpAny (model X.prog X.w) X.A (call (.builtin "sorted") [.ref r] [(Str.ofString "key", .ref f),(Str.ofString "reverse", .bool true)]) (EP X qQ σ Q) X.xe s;refine Vh (kz:=ts.map (·.2)) (vs:=its) (J:=λs1=>∃h1 tk,s1={ s with heap:=h1,toks:=tk }/\∀b o,s.heap.get? b=some o->h1.get? b=some o) pl.isList (by lia) (by rw [Yac];exact qV)
  (λh1 tk k=>⟨h1,tk,rfl,k⟩) ?_ ?_ ?_
 ·rintro s1 d g hd ⟨h1,tk,rfl,k⟩;exact ⟨_,tk,rfl,λb o e=>(Ycp _ _ (Ydj (Ybm (Yag e) hd))).trans (k b o e)⟩
 ·rintro i v k s1 R E' au ab ⟨h1,tk,rfl,kp⟩ hR;have I1:=B h1 tk kp;obtain ⟨D,ac,rfl⟩:∃D,ts[i]?=some D/\D.2=k:=by
   rw [Yay] at ab;obtain ⟨D,h1,h2⟩:=Ybt.mp ab;exact ⟨D,h1,h2⟩
  obtain ⟨b0,ad,rfl⟩:=Yq aa au;have av:b0=D.1:=by
   rw [Yay,ac] at ad;exact (Ybk ad).symm
  subst av;have of:h1.get? f=some (W.kla_obj "<lambda>" qual params (.Subscript (.Subscript (.Name y p1) (.Name x p2) p5) (.Constant (.int 0) d2 p6) p7) scope [(y,cc)] pm c ctv):=(I1.hok f _ ef).1;have aw:h1.get? c=some oc:=(I1.hok c _ ec).1;refine Yi (s:={ s with heap:=h1,toks:=tk }) (x:=x) jJ of ⟨c,oc,ao,tq,rfl,aw,ap,aq⟩ (I1.ok.mod.nolimit.keeps I1.bk) aj Y hk (U _ _ _) Z jX λh2 L k2 sz ax=>?_;have I2:Inv X qQ σ H { s with heap:=h2,toks:=tk+1 }:=B h2 (tk+1) λb o e=>k2 b o (kp b o e);obtain ⟨m,hm,lk⟩:=I2.loc;obtain ⟨u,ru,lu⟩:=lk j y _ hN eσ hv;cases ru;have ay:h2.IsCell cc (some (.ref nd)):=by
   rcases lu with ⟨z,_⟩ | ⟨_,c2,z1,z2⟩
   ·rw [ah] at z;cases z
   ·rw [ai] at z1;cases z1;exact z2
  obtain ⟨b,ys,gg,hb⟩:=ht D (Yaz ac);refine Subscript_ (Subscript_ (wpAny_Name (wpAny_loadName_free hk ak (by simp) ay ?_ an) am));refine wpAny_Name (wpAny_loadName_local hk Z ax (show (λz=>[(x,Value.ref D.1)].reverse.lookup z) x=some (.ref D.1) by simp) ?_) al;refine tail_any (ops:=[.ref nd,.ref D.1]) (Za0 I2 gg).1 PySem.F.slot_dict_getitem.lookup (Zk (s:={ s with heap:=h2,toks:=tk+1 }) (by show X.A.units+1+1+3+71<cLine;lia) I2 gg rfl λw' ae az=>?_) rfl;obtain rfl:w'=Value.ref b:=az;have I3:Inv X qQ σ H { s with heap:=h2,toks:=ae }:=B h2 ae λb o e=>k2 b o (kp b o e);obtain ⟨O,af,ag,a1⟩:=I3.tuple hb;obtain ⟨uk,gk,rk⟩:=af.get (show (V.int D.2::ys)[0]?=some (V.int D.2) from rfl);obtain ⟨tu,rfl⟩:=rk;have a3:0<O.length:=(Yal.mp gk).1;have a4:O.length<=sizeLine:=by rw [<-af.length];exact a1
  refine wpAny_Constant_int ?_;exact subscriptTail_builtinR (x:=.int D.2 tu) ag.typeIs slot_tuple_getitem.lookup (getItem_tuple (j:=0) (Q:=λr s'=>r=.int D.2 tu/\R r s') ag (by decide) (by decide) (by rw [Yas,seqIndex_of (by lia) (by lia)];rfl) (by simpa using gk) ⟨rfl,hR tu _ ⟨h2,_,rfl,λb o e=>k2 b o (kp b o e)⟩ sz λb o _ e=>k2 b o e⟩) rfl
 ·rintro s2 l out cn ⟨h1,tk,rfl,kp⟩ hl eL ⟨ps,pm,po,pw⟩;have ei:=Za4 aa;have ez:(ts.map (·.2)).zip its=ts.map λt=>(t.2,Value.ref t.1):=by
   rw [ei,Ydh,List.zip_map']
   rfl
  rw [ez] at pm;obtain ⟨qs,q1,rfl⟩:=JD pm;have eo:out.toList=(qs.map Prod.fst).map Value.ref:=by
   rw [po,Ydh,Ydh]
   rfl
  rw [Ybp] at pw;have a5:=q1.length_eq;refine ⟨.ref l,_,I.laid (a:=l) (o:=.lst (qs.map λt=>V.ref t.1)) (h':=h1) (t':=tk) kp hl ⟨by rw [Yac];lia,out.toList,cn,?_,by simpa [seqObj] using eL⟩,rfl,q l qs (I.hok.fresh hl) q1 pw⟩;rw [eo];have:=Um (qs.map Prod.fst);rw [Ydh] at this;exact this
end
noncomputable def Zdd (j:List AD)(H:Hp):Prop:=∀b,b ∉ j->H b=none\/∃o xs,H b=some (.frz o (.lst xs))
theorem Zm {K:FG}{cs:List (AD×AD)}(KX:K.In j.heap)(ae:j.heap.Ns mainGlobals mg)(D:j.heap.Ns builtinsNs mb)(aq:∀x:Str,x ≠ "__name__" -> mb x=bootBuiltins x)(af:j.heap.NoLimit)(hg:j.gens=#[])(C:∀t∈cs,W.CodeHd j.heap t.1 t.2)(hP:∀t∈cs,j.heap.get? t.2=some (W.tabObj #[]))(ar:∀t∈cs,K.lookup t.2=none)(hB:∀t∈cs,j.heap.BuiltinsAt mg t.2)(ha:j.heap.get? a=some { cls:=.type "list", data:=.seq vs.toArray })(hi:IntsAre vs ns)(hl:ns.length<=sizeLine)(hr:Room k callerA)(F:∀base:Heap,K.In base->base.Ns mainGlobals mg->(∀t∈cs,W.CodeHd base t.1 t.2/\base.BuiltinsAt mg t.2)->GG Pr w K mg base CX k fa fd [x] sp)(ac:∀(s:SS)(u:Aa),BindsTo s fd ⟨[u],[]⟩ [(x,u)])(as:∀H:Hp,Zdd (cs.map (·.2)) H->(∀t∈cs,H t.2=some (.tbl #[]))->SqL K H a (ns.map V.int)->sp [.ref a] H (λv _=>v=.bl true) λ_ _ _=>False)(au:∀H e s',CX [] H j (λ_ _ _=>False) e s'->False) :
  codeAny (model Pr w) callerA (.call (.ref fa) ⟨[.ref a],[]⟩) (λr s'=>r=.ok (.ret (.bool true))/\OldK j.heap s'.heap/\s'.os=j.os/\AllBare s'.gens) j:=by
 have rv:=UM hi;have ag:=hi.length;have U:∀b,b∈cs.map (·.2)->∃t∈cs,t.2=b:=λb D=>by
  obtain ⟨t,L,e⟩:=Yai.mp D;exact ⟨t,L,e⟩
 have Y:∀b,b∈cs.map (·.2)->j.heap.get? b=some (W.tabObj #[]):=λb D=>by
  obtain ⟨t,L,rfl⟩:=U b D;exact hP t L
 have ah:a ∉ cs.map (·.2):=λz=>by have:=Y a z;rw [ha] at this;cases this
 have aa:∀H:Hp,Zdd (cs.map (·.2)) H->(∀t∈cs,H t.2=some (.tbl #[]))->SqL K H a (ns.map V.int)->HOk Pr w H j.heap->(∀b,H b≠none->b=a\/b∈cs.map (·.2))->(H a≠none->K.lookup a=none) ->
   codeAny (model Pr w) callerA (.call (.ref fa) ⟨[.ref a],[]⟩) (λr s'=>r=.ok (.ret (.bool true))/\OldK j.heap s'.heap/\s'.os=j.os/\AllBare s'.gens) j:=by
  intro H hO ai hS aj hA hK;have B:∀{b:AD}{o:Obj},j.heap.get? b=some o->H b=none->(Zt j.heap H).get? b=some o:=λe n=>ZbE e n;have ak:∀{b:AD}{o:Obj},j.heap.get? b=some o->o.cls≠.type "list" -> o.cls≠.none->H b=none:=λ{b o} e d1 d2=>by
   cases q:H b with
   | none=>rfl
   | some u=>
    rcases hA b (by rw [q];simp) with e' | e'
    ·rw [e',ha] at e;cases e;exact absurd rfl d1
    ·rw [Y b e'] at e;cases e;exact absurd rfl d2
  have av:∀{b:AD}{o:Obj}{es:Array DictEntry}{ep:Nat},j.heap.get? b=some o->o.data=.dict es ep->H b=none:=λ{b o es ep} e d=>by
   cases q:H b with
   | none=>rfl
   | some u=>
    rcases hA b (by rw [q];simp) with e' | e'
    ·rw [e',ha] at e;cases e;cases d
    ·rw [Y b e'] at e;cases e;cases d
  have Z:∀{b:AD}{m:Str->Option Aa},j.heap.Ns b m->(Zt j.heap H).Ns b m:=λ{b m} ⟨o,es,ep,e,d,r⟩=>⟨o,es,ep,B e (av e d),d,r⟩;have al:K.In (Zt j.heap H):=λb o e=>B (KX b o e) (by
   cases q:H b with
   | none=>rfl
   | some u=>
    rcases hA b (by rw [q];simp) with e' | e'
    ·subst e';rw [hK (by rw [q];simp)] at e;cases e
    ·obtain ⟨t,L,rfl⟩:=U b e';rw [ar t L] at e;cases e)
  have hM:Mod K mg (Zt j.heap H):=⟨al,Z ae,⟨mb,Z D,aq⟩,let ⟨mc,h1,h2⟩:=af;⟨mc,Z h1,h2⟩⟩;have e0:Env0 Pr w K mg (Zt j.heap H) callerA [] j H:=⟨rfl,hM,λb o e=>Zdn e,Nat.le_of_eq (Zu _ _),trivial,λb D=>absurd (show b∈([]:List AD) from D) (by simp),aj,.of_eq hg⟩;have Cb:∀t∈cs,W.CodeHd (Zt j.heap H) t.1 t.2:=λt L=>by
   obtain ⟨o,ws,am,tf,ad,tg,aw,an,tt,e1,r1,r2⟩:=C t L;exact ⟨o,ws,am,tf,ad,tg,aw,an,tt,B e1 (ak e1 (by rw [r1];decide) (by rw [r1];nofun)),r1,r2⟩
  have Bb:∀t∈cs,(Zt j.heap H).BuiltinsAt mg t.2:=λt L=>by
   obtain ⟨bm,o,h1,h2,h3,h4,h5,h6,h7⟩:=hB t L;exact ⟨bm,o,h1,h2,h3,h4,B h5 (ak h5 (by rw [h6];decide) (by rw [h6];nofun)),h6,h7⟩
  refine codeAny_mono ((F _ al (Z ae) λt L=>⟨Cb t L,Bb t L⟩).run callerA [] j H ⟨[.ref a],[]⟩ [.ref a] [.ref a] _ _ hr e0 (ac j (.ref a)) (.cons rfl .nil) (as H hO ai hS)) λr s' h=>?_;cases r with
  | error e=>exact (au H e s' h).elim
  | ok fl=>
   cases fl with
   | next=>exact False.elim h
   | brk=>exact False.elim h
   | cont=>exact False.elim h
   | ret u=>
    obtain ⟨v,H',os,ao,un,ab,r',q⟩:=h;have q':v=.bl true:=q;subst q';obtain rfl:u=Value.bool true:=r';have ap:∀t∈cs,∃more:Array Aa,s'.heap.get? t.2=some { cls:=.none,data:=.fields (#[]++more) }:=λt L=>by
     obtain ⟨more,eP⟩:=un.tbls t.2 _ (ai t L);exact ⟨more,ab t.2 _ eP⟩
    have kp:∀b o,b ∉ cs.map (·.2)->j.heap.get? b=some o->s'.heap.get? b=some o:=λb o O e=>by
     cases q:H b with
     | none=>exact un.keep b o e q (by intro z;exact absurd (show b∈([]:List AD) from z) (by simp)) (by simp)
     | some u=>
      rcases hO b O with z | ⟨ob,xs,z⟩
      ·rw [q] at z;cases z
      ·have z2:=un.frzs b ob _ z;obtain ⟨e1,_⟩:=aj b _ z;obtain ⟨e2,_⟩:=ab b _ z2;rw [e] at e1;cases e1;exact e2
    refine ⟨rfl,⟨λb o e=>?_,λb o e=>?_⟩,os,ao⟩
    ·by_cases O:b∈cs.map (·.2)
     ·obtain ⟨t,L,rfl⟩:=U b O;obtain ⟨more,e2⟩:=ap t L;rw [hP t L] at e;cases e;exact .inr (.inl ⟨((C t L).tab (hP t L)).isCodeTable,rfl,#[],more,rfl,e2⟩)
     ·exact .inl (kp b o O e)
    ·by_cases O:b∈cs.map (·.2)
     ·obtain ⟨t,L,rfl⟩:=U b O;obtain ⟨more,e2⟩:=ap t L;exact ⟨_,e2⟩
     ·exact ⟨o,kp b o O e⟩
 cases hk:K.lookup a with
 | some o=>
  have e:=KX a o hk;rw [ha] at e;cases e;refine aa (λb=>if b∈cs.map (·.2) then some (.tbl #[]) else none) (λb D=>.inl (if_neg D)) (λt L=>if_pos (Yai.mpr ⟨t,L,rfl⟩)) (.inr ⟨_,vs.toArray,_,hk,rfl,rfl,rfl,by rw [Yas,ag];exact hl,by simpa using rv⟩) (λb u z=>?_) (λb z=>?_) λz=>absurd (if_neg ah) z
  ·by_cases D:b∈cs.map (·.2)
   ·have z':=(if_pos D).symm.trans z;cases z';exact Y b D
   ·have z':=(if_neg D).symm.trans z;cases z'
  ·by_cases D:b∈cs.map (·.2)
   ·exact .inr D
   ·exact absurd (if_neg D) z
 | none=>
  refine aa (λb=>if b∈cs.map (·.2) then some (.tbl #[]) else if b=a then some (.frz { cls:=.type "list", data:=.seq vs.toArray } (.lst (ns.map V.int))) else none) (λb D=>?_) (λt L=>if_pos (Yai.mpr ⟨t,L,rfl⟩)) (.inl (.inr ⟨{ cls:=.type "list", data:=.seq vs.toArray },(if_neg ah).trans (if_pos rfl)⟩)) (λb u z=>?_) (λb z=>?_) λ_=>hk
  ·by_cases N:b=a
   ·exact .inr ⟨_,_,(if_neg D).trans (if_pos N)⟩
   ·exact .inl ((if_neg D).trans (if_neg N))
  ·by_cases D:b∈cs.map (·.2)
   ·have z':=(if_pos D).symm.trans z;cases z';exact Y b D
   ·by_cases N:b=a
    ·have z':=((if_neg D).trans (if_pos N)).symm.trans z;cases z';subst N;exact ⟨ha,by rw [Yac];exact hl,vs,_,rv,ha⟩
    ·have z':=((if_neg D).trans (if_neg N)).symm.trans z;cases z'
  ·by_cases D:b∈cs.map (·.2)
   ·exact .inr D
   ·by_cases N:b=a
    ·exact .inl N
    ·exact absurd ((if_neg D).trans (if_neg N)) z
theorem walk_of2 {l:W.OpenLaw}{K:Params->FG}{CX:Ab->CXT}{sp:Ab->AD->AD->Sp}(hn:l.most=some n)(ab:n<=sizeLine)(ac:d.params.defaults=[])(hr:Room k callerA)(hY:∀(w:Ab)(h:Heap),YP w h->(K w.params).In h)(N:(recsOf q).find? (λe=>e.name == tn)=some dd)(B:(recsOf q).find? (λe=>e.name == tm)=some de)(F:∀(w:Ab)(mg:Str->Option Aa)(fa:AD)(h:Heap),(K w.params).In h->h.Ns mainGlobals mg->mg d.name=some (.ref fa) ->
   ∃(fd:FuncData)(c P c2 P2:AD),W.tabIn (K w.params) tn=some (c,P)/\(K w.params).lookup P=none/\W.tabIn (K w.params) tm=some (c2,P2)/\(K w.params).lookup P2=none/\P≠P2/\(∀(s:SS)(u:Aa),BindsTo s fd ⟨[u],[]⟩ [(x,u)]) /\
    ∀base:Heap,(K w.params).In base->base.Ns mainGlobals mg->W.CodeHd base c P->base.BuiltinsAt mg P->W.CodeHd base c2 P2->base.BuiltinsAt mg P2->GG l.prog w (K w.params) mg base (CX w) k fa fd [x] (sp w P P2))(ad:∀(w:Ab)(P P2:AD)(H:Hp)(a:AD)(ns:LI),ns.length<=n->H P=some (.tbl #[])->H P2=some (.tbl #[])->P≠P2->SqL (K w.params) H a (ns.map V.int)->sp w P P2 [.ref a] H (λv _=>v=.bl true) λ_ _ _=>False)(ae:∀(w:Ab)(H:Hp)(s:SS)(e:Aa)(s':SS),CX w [] H s (λ_ _ _=>False) e s'->False) :
  W.WalkO q j XP YP l.row.toRowW d [] (λf vs=>PySem.call f vs):=by
 refine Att.attach_call hn ac λw s₀ s₁ mg mb fa o pm cd aj a vs ns G Y ho hd ak af O D qV hg=>?_;have KX:=hY w _ Y;obtain ⟨fd,c,P,c2,P2,U,ag,L,Z,ah,hb,hF⟩:=F w mg fa _ KX G.T.g af;obtain ⟨C,hP⟩:=W.tab_of G.T KX N U;obtain ⟨C2,aa⟩:=W.tab_of G.T KX B L;have hB:∀P,s₁.heap.get? P=some (W.tabObj #[])->s₁.heap.BuiltinsAt mg P:=λP hP=>by
  obtain ⟨bm,ob,b1,b2,b3,b4,b5,b6⟩:=G.T.bmain;refine ⟨bm,ob,b1,b2,λz=>?_,λz=>?_,b3,b4,b5,b6⟩
  ·obtain ⟨o',es,ep,e,ai,_⟩:=G.T.g;rw [z,e] at b3;cases b3;rw [ai] at b6;cases b6
  ·rw [z,hP] at b3;cases b3;cases b4
 have two:∀{φ:AD×AD->Prop},φ (c,P)->φ (c2,P2)->∀t∈[(c,P),(c2,P2)],φ t:=λh1 h2 t ht=>by
  rcases Yav.mp ht with rfl | ht
  ·exact h1
  ·rw [Yaj.mp ht];exact h2
 exact Zm (cs:=[(c,P),(c2,P2)]) KX G.T.g G.T.b G.T.builtins G.T.nolimit hg (two C C2) (two hP aa) (two ag Z) (two (hB P hP) (hB P2 aa)) O D (Ybr qV ab) hr (λbase h1 h2 h3=>hF base h1 h2 (h3 (c,P) (by simp)).1 (h3 (c,P) (by simp)).2 (h3 (c2,P2) (by simp)).1 (h3 (c2,P2) (by simp)).2) hb (λH hO hT hS=>ad w P P2 H a ns qV (hT (c,P) (by simp)) (hT (c2,P2) (by simp)) ah hS) λH e s'=>ae w H s₁ e s'
section
variable {X:Cx}
theorem U5 (ns:LI):∀n:Nat,n<=ns.length->preSum (λi=>ns.getD i 0) n=(ns.take n).sum
 | 0,_=>rfl
 | n+1,h=>by
  show preSum _ n+ns.getD n 0=_;rw [U5 ns n (by lia),Ybx,List.sum_append,Yca,Yaw (by lia:n<ns.length)];simp
theorem ZhE (K:FG)(Z:X.calm=true)(h:X.K=K:=by rfl):JG X (.builtin "sum") (λxs H Q=>∃(p:AD)(ns:LI),xs=[.ref p]/\SqL K H p (ns.map V.int)/\Q (.int ns.sum) H):=by
 subst h;intro qQ s σ H xs us Q I rv h;obtain ⟨p,ns,rfl,hq,q⟩:=h;obtain ⟨u,rfl,ru⟩:=rv.one;cases ru;obtain ⟨its,r,pl,hz⟩:=I.list hq;have O:=r.length;rw [Yac] at O;have hh:X.A.in1.handled=none:=I.ok.hd Z;have j:s.heap.IsList p its.toArray:=pl.isList;obtain ⟨o,eo,_⟩:=id j;have B:p<s.heap.objs.size:=Yag eo;refine call_sum_walkAnyS (wpAny_pyIter_list j ?_);refine ⟨s.heap.objs.size,_,_,_,_,_,_,λi=>ns.getD i 0,rfl,(Walks.list hh s.heap.objs.size p (Yar B) its.toArray).toS,⟨⟨_,Ybb _ rfl,rfl,rfl⟩,?_⟩,?_,?_,λs' t' M=>?_⟩
 ·obtain ⟨o,e,c⟩:=j;exact ⟨o,Yah _ e,c⟩
 ·intro c L;show c<(s.heap.push _).objs.size;rw [Ybz];rcases Yav.mp L with z | z
  ·rw [z];exact Nat.lt_succ_self _
  ·rcases Yav.mp z with z | z
   ·rw [z];exact Ydw B
   ·cases z
 ·intro i v D;have D:its[i]?=some v:=by simpa using D
  have hi:i<its.length:=(Yal.mp D).1;obtain ⟨u,U,t,e⟩:=r.get (i:=i) (x:=.int (ns.getD i 0)) (by rw [Yay,Yaw (by lia:i<ns.length),Yca,Yaw (by lia:i<ns.length)];rfl);rw [D] at U;cases U;exact ⟨t,e⟩
 ·have es:preSum (λi=>ns.getD i 0) its.toArray.size=ns.sum:=by
   rw [Yas,<-O,U5 ns _ (Yae _),Ybu]
  rw [es];obtain ⟨h',g',d',N,o'⟩:=s';have e1:g'=s.gens:=M.gens;have e2:d'=s.drawn:=M.drawn;have e3:o'=s.os:=M.os;subst e1 e2 e3;refine ⟨.int ns.sum,H,I.kept (t':=N) λc o Y=>M.heap c o (λz=>?_) (Yah _ Y),⟨t',rfl⟩,q⟩;have:c=s.heap.objs.size:=by simpa using z
  exact absurd (Yag Y) (by rw [this];exact Ych _)
end
section
variable {prog:PP}{w:Ab}{A:Around}{E:Aa->SS->Prop}{s:SS}
theorem Zeh (a v:Aa):checkTypeCall "enumerate" ⟨[a],[(Str.ofString "start", v)]⟩=pure ():=by kernel_rfl
theorem Zfx (a v:Aa):checkBuiltinCall "enumerate.__new__" ⟨[.type "enumerate", a],[(Str.ofString "start", v)]⟩=pure ():=by kernel_rfl
theorem Zn (O:s.heap.IsList l items)(h:∀h',IsEnum h' (s.heap.objs.size+1) s.heap.objs.size 2 .none->h'.IsListIter s.heap.objs.size l 0->h'.objs.size=s.heap.objs.size+2 ->
   (∀b o,s.heap.get? b=some o->h'.get? b=some o)->Q (.ref (s.heap.objs.size+1)) { s with heap:=h' }) :
  wpAny (model prog w) A (call (.type "enumerate") [.ref l] [(Str.ofString "start", .int 2 t)]) Q E s:=by
 have T:=F.called_enumerate;obtain ⟨c,tl,U⟩:=T.mro;have B:=T.made;have Y:=T.sub;have h1:=T.notType;have h2:=T.canCreate;have e1:=Zeh (.ref l) (.int 2 t);have e2:=Zfx (.ref l) (.int 2 t);refine wpAny_call (codeAny_of_tree (Yab ⟨Code.quiet_builtin _ (by decide +kernel),Ycz F.entry_type_call ?_⟩))
 wp_walk
 obtain ⟨⟨c0,aa,dt,sl⟩,Z,D,n,L⟩:=id O
 replace D:c0=.type "list" := D
 replace L:dt=.seq items n:=L
 subst D L;obtain ⟨j,g,d,tk,os⟩:=s;refine codeAny_call_builtin T.plain F.entry_enumerate_new (wpAny_of_eq e2 ?_);have ab:=sub_enumerate;have ac:=T.init.lookup;have N:∀q:Aa,argsOk "object.__init__" ⟨[q,.ref l],[(Str.ofString "start", .int 2 t)]⟩:=λq=>by unfold argsOk;kernel_rfl
 have fin:Q (.ref (j.push { cls:=.type "list_iterator", data:=.fields #[.ref l,.int 0 0] }).objs.size) ⟨(j.push { cls:=.type "list_iterator", data:=.fields #[.ref l,.int 0 0] }).push { cls:=.type "enumerate", data:=.fields #[.none,.bool false,.ref j.objs.size,rawInt 2,.none,.none] },g,d,tk,os⟩:=by
  have hz:=Ybz j { cls:=.type "list_iterator", data:=.fields #[.ref l,.int 0 0] };have he:=Ybb (j.push { cls:=.type "list_iterator", data:=.fields #[.ref l,.int 0 0] }) (o:={ cls:=.type "enumerate", data:=.fields #[.none,.bool false,.ref j.objs.size,rawInt 2,.none,.none] }) rfl;rw [hz] at he ⊢;exact h _ he ⟨_,Yah _ (Ybb _ rfl),rfl,rfl⟩ (by rw [Ybz,hz]) λb o x=>Yah _ (Yah _ x)
 wp_walk using AutoSeq1.wpAny_loadPart' Z
 refine wpAny_stack_any λst=>Yab ?_;split;rename_i cc _ _ _ _ _;cases (cc == Value.type "enumerate")
 all_goals
  wp_walk using AutoSeq1.wpAny_loadPart' Z,wpAny_pyIter_list O
  refine wpAny_of_eq (T.init.bind _) ?_
  wp_walk
  refine codeAny_call_builtin T.init.plain F.entry_object_init (T.init.check _ _ _ _ _ _ _ _ ⟨_,Ybb _ rfl,rfl⟩ (N _) ?_)
  wp_walk
  exact fin
end
section
variable {prog:PP}{w:Ab}{A:Around}
theorem VC {it:AD}{fp:List AD}{n:Nat}{P:Nat->Aa->Prop}{St:Nat->Heap->Prop}(D:Draws prog w A it fp n P St)(k:Nat):Draws prog w A it fp (n+k) (λi x=>k<=i/\P (i-k) x) (λi h=>k<=i/\St (i-k) h) where
 live:=λi h st=>D.live _ _ st.2
 frame:=λi h h' st q=>⟨st.1,D.frame _ _ _ st.2 q⟩
 item:=λi s Q E hi st q=>D.item (i-k) s Q E (by have:=st.1;lia) st.2 λx h' tk p st' sb=>q x h' tk ⟨st.1,p⟩ ⟨by have:=st.1;lia,by have:=st.1;rw [show i+1-k=i-k+1 by lia];exact st'⟩ sb
 done:=λs Q E st q=>D.done s Q E (by have:=st.2;rwa [Nat.add_sub_cancel] at this) q
end
section
variable {X:Cx}
noncomputable def ZhF (K:FG)(a:AD):It:=
 ⟨λi H=>∃xs x,SqL K H a xs/\xs[i]?=some x,λi H x H'=>∃T y,x=.ref T/\H T=none/\H'=upd H T (.tup [.int ((i:Nat)+2),y])/\∀xs,SqL K H a xs->xs[i]?=some y,λi H=>∃xs,SqL K H a xs/\xs.length=i⟩
theorem Zo {P:PP}{w:Ab}{K:FG}{elts:List Expr}{k:Nat}{pos:Pos}(a e it:AD)(hne:e≠it)(hea:e≠a)(hia:a≠it) :
  ZcP P w K (.Tuple elts k pos) (ZhF K a) [e,it] e (λi h=>(∃old,IsEnum h e it (((i+2:Nat)):Int) old)/\h.IsListIter it a i) where
 mem:=by simp
 obj:=λi h st b hb=>by
  obtain ⟨⟨old,he⟩,⟨o,ei,c,d⟩⟩:=st;rcases Yav.mp hb with rfl | hb
  ·exact ⟨_,he,λv z=>by
    have z':Data.fields _=Data.cell v:=z;cases z'⟩
  ·have eb:b=it:=by simpa using hb
   subst eb;exact ⟨o,ei,λv z=>by rw [d] at z;cases z⟩
 keep:=λi h h' st q=>by
  obtain ⟨⟨old,he⟩,hi⟩:=st;exact ⟨⟨old,q e (by simp) _ he⟩,hi.at λo ho=>q it (by simp) o ho⟩
 item:=by
  intro X hP hw hK hc i qQ s σ H E I hf st hg;subst hP hw hK;obtain ⟨xs,x,hq,hx⟩:=hg;obtain ⟨its,rv,p,hz⟩:=I.list hq;obtain ⟨u,hu,ru⟩:=rv.get hx;obtain ⟨⟨old,he⟩,hit⟩:=st;have hh:X.A.in1.handled=none:=I.ok.hd hc;have hil:i<its.length:=(Yal.mp hu).1;refine wpAny_pyNext_enum_itemD (VC (Draws.list hh it a hia its.toArray) 2) he ⟨by lia,by rw [Nat.add_sub_cancel];exact ⟨hit,p.isList⟩⟩ (by rw [Yas];lia) hne (by simp [hne,hea]) λx' h1 tk px heo hit1 ht1 hz1 hk1=>?_;have ex:x'=u:=by
   have:=px.2;rw [Nat.add_sub_cancel] at this;have:its[i]?=some x':=by simpa using this
   rw [hu] at this;exact (Ybk this).symm
  subst ex;have hit1:h1.IsListIter it a (i+1):=by
   have:=hit1.2.1
   rwa [show i+2+1-2=i+1 by lia] at this
  refine ⟨_,rfl,wpAny_letOwnedTupleGo_enum (s:={ s with heap:=h1,toks:=tk+1 }) heo λh2 he2 hs2=>?_⟩;have hs2':Heap.SameBut e h1 h2:=hs2;have hfr:H s.heap.objs.size=none:=I.fresh;have hel:e<s.heap.objs.size:=Yag he;have kk:∀b o,b ∉ [e,it]->s.heap.get? b=some o->h2.get? b=some o:=λb o hb q=>by
   have n1:b≠e:=λz=>hb (by simp [z]);have n2:b≠it:=λz=>hb (by simp [z]);exact (hs2'.2 b n1).trans (hk1 b o n1 n2 q)
  have nT:∀b o,s.heap.get? b=some o->b≠s.heap.objs.size:=λb o q=>Yar (Yag q);have trk:∀c u,H c=some u->c ∉ [e,it]:=λc u q z=>by
   rw [(hf c z).1] at q;cases q
  refine ⟨.ref s.heap.objs.size,upd H s.heap.objs.size (.tup [.int ((i:Nat)+2),x]),I.call' (ch:=[e,it]) rfl ⟨λb o q _ _ hb=>kk b o hb q,λb o q _ _ hb=>⟨o.slots,kk b o hb q⟩,λb o q n _=>by rw [Gi (nT b o q)];exact n,
   λb o q hb=>⟨o,kk b o hb q⟩,λb ys q=>by rw [Gi (Gh q hfr)];exact q,λb o u q=>by rw [Gi (Gh q hfr)];exact q,λb ps q=>⟨#[],by rw [Gi (Gh q hfr),q];simp⟩⟩ (λb v q=>?_) I.bare (λb hb=>?_),
   rfl,⟨_,x,rfl,hfr,rfl,λys hy=>by rw [I.list_inj hy hq];exact hx⟩,⟨⟨_,by rw [show ((i+1+2:Nat):Int)=((i+2:Nat):Int)+1 by lia];exact he2⟩,hit1.extBut hs2'.extBut (Ne.symm hne)⟩,λb hb=>?_⟩
  ·by_cases hb:b=s.heap.objs.size
   ·subst hb;rw [Gb] at q;cases q;exact ⟨by have h16:=Ybd.symm;rw [<-h16];show 2<=16777216;lia,[.int ((i:Nat)+2) tk,x'],.cons ⟨_,rfl⟩ (.cons ru .nil),⟨_,(hs2'.2 _ (Ydj hel)).trans ht1,rfl,_,rfl⟩⟩
   ·rw [Gi hb] at q;refine (I.hok b v q).stay (λc v' hc z=>kk c v' ?_ z) (λc z=>by rw [Gi (Gh z hfr)];exact z) λc ys z=>by rw [Gi (Gh z hfr)];exact z
    rcases hc with rfl | hc
    ·exact trk _ _ q
    ·exact trk _ _ hc
  ·obtain ⟨f0,f1,f2,f3,f4,f5⟩:=hf b hb;exact ⟨f3,f1,f4,f5⟩
  ·have ho:∃o,s.heap.get? b=some o:=by
    rcases Yav.mp hb with rfl | hb
    ·exact ⟨_,he⟩
    ·have eb:b=it:=by simpa using hb
     subst eb;obtain ⟨o,ei,_⟩:=hit;exact ⟨o,ei⟩
   obtain ⟨o,ho⟩:=ho;rw [Gi (nT b o ho)];exact (hf b hb).1
 done:=by
  intro X hP hw hK hc i qQ s σ H E I hf st hg;subst hP hw hK;obtain ⟨xs,hq,hx⟩:=hg;obtain ⟨its,rv,p,hz⟩:=I.list hq;obtain ⟨⟨old,he⟩,hit⟩:=st;obtain ⟨f0,f1,f2,f3,f4,f5⟩:=hf it (by simp);have hl:=rv.length;have hh:X.A.in1.handled=none:=I.ok.hd hc;exact wpAny_pyNext_enum_endD (VC (Draws.list hh it a hia its.toArray) 2) he ⟨by lia,by rw [Nat.add_sub_cancel,Yas];exact ⟨by rw [<-hl,hx];exact hit,p.isList⟩⟩ λh' eb=>⟨rfl,I.turned (t':=s.toks) (λb o hb q=>eb b o hb q) f0 f1 f3 f4 f5⟩
 self:=λ_ _ _ _ _ ⟨⟨_,he⟩,_⟩ h=>wpAny_pyIter_enum he h
noncomputable def Zfy (K:FG)(ta:TA):TI:=λσ H R=>ta σ H λvs H1=>∃a xs,vs=[.ref a]/\SqL K H1 a xs/\R (ZhF K a) H1
theorem Zfz (K:FG)(Z:Gl X "enumerate")(hm:X.mg "enumerate" = none)(ha:PA X [l] ta)(h:X.K=K:=by rfl)(N:backTo pos (starEach [l] X.env)=(false,eval l X.env)::backTo pos (starEach [] X.env):=by rfl) :
  PI X (.Tuple B k Y) (.Call (.Name "enumerate" p) [l] [⟨some "start", .Constant (.int 2) d2 p2,kp⟩] pos) (Zfy K ta):=by
 subst h;intro qQ s σ H R I h;refine Yeg (OB I Z hm boot_enumerate ?_);unfold callWith;refine Yaa (Ycd ?_);rw [N];refine PyProof.Rows.evalArgs_kwB rfl ?_;rw [<-N];refine thG (ha pos qQ s σ H _ I h) λus s1 vs H1 I1 r1 q1=>?_;obtain ⟨a,xs,e,hq,q⟩:=q1;subst e;obtain ⟨u,rfl,ru⟩:=r1.one;cases ru;refine PyProof.Rows.kws_cons (thG (Gd qQ s1 σ H1 (λv H'=>v=.int 2/\H'=H1) I1 ⟨rfl,rfl⟩) λw1 j z H2 L rz ⟨ez,eH⟩=>PyProof.Rows.kws_nil ?_);subst ez eH;obtain ⟨t2,rfl⟩:=rz;obtain ⟨its,rv,O,hz⟩:=L.list hq
 wp_walk
 have D:((backTo pos (starEach [l] X.env)).any λx=>x.fst)=false:=by rw [N];rfl
 rw [D];refine Yaa (Zn O.isList λh' U hI aa hk=>Yaa (Ycd (wpAny_point (Yab ?_))));refine wpAny_pyIter_enum U ?_;have ab:a<j.heap.objs.size:=by obtain ⟨o,e,_⟩:=O.isList;exact Yag e
 refine ⟨j.heap.objs.size+1,[j.heap.objs.size+1,j.heap.objs.size],_,_,H2,rfl,L.kept (t':=j.toks) hk,Zo a _ _ (Nat.succ_ne_self _) (by lia) (by lia),⟨⟨_,U⟩,hI⟩,λb D=>?_,q⟩;have e:j.heap.objs.size<=b:=by
  rcases Yav.mp D with rfl | D
  ·exact Yde _
  ·have eb:b=j.heap.objs.size:=by simpa using D
   rw [eb];exact Yae _
 exact L.fpOk e (L.hok.fresh e)
theorem Zp {K:FG}(j:Nat->List V->Hp->Prop)(h0:j 0 [] (upd H1 D (.lst [])))(B:∀i ys H,i<=xs.length->j i ys H->SqL K H a xs)(U:∀i x ys H T,xs[i]?=some x->j i ys H->H T=none->g (.ref T) q (upd H T (.tup [.int ((i:Nat)+2),x])) λL Y=>JJ q L/\tc L Y λb N=>if b=true then te L N λy O=>O D=some (.lst ys)/\ys.length<sizeLine/\j (i+1) (ys++[y]) (upd O D (.lst (ys++[y]))) else j (i+1) ys N)(Z:∀ys H,j xs.length ys H->R H):Vn (ZhF K a) D g tc te q R H1:=OG j h0 (λi s H hi p=>⟨λz=>⟨xs,xs[i],B i s H hi p,by simp [z]⟩,λe=>⟨xs,B i s H hi p,by lia⟩⟩) (λi s H x H' z p y=>by obtain ⟨T,y',rfl,hT,rfl,y⟩:=y;exact U i y' s H T (y xs (B i s _ (Ycw z) p)) p hT) Z
end
end L2
namespace L2
open PySem PySem.Spec PyProof.Rows Classical
noncomputable def JU (a b:Int×LI):Bool:=decide (a.1<b.1) || (decide (a.1=b.1) && GE a.2 b.2)
theorem plt_iff :JU a b=true↔a.1<b.1\/(a.1=b.1/\GE a.2 b.2=true):=by simp [JU]
theorem U6 (a:Int×LI):JU a a=false:=by simp [JU,Jg]
theorem Za5 (h1:JU a b=true)(h2:JU b c=true):JU a c=true:=by
 rcases plt_iff.mp h1 with h1 | ⟨h1,j⟩ <;> rcases plt_iff.mp h2 with h2 | ⟨h2,q⟩
 ·exact plt_iff.mpr (.inl (by lia))
 ·exact plt_iff.mpr (.inl (by lia))
 ·exact plt_iff.mpr (.inl (by lia))
 ·exact plt_iff.mpr (.inr ⟨by lia,Oy j q⟩)
theorem XA (h1:JU a b=false)(h2:JU b a=false):a=b:=by
 have h1:(a.1<b.1\/(a.1=b.1/\GE a.2 b.2=true))->False:=λz=>by rw [plt_iff.mpr z] at h1;cases h1
 have h2:(b.1<a.1\/(b.1=a.1/\GE b.2 a.2=true))->False:=λz=>by rw [plt_iff.mpr z] at h2;cases h2
 have e:a.1=b.1:=by
  rcases Int.lt_trichotomy a.1 b.1 with h | h | h
  ·exact (h1 (.inl h)).elim
  ·exact h
  ·exact (h2 (.inl h)).elim
 refine Prod.ext e ?_;cases k1:GE a.2 b.2 with
 | true=>exact (h1 (.inr ⟨e,k1⟩)).elim
 | false=>
  cases k2:GE b.2 a.2 with
  | true=>exact (h2 (.inr ⟨e.symm,k2⟩)).elim
  | false=>exact Oj k1 k2
noncomputable def IsPL (h:Heap)(a:AD)(x:Int×LI):Prop:=∃(b:AD)(t:Tok)(its:Array Aa),h.IsTuple a #[.int x.1 t,.ref b]/\h.IsList b its/\IntsAre its.toList x.2
theorem IsPL.one (h1:IsPL h a x)(h2:IsPL h a y):x=y:=by
 obtain ⟨b,t,its,j,p2,q⟩:=h1;obtain ⟨c,u,B,D,L,N⟩:=h2;have e:=U1 j D;simp only [Array.mk.injEq,List.cons.injEq,Value.int.injEq,Value.ref.injEq,and_true] at e;obtain ⟨⟨O,_⟩,rfl⟩:=e;have:=Vz p2 L;subst this;exact Prod.ext O (Wa q N)
noncomputable def Zei (h:Heap)(v:Aa):Int×LI:=if q:∃x a,v=.ref a/\IsPL h a x then choose q else (0,[])
theorem Wm (B:IsPL h a x):Zei h (.ref a)=x:=by
 have q:∃x j,Value.ref a=.ref j/\IsPL h j x:=⟨x,a,rfl,B⟩;unfold Zei;rw [dif_pos q];obtain ⟨j,e,h1⟩:=choose_spec q;cases e;exact h1.one B
theorem ZhG (h:Heap):WO (λx y=>JU (Zei h x.1) (Zei h y.1)):=Yd (κ:=λx:Keyed=>Zei h x.1) (lt:=JU) U6 Za5 XA
theorem IsPL.keep (k:∀c o,h.get? c=some o->h'.get? c=some o)(p:IsPL h a x):IsPL h' a x:=by
 obtain ⟨b,t,its,⟨o,e,r⟩,⟨o',j,r'⟩,q⟩:=p;exact ⟨b,t,its,⟨o,k _ _ e,r⟩,⟨o',k _ _ j,r'⟩,q⟩
section
variable {prog:PP}{w:Ab}{A:Around}{E:Aa->SS->Prop}{s:SS}
theorem ZhH (U:IsPL s.heap a x)(Y:IsPL s.heap c y)(Z:A.in1.units+64<cLine)(q:Q (JU x y) s):wpAny (model prog w) A.in1 (keyLt' (tuples' true) (.ref a) (.ref c)) Q E s:=by
 obtain ⟨b1,t1,i1,⟨o1,g1,_,n1,d1⟩,D,O⟩:=U;obtain ⟨b2,t2,i2,⟨o2,g2,_,n2,d2⟩,N,p2⟩:=Y;refine W.kat_lt g1 d1 g2 d2 ?_;refine W.kat_cons (wpAny_eqBool_int (W.kat_go (λL=>W.kat_yes (W.kat_cons (W.keq_ints (A:=A) (vs:=i1.toList) (us:=i2.toList) D O N p2 Z prog w _ _ (W.kat_go (λj=>W.kat_yes (W.kat_nil ?_)) λj=>W.kat_no ?_)))) λL=>W.kat_no ?_))
 ·have B:x.1=y.1:=by simpa using L
  have e2:x.2=y.2:=Ybv j;have:JU x y=false:=by rw [Prod.ext B e2];exact U6 y
  rw [this] at q;simpa using q
 ·have B:x.1=y.1:=by simpa using L
  have:JU x y=GE x.2 y.2:=by simp [JU,B]
  rw [this] at q;refine W.kat_one _ _ ?_;exact wpAny_richCompare_same_room (op:=.Lt) D.typeIs N.typeIs F.slot_list_lt (call_meets F.slot_list_lt D.typeIs F.entry_list_lt (F.args_list_lt_2 _ _) (Yc b1 b2 i1.toList i2.toList x.2 y.2 0 0 O p2) ⟨D,N,(λe=>nomatch e),q⟩) (by lia)
 ·have B:x.1≠y.1:=by simpa using L
  have:JU x y=decide (x.1<y.1):=by simp [JU,B]
  rw [this] at q;exact oneLt_int q
end
noncomputable abbrev PL:=AD×AD×(Int×LI)
section
variable {X:Cx}(K:FG)
noncomputable def Za6:List V->Hp->VK->Prop:=λxs H Q=>∃(p:AD)(zs:List PL),xs=[.ref p]/\SqL K H p (zs.map λz=>V.ref z.1)/\(∀z∈zs,SqT K H z.1 [.int z.2.2.1,.ref z.2.1]/\SqL K H z.2.1 (z.2.2.2.map V.int)) /\
 ∀(l:AD)(zs':List PL),H l=none->zs'.Perm zs->(zs'.map (·.2.2)).Pairwise (λa b=>JU b a=false)->Q (.ref l) (upd H l (.lst (zs'.map λz=>V.ref z.1)))
theorem Za7:∀{zs:List PL}{its:LW},Vals (zs.map λz=>V.ref z.1) its->its=zs.map λz=>Value.ref z.1
 | [],_,h=>by cases h;rfl
 | z::zs,_,h=>by
  cases h with
  | cons r h=>
   cases r;rw [Za7 h]
   rfl
theorem Za8:∀(zs:List PL),Vals (zs.map λz=>V.ref z.1) (zs.map λz=>Value.ref z.1)
 | []=>.nil
 | z::zs=>.cons rfl (Za8 zs)
theorem Za9 (hu:X.A.units+71<cLine)(h:X.K=K:=by rfl):JG X (.builtin "sorted") (Za6 K):=by
 subst h;intro qQ s σ H xs us Q I rv h;obtain ⟨p,zs,rfl,hq,hz,q⟩:=h;obtain ⟨u,rfl,ru⟩:=rv.one;cases ru;obtain ⟨its,r,pl,L⟩:=I.list hq;have hl:=r.length;rw [Yac] at hl L;have ei:=Za7 r;have key:∀z∈zs,IsPL s.heap z.1 z.2.2:=λz j=>by
  obtain ⟨iz,rz,pz,_⟩:=I.tuple (hz z j).1;obtain ⟨il,rl,aa,_⟩:=I.list (hz z j).2;obtain ⟨u,v,rfl,⟨t,rfl⟩,rv⟩:=rz.two;cases rv;exact ⟨z.2.1,t,il.toArray,pz,aa.isList,JQ rl⟩
 have N:∀v∈its,∃a x,v=.ref a/\IsPL s.heap a x:=λv Z=>by
  rw [ei] at Z;obtain ⟨z,j,rfl⟩:=Yai.mp Z;exact ⟨z.1,_,rfl,key z j⟩
 have O:∀(h':Heap),(∀c o,s.heap.get? c=some o->h'.get? c=some o)->∀vs:LW,(∀v∈vs,∃a x,v=.ref a/\IsPL s.heap a x)->∃fs:LW,W.KatTups h' vs fs/\fs.length=vs.length/\∀f∈fs,∃i t,f=.int i t:=by
  intro h' k vs
  induction vs with
  | nil=>intro _;exact ⟨[],.nil,rfl,λf U=>by cases U⟩
  | cons v vs ih=>
   intro h;obtain ⟨fs,h1,h2,h3⟩:=ih λx Y=>h x (Ybf _ Y);obtain ⟨a,x,rfl,px⟩:=h v (Ybj ..);obtain ⟨b,t,it,⟨o,e,c,n,d⟩,_⟩:=px.keep k;refine ⟨.int x.1 t::fs,.cons e c d rfl h1,by simp [h2],λf U=>?_⟩;rcases Yav.mp U with rfl | U
   ·exact ⟨_,t,rfl⟩
   ·exact h3 f U
 refine Ub (kd:=tuples' true) (good:=λx=>∃a y,x.1=.ref a/\IsPL s.heap a y) (ZhG s.heap) pl.isList (by lia) N (λh' k h2 E' R q=>?_) (λh' k=>WX λx y gx gy E' Q q=>?_) λout hp hr=>?_
 ·obtain ⟨fs,t1,t2,t3⟩:=O h' k its N;exact W.kat_kind (T:=.type "int") t1 (by lia) (λv Z=>by obtain ⟨i,t,rfl⟩:=t3 v Z;exact .now) rfl q
 ·obtain ⟨a,y1,e1,h1⟩:=gx;obtain ⟨c,y2,e2,h2⟩:=gy;simp only [e1,e2,Wm h1,Wm h2] at q ⊢;exact ZhH (A:=X.A.in1) (h1.keep k) (h2.keep k) (by rw [Ydm,Ydm];lia) q
 ·obtain ⟨o1,o2,o3⟩:=UA hp;obtain ⟨e,he⟩:=sortedAll_at s.heap its (out.map (·.2));rw [ei] at o1;obtain ⟨D,p1,p2⟩:=JD o1;have ps:(D.map (·.2.2)).Pairwise (λa b=>JU b a=false):=by
   have a1:=Jq hr o3;have a2:(out.toList.map (·.2)).Pairwise (λu v=>JU (Zei s.heap v) (Zei s.heap u)=false):=by
    rw [Ybp];refine a1.imp_of_mem λ{x y} Y hy B=>?_;rw [<-(o2 x Y).1,<-(o2 y hy).1];exact B
   rw [Yfo] at p2;rw [<-p2,Ybp] at a2;rw [Ybp];refine a2.imp_of_mem λ{x y} Y hy B=>?_;rw [Wm (key x (p1.mem_iff.mp Y)),Wm (key y (p1.mem_iff.mp hy))] at B;exact B
  refine ⟨.ref _,_,I.laid (a:=s.heap.objs.size+1) (t':=s.toks) (o:=.lst (D.map λz=>V.ref z.1)) (λb o e=>sortedAll_old e) (Yde _) ⟨by rw [Yac,p1.length_eq];exact L,(out.map (·.2)).toList,e,by rw [<-p2];exact Za8 D,he⟩,rfl,q _ _ (I.hok.fresh (Yde _)) p1 ps⟩
end
end L2
namespace L2
open PySem PySem.Spec PyProof.Rows
section
variable {X:Cx}{a b e:Expr}{ta tb te:TE}{pos p:Pos}
theorem gIx (h:IxR X r)(ha:PE X a ta)(j:PE X b tb)(q:ZT b:=by exact λ_ _=>rfl):PE X (.Subscript a b pos) (tOp r ta tb):=Zhl h ha j q
theorem gDg (j:X.A.units+1<cLine)(ha:PE X a ta)(q:PE X b tb)(B:Zff b:=by exact λ_ _=>rfl):PE X (.Subscript a b pos) (ZdO ta tb):=ZdQ j ha q B
theorem gB1 {id:String}(q:JG X (.builtin id) r)(B:X.mg x=none)(D:bootBuiltins x=some (.builtin id))(L:PE X e te)(N:Gl X x:=by rfl)(h1:x ≠ "__name__" := by decide)(h2:(x == ("__debug__" : Str))=false:=by decide)(j:starEach [e] X.env=(false,eval e X.env)::starEach [] X.env:=by rfl)(O:(backTo pos (starEach [] X.env)).any (·.1)=false:=by rfl):PE X (.Call (.Name x p) [e] [] pos) (tCB r (UJ te ZL)):=Jb q N B D (Ga L Ge j) h1 h2 j O
theorem gT1 (q:JG X (.type T) r)(B:X.mg x=none)(D:bootBuiltins x=some (.type T))(L:PE X e te)(N:Gl X x:=by rfl)(h1:x ≠ "__name__" := by decide)(h2:(x == ("__debug__" : Str))=false:=by decide)(j:starEach [e] X.env=(false,eval e X.env)::starEach [] X.env:=by rfl)(O:(backTo pos (starEach [] X.env)).any (·.1)=false:=by rfl):PE X (.Call (.Name x p) [e] [] pos) (tCB r (UJ te ZL)):=ZP q N B D (Ga L Ge j) h1 h2 j O
theorem gCm (h:OpR X (compareOp op) r)(ha:PE X a ta)(j:PE X b tb)(q:behindInMarks op b=false:=by exact ZcR _):PT X (.Compare a [op] [b] pos) (ZeW (tOp r ta tb)):=ZE h ha j q
theorem gCe (h:OpR X (compareOp op) r)(ha:PE X a ta)(j:PE X b tb)(q:behindInMarks op b=false:=by exact ZcR _):PE X (.Compare a [op] [b] pos) (tOp r ta tb):=Zdu h ha j q
theorem gSt (i:Nat)(j:X.N.Nodup)(q:PE X e te)(hi:X.N[i]?=some x:=by rfl)(B:Loc X.env.scope x:=by first | exact .inl rfl | exact .inr rfl)(D:swapsWith e (some (.Name x pos')) pos.line X.env=pure false:=by rfl)(L:X.fn x=true\/X.env.scope.names.lookup x=some .local:=by first | exact .inl rfl | exact .inr rfl):PS X (.Assign [.Name x pos'] e pos) (ZgK te (Gv i)):=Zv j hi B q D L
theorem gNm (i:Nat)(j:X.N.Nodup)(hi:X.N[i]?=some x:=by rfl)(q:Loc X.env.scope x:=by first | exact .inl rfl | exact .inr rfl)(B:X.fn x=true\/X.env.scope.names.lookup x=some .local:=by first | exact .inl rfl | exact .inr rfl):PG X (.Name x pos) (Gv i):=Zdp j hi q B
theorem gCa (G:GG X.prog X.w X.K X.mg X.base CX k f fd ps sp)(j:X.mg x=some (.ref f))(q:W.keepIn X.K (.ref f)=true)(B:Binds X.K fd ps [])(D:Oo CX X E)(ha:PA X (e::es) t)(L:Room k X.A:=by exact Room.mono (by assumption) (by decide))(N:Gl X x:=by rfl)(h1:(x == ("__debug__" : Str))=false:=by decide)(h2:starEach (e::es) X.env=(false,eval e X.env)::starEach es X.env:=by rfl)(O:(backTo pos (starEach es X.env)).any (·.1)=false:=by rfl):PE X (.Call (.Name x p) (e::es) [] pos) (Zdz sp [] E t):=VJ G L N j q B .nil D ha h1 h2 O
theorem gSc (fr:List (Str×Nat))(h1:closureFor scope X.env=pure cl:=by rfl)(h2:(relabel scope X.env).names=L:=by rfl)(j:∀y∈scope.names,y.2≠.cell:=by decide +kernel)(q:scope.kind=.function:=by rfl)(B:∀y∈scope.names,y.2=.local->scope.names.lookup y.1=some .local:=by decide +kernel)(D:AllP (λp=>X.env.cells.lookup p.1=some p.2) cl:=by repeat' first | exact trivial | refine ⟨rfl,?_⟩)(O:AllP (λp=>p.2=.cell\/p.2=.free->∃c,cl.lookup p.1=some c) L:=by repeat' first | exact trivial | refine ⟨λ_=>⟨_,rfl⟩,?_⟩ | refine ⟨λh=>Zhs h,?_⟩)(U:AllP (λp=>X.N[p.2]?=some p.1/\(X.env.kindOf p.1=some .cell\/X.env.kindOf p.1=some .free)/\(L.lookup p.1=some .cell\/L.lookup p.1=some .free)) fr:=by repeat' first | exact trivial | refine ⟨⟨rfl,.inl rfl,.inl rfl⟩,?_⟩):Jn X scope cl own fr:=Vc L h1 h2 j q B D O U
theorem gSp (h1:∀y∈scope.names,y.2≠.free:=by decide +kernel)(h2:∀y∈scope.names,y.2≠.cell:=by decide +kernel)(j:scope.kind=.function:=by rfl)(q:∀y∈scope.names,y.2=.local->scope.names.lookup y.1=some .local:=by decide +kernel):Jn X scope [] own []:=UN h1 h2 j q
end
theorem xe {α:Type}{q r:α->Prop}{a:α}(h1:q a)(h2:r a):∃x,q x/\r x:=⟨a,h1,h2⟩
theorem xd {α β:Type}{q s r:α->β->Prop}{a:α}{b:β}(h1:q a b)(h2:s a b)(j:r a b):∃x y,q x y/\s x y/\r x y:=⟨a,b,h1,h2,j⟩
end L2
namespace M
open PySem L2
noncomputable def top (i:Nat):Stmt:=PySem.Challenge.pw_onceways_k58_papers_told.main.body.getD i (.Pass ⟨0,0,0,0⟩)
noncomputable abbrev ZgS:Stmt:=top 6
noncomputable abbrev ZeD:Stmt:=top 8
noncomputable abbrev ZeE:Stmt:=top 9
noncomputable abbrev ZgT:Stmt:=top 11
noncomputable abbrev ZgU:Stmt:=top 12
noncomputable abbrev ZfA:Stmt:=top 16
noncomputable abbrev ZeF:Stmt:=top 17
noncomputable abbrev ZfB:Stmt:=top 18
noncomputable abbrev ZfC:Stmt:=top 19
noncomputable abbrev ZfD:Stmt:=top 20
noncomputable abbrev ZgV:Stmt:=top 22
noncomputable abbrev ZgW:Stmt:=top 23
noncomputable abbrev ZeG:Stmt:=top 25
noncomputable abbrev ZeH:Stmt:=top 26
noncomputable abbrev ZfE:Stmt:=top 27
noncomputable abbrev ZfF:Stmt:=top 28
noncomputable abbrev ZgX:Stmt:=top 29
noncomputable abbrev ZgY:Stmt:=top 30
noncomputable abbrev ZgZ:Stmt:=top 31
noncomputable abbrev Zg0:Stmt:=top 32
noncomputable abbrev ZfG:Stmt:=top 33
noncomputable abbrev Zg1:Stmt:=top 34
noncomputable abbrev Zg2:Stmt:=top 35
noncomputable abbrev ZeI:Stmt:=top 36
noncomputable abbrev Zg3:Stmt:=top 37
noncomputable abbrev Zg4:Stmt:=top 38
noncomputable abbrev Zct:Stmt:=top 39
noncomputable abbrev Zcu:Stmt:=ZW (top 15) 0
noncomputable abbrev Zej:Stmt:=ZW (top 15) 1
theorem lT2 (h:let Z:=D;let R2:=q;Gu j R2 Z σ H):Gu j q D σ H:=h
theorem lT3 (h:let Z:=D;let R3:=B;let R2:=Gu q R3;Gu j R2 Z σ H):Gu j (Gu q B) D σ H:=h
theorem lT4 (h:let Z:=D;let R4:=L;let R3:=Gu B R4;let R2:=Gu q R3;Gu j R2 Z σ H):Gu j (Gu q (Gu B L)) D σ H:=h
theorem lT5 (h:let Z:=D;let R5:=N;let R4:=Gu L R5;let R3:=Gu B R4;let R2:=Gu q R3;Gu j R2 Z σ H):Gu j (Gu q (Gu B (Gu L N))) D σ H:=h
theorem lT6 (h:let Z:=D;let R6:=O;let R5:=Gu N R6;let R4:=Gu L R5;let R3:=Gu B R4;let R2:=Gu q R3;Gu j R2 Z σ H):Gu j (Gu q (Gu B (Gu L (Gu N O)))) D σ H:=h
theorem lT8 (h:let Z:=D;let R8:=Y;let R7:=Gu U R8;let R6:=Gu O R7;let R5:=Gu N R6;let R4:=Gu L R5;let R3:=Gu B R4;let R2:=Gu q R3;Gu j R2 Z σ H):Gu j (Gu q (Gu B (Gu L (Gu N (Gu O (Gu U Y)))))) D σ H:=h
theorem lT9 (h:let Z:=D;let R9:=a9;let R8:=Gu Y R9;let R7:=Gu U R8;let R6:=Gu O R7;let R5:=Gu N R6;let R4:=Gu L R5;let R3:=Gu B R4;let R2:=Gu q R3;Gu j R2 Z σ H):Gu j (Gu q (Gu B (Gu L (Gu N (Gu O (Gu U (Gu Y a9))))))) D σ H:=h
theorem Ziu (h:let Z:=D;let R11:=q;let R10:=Gu j R11;let R9:=Gu a9 R10;let R8:=Gu a8 R9;let R7:=Gu a7 R8;let R6:=Gu Y R7;let R5:=Gu U R6;let R4:=Gu O R5;let R3:=Gu N R4;let R2:=Gu L R3;Gu B R2 Z σ H):Gu B (Gu L (Gu N (Gu O (Gu U (Gu Y (Gu a7 (Gu a8 (Gu a9 (Gu j q))))))))) D σ H:=h
theorem Ziv (h:let Z:=D;let R16:=U;let R15:=Gu O R16;let R14:=Gu N R15;let R13:=Gu L R14;let R12:=Gu B R13;let R11:=Gu q R12;let R10:=Gu j R11;let R9:=Gu a9 R10;let R8:=Gu a8 R9;let R7:=Gu a7 R8;let R6:=Gu a6 R7;let R5:=Gu a5 R6;let R4:=Gu a4 R5;let R3:=Gu a3 R4;let R2:=Gu a2 R3;Gu Y R2 Z σ H):Gu Y (Gu a2 (Gu a3 (Gu a4 (Gu a5 (Gu a6 (Gu a7 (Gu a8 (Gu a9 (Gu j (Gu q (Gu B (Gu L (Gu N (Gu O U)))))))))))))) D σ H:=h
noncomputable abbrev FI:=Nat->St->Hp->Prop
noncomputable abbrev CI:=Nat->List V->Hp->Prop
section
variable {P:PP}{w:Ab}{K:FG}{mg:Str->Option Aa}{base:Heap}
theorem GW:2<=sizeLine:=by decide
theorem Zek (h0:0<=i)(h:xs[i.toNat]?=some v):atI xs i=some v:=by
 obtain ⟨k,rfl⟩:=Int.eq_ofNat_of_zero_le h0;exact Gr h
theorem U7 (T:Trs H xs ts)(n:Nd ts c r):∃t,atI xs (c-2)=some (.ref t)/\H t=some (.tup [.int r.1,.int r.2.1,.int r.2.2]):=by
 obtain ⟨t,h1,h2⟩:=T.at n.2;exact ⟨t,Zek (by have:=n.1;lia) h1,h2⟩
structure TabAt (H:Hp)(tb l:AD)(root:Int)(xs:List V)(ts:List Tri):Prop where
 w:H tb=some (.tup [.int root,.ref l])
 l:H l=some (.lst xs)
 t:Trs H xs ts
theorem TabAt.same {tb l:AD}(h:TabAt H tb l root xs ts)(s:Same H H'):TabAt H' tb l root xs ts:=⟨s _ _ h.w,s _ _ h.l,h.t.same s⟩
theorem JK {ns:LI}{i:Nat}(h:(ns.map V.int)[i]?=some x):∃z,x=.int z/\ns[i]?=some z:=by
 rw [Yay] at h;cases hz:ns[i]? with
 | none=>rw [hz] at h;cases h
 | some z=>rw [hz] at h;cases h;exact ⟨z,rfl,rfl⟩
end
section
theorem ZhI:¬ (("most" : Str) = "nodes"):=by decide +kernel
theorem ZhJ:¬ (("most" : Str) = "places"):=by decide +kernel
theorem ZhK:¬ (("nodes" : Str) = "places"):=by decide +kernel
noncomputable def ZbD (m:V)(nl pd:AD):List (Str×V):=Uh "places" (.ref pd) (Uh "nodes" (.ref nl) (Uh "most" m []))
theorem W3 (m:V)(nl pd:AD):(ZbD m nl pd).lookup ("most" : Str)=some m:=by
 unfold ZbD;rw [Gz,if_neg ZhJ,Gz,if_neg ZhI,Gz,if_pos rfl]
theorem Ol (m:V)(nl pd:AD):(ZbD m nl pd).lookup ("nodes" : Str)=some (.ref nl):=by
 unfold ZbD;rw [Gz,if_neg ZhK,Gz,if_pos rfl]
theorem JE (m:V)(nl pd:AD):(ZbD m nl pd).lookup ("places" : Str)=some (.ref pd):=by
 unfold ZbD;rw [Gz,if_pos rfl]
theorem Zel (m:V)(nl pd:AD){x:Str}(h1:¬ x = "places")(h2:¬ x = "nodes")(j:¬ x = "most"):(ZbD m nl pd).lookup x=none:=by
 unfold ZbD;rw [Gz,if_neg h1,Gz,if_neg h2,Gz,if_neg j]
 rfl
end
structure PlOk (kvs:List (List Key×V))(ts:List Tri):Prop where
 s:SeenOk kvs ts
 n:∀r:Tri,JF kvs (Vf r)=none->r ∉ ts
 l:kvs.length<=ts.length
theorem PlOk.nil:PlOk [] []:=⟨λr v e=>(by cases e),λr _ h=>(by cases h),Yae _⟩
theorem PlOk.add (S:PlOk kvs ts)(r:Tri):PlOk (JH kvs (Vf r) (.int ((ts.length:Int)+2))) (ts++[r]):=by
 refine ⟨S.s.add rfl,λq e j=>?_,Ybr (GM _ _ _) (by rw [Yam,Ybc];have:=S.l;lia)⟩;rw [GZ] at e;by_cases h:Vf q=Vf r
 ·rw [if_pos h] at e;cases e
 ·rw [if_neg h] at e;rcases Yak.mp j with z | z
  ·exact S.n q e z
  ·exact h (by rw [Yaj.mp z])
structure ShelfAt (C:AD)(H:Hp)(p nl pd:AD)(m:V)(xs:List V)(ts:List Tri)(kvs:List (List Key×V)):Prop where
 ob:∃dx,H p=some (.ins C dx (ZbD m nl pd))
 nd:H nl=some (.lst xs)
 tr:Trs H xs ts
 pl:H pd=some (.dT kvs)
 ok:PlOk kvs ts
structure Shf (C:AD)(H0 H:Hp)(p nl pd:AD)(m:V)(ts:List Tri):Prop where
 kp:∀b o,b≠nl->b≠pd->H0 b=some o->H b=some o
 at_:∃xs kvs,ShelfAt C H p nl pd m xs ts kvs
section
variable {C p nl pd:AD}{H0 H H':Hp}{m:V}{xs:List V}{ts:List Tri}{kvs:List (List Key×V)}
theorem ShelfAt.same (S:ShelfAt C H p nl pd m xs ts kvs)(s:Same H H'):ShelfAt C H' p nl pd m xs ts kvs:=
 ⟨S.ob.elim λdx e=>⟨dx,s _ _ e⟩,s _ _ S.nd,S.tr.same s,s _ _ S.pl,S.ok⟩
end
structure ZfH (K:FG)(mg:Str->Option Aa)(C TM:AD):Prop where
 cl:Cls K C
 nM:NoAttr K C "most"
 nN:NoAttr K C "nodes"
 nP:NoAttr K C "places"
 mgC:mg "Shelf" = some (.ref C)
section
variable {P:PP}{w:Ab}{K:FG}{mg:Str->Option Aa}{base:Heap}
noncomputable def ZfI (C:AD):Sp:=λvs H Q _=>∃(p dx:AD)(m:V),vs=[.ref p,m]/\H p=some (.ins C dx [])/\∀(nl pd:AD)(H':Hp),H nl=none->H pd=none->nl≠pd->ShelfAt C H' p nl pd m [] [] []->(∀b o,H b=some o->b≠p->H' b=some o)->Q .non H'
theorem ZhL:Go ["self", "most"] ["self", "most"] (Gf Zcu):=⟨rfl,rfl,rfl,by decide +kernel,rfl,by decide +kernel,by decide +kernel⟩
theorem ZfJ (F:FunD K "__init__" "Shelf.__init__" Zcu dV f fd)(T:ZfH K mg C TM):GG P w K mg base CX0 1 f fd ["self", "most"] (ZfI C):=by
 refine F.ok ZhL (λvs H Q E h=>?_) (λaa A Y s H vs Q E hr h=>?_)
 ·obtain ⟨p,dx,m,rfl,_⟩:=h
  rfl
 ·obtain ⟨p,dx,m,rfl,hp,q⟩:=h;refine ⟨_,Gc (ZJ (pv 0) (pv 1) rfl)
    (Gc (ZJ (pv 0) (Gx Ge) rfl)
    (Gg (ZJ (pv 0) ZbX rfl))),?_⟩
  refine lT3 ?_;intro Z R3 R2;refine xe rfl (xe rfl ⟨p,C,dx,[],rfl,hp,T.cl,T.nM,(by show 0<1000;decide),?_⟩);have U:upd H p (.ins C dx (Uh "most" m [])) p=some (.ins C dx (Uh "most" m [])):=Gb;have k1:∀b o,H b=some o->b≠p->upd H p (.ins C dx (Uh "most" m [])) b=some o:=λb o e n=>Gj e n;have f1:∀b,upd H p (.ins C dx (Uh "most" m [])) b=none->H b=none:=λb e=>by
   by_cases z:b=p
   ·rw [z,U] at e;cases e
   ·rw [Gi z] at e;exact e
  generalize upd H p (.ins C dx (Uh "most" m []))=H1 at U k1 f1 ⊢;refine ⟨Yax _,λnl L=>?_⟩;have N:p≠nl:=Gh U L;refine xe rfl ⟨p,C,dx,xe rfl ⟨Gj U N,T.cl,T.nN,(by show 1<1000;decide),?_⟩⟩;intro pd j;have B:p≠pd:=λz=>by rw [z,Gb] at j;cases j
  have O:nl≠pd:=λz=>by rw [z,Gi (Ne.symm B),Gb] at j;cases j
  have D:H1 pd=none:=by rw [Gi (Ne.symm B),Gi (Ne.symm O)] at j;exact j
  refine xe rfl ⟨p,C,dx,xe rfl ⟨Gj Gb B,T.cl,T.nP,(by simp [Uh];split <;> simp [Uh]),?_⟩⟩;refine q nl pd _ (f1 _ L) (f1 _ D) O ⟨⟨dx,Gb⟩,?_,.nil,?_,PlOk.nil⟩ λb o e n=>?_
  ·rw [Gi (Ne.symm N),Gi O,Gi (Ne.symm N),Gb]
  ·rw [Gi (Ne.symm B),Gb]
  ·have e':=k1 b o e n;rw [Gi n,Gi (Gh e' D),Gi n,Gi (Gh e' L)];exact e'
noncomputable def ZfK (C j:AD):Sp:=λvs H Q E=>∃(p nl pd:AD)(M:Int)(xs:List V)(ts:List Tri)(kvs:List (List Key×V))(r lo hi:Int),vs=[.ref p,.int r,.int lo,.int hi]/\ShelfAt C H p nl pd (.int M) xs ts kvs/\ts.length<=10000 /\
 (hi=0->Q (.int lo) H)/\(hi≠0->(∀c H',Nd ts c (r,lo,hi)->Same H H'->Q (.int c) H')/\((r,lo,hi) ∉ ts->((ts.length:Int)<M->∀H',Shf C H H' p nl pd (.int M) (ts++[(r,lo,hi)])->Q (.int ((ts.length:Int)+2)) H')/\(¬ (ts.length:Int)<M->∀H',Same H H'->E (.ref j) none H')))
theorem scPut:Go ["self", "road", "low", "high", "node"] ["self", "road", "low", "high"] (Gf Zej):=⟨rfl,rfl,rfl,by decide +kernel,rfl,by decide +kernel,by decide +kernel⟩
theorem ZfL (F:Fun K "put" "Shelf.put" Zej f fd)(T:ZfH K mg C TM)(aa:mg "TooMany" = some (.ref TM))(ab:ExcC K TM)(B:mg "len" = none):GG P w K mg base (CXr P w) 1 f fd ["self", "road", "low", "high"] (ZfK C TM):=by
 refine F.okR scPut (λvs H Q E h=>?_) (λac A ad s H vs Q E hr h=>?_)
 ·obtain ⟨_,_,_,_,_,_,_,_,_,_,rfl,_⟩:=h
  rfl
 ·obtain ⟨p,nl,pd,M,xs,ts,kvs,r,lo,hi,rfl,S,aj,q0,q1⟩:=h;have D:(A.deeper (PyProof.Rows.envOfC "Shelf.put" (Gf Zej) s.heap.objs.size f ac)).units+1<cLine:=by have:=hr.un;lia
  have ak:=Ybd.symm;refine ⟨_,Gc (GS (gCm Ou (pv 3) Gd) (Gg (Gq (pv 2))) Gp)
    (Gc (gSt 4 scPut.nd (GC (Ga (pv 1) (Ga (pv 2) (Ga (pv 3) Ge)))))
    (Gc (GS (XE (UP D (pv 4) (OD (pv 0) rfl)) rfl) (Gc (GS (PW.pt (XG (gCm Zdt (OD (pv 0) rfl) ZcL) (VG (gCm Zhd (gB1 (Ur K) B Ybq (OD (pv 0) rfl)) (OD (pv 0) rfl))))) (Gg (XS (E:=E) rfl Ui rfl aa ab (Ga ZcM Ge))) Gp)
    (Gc (Ow D (OD (pv 0) rfl) (pv 4) (Gm GT (gB1 (Ur K) B Ybq (OD (pv 0) rfl)) Gd) rfl)
    (Gg (G8 (kBm K Ycf Yct Ycu GB (OD (pv 0) rfl) (Ga (pv 4) Ge)))))) Gp)
    (Gg (Gq (gDg D (OD (pv 0) rfl) (pv 4)))))),?_⟩
  refine lT4 ?_;intro Z R4 R3 R2;refine xe rfl ⟨rfl,xe rfl (J1 (λc1=>?_) (λc1=>?_))⟩
  ·have L:hi=0:=V.int.inj (Ybv c1);exact xe rfl (q0 L)
  have L:hi≠0:=λz=>c1 (Yau (Ybg V.int z));obtain ⟨qo,qn⟩:=q1 L;dsimp only [JN];refine xe rfl (xe rfl (xe rfl ⟨(by show 3<=sizeLine;decide),λt ht=>?_⟩));have U:Same H (upd H t (.tup [.int r,.int lo,.int hi])):=Same.new ht;have N:upd H t (.tup [.int r,.int lo,.int hi]) t=some (.tup ((Vf (r,lo,hi)).map kV)):=Gb;have j:=S.same U;generalize upd H t (.tup [.int r,.int lo,.int hi])=H1 at U N j ⊢;obtain ⟨dx,q⟩:=j.ob;have al:=j.tr.len;have am:=j.ok.l;dsimp only [Gv];cases hv:JF kvs (Vf (r,lo,hi)) with
  | some v=>
   obtain ⟨c,rfl,hc⟩:=j.ok.s _ _ hv;have dg:DGet H1 pd (.ref t) (some (.int c)):=hv▸DGet.t j.pl N;refine xe rfl (xe rfl ⟨p,C,dx,_,xe rfl ⟨q,T.cl,T.nP,JE _ _ _,pd,xe rfl ⟨dg,xe rfl (O5 ?_)⟩⟩⟩);dsimp only [JN];exact xe rfl ⟨p,C,dx,_,xe rfl ⟨q,T.cl,T.nP,JE _ _ _,xe rfl ⟨pd,xe rfl ⟨dg,qo c H1 hc U⟩⟩⟩⟩
  | none=>
   have dg:DGet H1 pd (.ref t) none:=hv▸DGet.t j.pl N;obtain ⟨qM,qE⟩:=qn (j.ok.n _ hv);refine xe rfl (xe rfl ⟨p,C,dx,_,xe rfl ⟨q,T.cl,T.nP,JE _ _ _,pd,xe rfl ⟨dg,xe rfl (JX ?_)⟩⟩⟩);refine xe rfl ⟨p,C,dx,_,xe rfl ⟨q,T.cl,T.nM,W3 _ _ _,rfl,xe rfl (JX ?_)⟩⟩;refine xe rfl ⟨p,C,dx,_,xe rfl ⟨q,T.cl,T.nN,Ol _ _ _,nl,xe rfl ⟨.inl (SqL.of j.nd),xe rfl ⟨p,C,dx,_,xe rfl ⟨q,T.cl,T.nM,W3 _ _ _,xd rfl rfl (xe rfl (J1 (λc2=>?_) (λc2=>?_)))⟩⟩⟩⟩⟩
   ·have ae:((xs.length:Int))>=M:=Ybv c2;exact ⟨by show 1<=sizeLine;rw [Ybd];lia,qE (by lia) H1 U⟩
   ·have ae:¬ ((xs.length:Int))>=M:=λz=>c2 (Yau z);dsimp only [JN];refine xe rfl ⟨p,C,dx,_,xe rfl ⟨q,T.cl,T.nN,Ol _ _ _,nl,xe rfl ⟨.inl (SqL.of j.nd),xd rfl rfl (xe rfl ⟨p,C,dx,_,xe rfl ⟨q,T.cl,T.nP,JE _ _ _,xe rfl ⟨pd,xe rfl ⟨DPut.t j.pl N (by lia),?_⟩⟩⟩⟩)⟩⟩⟩;have Y:p≠pd:=Ja q j.pl (λz=>by cases z);have O:nl≠pd:=Ja j.nd j.pl (λz=>by cases z);have af:p≠nl:=Ja q j.nd (λz=>by cases z);have ag:t≠pd:=Ja N j.pl (λz=>by cases z);have ah:t≠nl:=Ja N j.nd (λz=>by cases z);rw [show (xs.length:Int)=(ts.length:Int) by lia];refine xe rfl ⟨p,C,dx,_,xe rfl ⟨Gj q Y,T.cl,T.nN,Ol _ _ _,.inl ⟨rfl,_,SqL.of (Gj j.nd O)⟩,xe rfl ⟨nl,xd rfl rfl ⟨Gj j.nd O,by lia,?_⟩⟩⟩⟩;have ai:=j.ok.add (r,lo,hi);have ev:JF (JH kvs (Vf (r,lo,hi)) (.int ((ts.length:Int)+2))) (Vf (r,lo,hi))=some (.int ((ts.length:Int)+2)):=by rw [GZ,if_pos rfl]
    have e1:upd (upd H1 pd (.dT (JH kvs (Vf (r,lo,hi)) (.int ((ts.length:Int)+2))))) nl (.lst (xs++[.ref t])) pd=some (.dT (JH kvs (Vf (r,lo,hi)) (.int ((ts.length:Int)+2)))):=Gj Gb (Ne.symm O);have e2:upd (upd H1 pd (.dT (JH kvs (Vf (r,lo,hi)) (.int ((ts.length:Int)+2))))) nl (.lst (xs++[.ref t])) t=some (.tup ((Vf (r,lo,hi)).map kV)):=Gj (Gj N ag) ah;have e3:upd (upd H1 pd (.dT (JH kvs (Vf (r,lo,hi)) (.int ((ts.length:Int)+2))))) nl (.lst (xs++[.ref t])) p=some (.ins C dx (ZbD (.int M) nl pd)):=Gj (Gj q Y) af;have t1:∀b ys,H1 b=some (.tup ys)->upd (upd H1 pd (.dT (JH kvs (Vf (r,lo,hi)) (.int ((ts.length:Int)+2))))) nl (.lst (xs++[.ref t])) b=some (.tup ys):=λb ys e=>Gj (Gj e (Ja e j.pl (λz=>by cases z))) (Ja e j.nd (λz=>by cases z));refine xe rfl ⟨p,C,dx,_,xe rfl ⟨e3,T.cl,T.nP,JE _ _ _,xe rfl ⟨pd,xe rfl ⟨ev▸DGet.t e1 e2,?_⟩⟩⟩⟩;exact qM (by lia) _ ⟨λb o n1 n2 e=>Gj (Gj (U _ _ e) n2) n1,_,_,⟨dx,e3⟩,Gb,(j.tr.keep t1).snoc e2,e1,ai⟩
end
inductive Pt (κ:Type) where
 | leaf (n:Int)
 | node (r:Int) (lo hi:κ)
inductive Rc {κ:Type}(pf:κ->Pt κ)(s:κ):κ->Prop
 | start:Rc pf s s
 | lo {k:κ} {r:Int} {a b:κ}:Rc pf s k->pf k=.node r a b->Rc pf s a
 | hi {k:κ} {r:Int} {a b:κ}:Rc pf s k->pf k=.node r a b->Rc pf s b
section
variable {P:PP}{w:Ab}{κ:Type}[DecidableEq κ](G:GK P w κ)
noncomputable def PV (H:Hp)(v:V):Pt κ->Prop
 | .leaf n=>v=.int n
 | .node r lo hi=>∃t bl bh,v=.ref t/\H t=some (.tup [.int r,.ref bl,.ref bh])/\G.At H bl lo/\G.At H bh hi
noncomputable def Zh7 (pf:κ->Pt κ)(Dom:κ->Prop):Sp:=λvs H Q _=>∃(b:AD)(k:κ),vs=[.ref b]/\G.At H b k/\Dom k/\∀(v:V)(H':Hp),Same H H'->PV G H' v (pf k)->Q v H'
structure FndG (pf:κ->Pt κ)(s:κ)(H:Hp)(kvs:GKv κ):Prop where
 ks:GKeys G H kvs
 nd:(kvs.map (·.1)).Nodup
 rc:∀p∈kvs,Rc pf s p.1
 pv:∀p∈kvs,PV G H p.2.2 (pf p.1)
end
section
variable {P:PP}{w:Ab}{κ:Type}[DecidableEq κ]{G:GK P w κ}{H H':Hp}{v:V}{pf:κ->Pt κ}{s:κ}{kvs:GKv κ}
theorem PV.keep (h:PV G H v p)(t:∀b ys,H b=some (.tup ys)->H' b=some (.tup ys)):PV G H' v p:=by
 cases p with
 | leaf n=>exact h
 | node r lo hi=>
  obtain ⟨x,j,q,e,h1,h2,B⟩:=h;exact ⟨x,j,q,e,t _ _ h1,G.keep h2 t,G.keep B t⟩
theorem FndG.keep (F:FndG G pf s H kvs)(t:∀b ys,H b=some (.tup ys)->H' b=some (.tup ys)):FndG G pf s H' kvs:=⟨F.ks.keep t,F.nd,F.rc,λp j=>(F.pv p j).keep t⟩
theorem U8 (h:O3 kvs k=none):k ∉ kvs.map (·.1):=by
 intro j;obtain ⟨p,q,rfl⟩:=Yai.mp j;unfold O3 at h;have:=List.find?_eq_none.mp (Yfj.mp h) p q;simp at this
theorem Yr {v:V}(h:O3 kvs k=some v):∃b,(k,b,v)∈kvs:=by
 unfold O3 at h;obtain ⟨p,j,rfl⟩:=Ybt.mp h;have h1:=List.find?_some j;have h2:=List.mem_of_find?_eq_some j;exact ⟨p.2.1,by rw [<-Ybv h1];exact h2⟩
theorem Zba (nd:(kvs.map (·.1)).Nodup){v:V}(h:(k,b,v)∈kvs):O3 kvs k=some v:=by
 unfold O3
 induction kvs with
 | nil=>cases h
 | cons p kvs ih=>
  rw [Yap] at nd;obtain ⟨q,B⟩:=List.nodup_cons.mp nd;rcases Yav.mp h with e | e
  ·rw [<-e];simp
  ·have j:¬ p.1=k:=λz=>q (by rw [z];exact Yai.mpr ⟨_,e,rfl⟩);rw [Ydn];simp only [j,decide_false,Ydl,Ycj];exact ih B e
theorem W4 {v:V}(h:O3 kvs k=none):O3 (kvs++[(k,b,v)]) k=some v:=by
 unfold O3 at h ⊢;rw [List.find?_append,Yfj.mp h];simp
theorem FndG.snoc (F:FndG G pf s H kvs){v:V}(B:O3 kvs k=none)(D:G.At H b k)(L:Rc pf s k)(N:PV G H v (pf k)):FndG G pf s H (kvs++[(k,b,v)]):=by
 refine ⟨λp j=>?_,?_,λp j=>?_,λp j=>?_⟩
 ·rcases Yak.mp j with h | h
  ·exact F.ks p h
  ·rw [Yaj.mp h];exact D
 ·rw [Yao];refine Yco.mpr ⟨F.nd,by simp,λa ha c q=>?_⟩;have q:c=k:=by simpa using q
  rw [q];exact λz=>U8 B (z▸ha)
 ·rcases Yak.mp j with h | h
  ·exact F.rc p h
  ·rw [Yaj.mp h];exact L
 ·rcases Yak.mp j with h | h
  ·exact F.pv p h
  ·rw [Yaj.mp h];exact N
end
noncomputable def Shut {κ:Type}(pf:κ->Pt κ)(s:κ)(ks j:List κ):Prop:=(s∈ks\/s∈j)/\∀k∈ks,∀r a b,pf k=.node r a b->(a∈ks\/a∈j)/\(b∈ks\/b∈j)
theorem Shut.all {κ:Type}{pf:κ->Pt κ}{s:κ}{ks:List κ}(h:Shut pf s ks []):∀k,Rc pf s k->k∈ks:=by
 intro k j
 induction j with
 | start=>exact h.1.resolve_right (by simp)
 | lo _ e ih=>exact (h.2 _ ih _ _ _ e).1.resolve_right (by simp)
 | hi _ e ih=>exact (h.2 _ ih _ _ _ e).2.resolve_right (by simp)
section
variable {P:PP}{w:Ab}{K:FG}{mg:Str->Option Aa}{base:Heap}{κ:Type}[DecidableEq κ]{G:GK P w κ}{pf:κ->Pt κ}{Dom:κ->Prop}
noncomputable def ZfM (G:GK P w κ)(pf:κ->Pt κ)(q:AD):Sp:=λvs H Q _=>∃(b:AD)(s:κ)(U:List κ),vs=[.ref b,.ref q]/\G.At H b s/\(∀k,Rc pf s k->k∈U)/\U.length<=100000 /\
 ∀(j:AD)(kvs:GKv κ)(H':Hp),Same H H'->H j=none->H' j=some (gd G j kvs)->FndG G pf s H' kvs->(∀k,Rc pf s k->k∈kvs.map (·.1))->kvs.length<=U.length->Q (.ref j) H'
theorem scPbl:Go ["start", "parts", "found", "pending", "part"] ["start", "parts"] (Gf ZfA):=⟨rfl,rfl,rfl,by decide +kernel,rfl,by decide +kernel,by decide +kernel⟩
theorem ZfN (F:Fun K "parts_below" "parts_below" ZfA f fd)(aw:Fun K x q st fP ai)(ax:Binds K ai ps [])(ay:GG P w K mg base CX0 kp fP ai ps (Zh7 G pf Dom))(an:∀s k,Rc pf s k->Dom s->Dom k)(az:W.kitOne K (.type "int") (.type "tuple")=some false)(ao:mg "isinstance" = none)(ap:mg "tuple" = none):GG P w K mg base CX0 (kp+1) f fd ["start", "parts"] (λvs H Q E=>(∀b s,vs=[.ref b,.ref fP]->G.At H b s->Dom s)/\ZfM G pf fP vs H Q E):=by
 refine F.ok scPbl (λvs H Q E h=>?_) (λa1 A a2 s H vs Q E hr h=>?_)
 ·obtain ⟨_,_,_,_,rfl,_⟩:=h
  rfl
 ·obtain ⟨aq,b,st,U,rfl,hb,hU,aA,qq⟩:=h;have a3:Dom st:=aq b st rfl hb;have N:(A.deeper (PyProof.Rows.envOfC "parts_below" (Gf ZfA) s.heap.objs.size f a1)).units+71<cLine:=by have:=hr.un;lia
  have aB:=Ybd.symm;refine ⟨_,Gc (gSt 2 scPbl.nd (Za1 (G:=G)))
    (Gc (gSt 3 scPbl.nd (Gx (Ga (pv 0) Ge)))
    (Gc (VH Ycg (Uu (pv 3) (λ_=>rfl))
    (Gc (gSt 4 scPbl.nd (Ze2 Ycf PySem.F.slot_list_pop PySem.F.type_list_pop Ze3 (pv 3)))
    (Gg (GS (XE (Za2 (G:=G) N (pv 4) (pv 2)) rfl) (Gc (Xz (G:=G) N (pv 2) (pv 4) (Zcs ay hr (pv 1) aw.kp ax .nil GH (Ga (pv 4) Ge)) rfl)
    (Gg (GS (UF (Jb (ZbB K) rfl ao Jj (Ga (O0 (G:=G) N (pv 2) (pv 4) (λ_ _=>rfl)) (Ga (UO ap Jv) Ge)))) (Gg (G8 (kBm K Ycf PySem.F.slot_list_extend PySem.F.type_list_extend Vv (pv 3) (Ga (Jt (Zhx K) (O0 (G:=G) N (pv 2) (pv 4) (λ_ _=>rfl)) (JW Gd) JO) Ge)))) Gp))) Gp))))
    (Gg (Gq (pv 2))))),?_⟩
  refine lT4 ?_;intro Z R4 R3 R2;refine Gn (λσ' H'=>∃j:AD,σ'=[some (.ref b),some (.ref fP),some (.ref j),none,none]/\Same H H'/\H j=none/\H' j=some (gd G j ([]:GKv κ))) ?s0 ?f0
  case f0=>exact λB j ab=>B _ _ ⟨j,rfl,Same.new ab,ab,Gb⟩
  rintro σ' H1 ⟨j,rfl,s1,ab,ef⟩;refine Gn (λσ' H'=>∃D:AD,σ'=[some (.ref b),some (.ref fP),some (.ref j),some (.ref D),none]/\Same H1 H'/\H1 D=none/\H' D=some (.lst [.ref b])) ?s1 ?f1
  case f1=>exact λB=>⟨_,rfl,(by show 1<=sizeLine;decide),λD ac=>B _ _ ⟨D,rfl,Same.new ac,ac,Gb⟩⟩
  rintro σ' H2 ⟨D,rfl,s2,ac,ep⟩;have aj:D≠j:=Ne.symm (Gh ef ac);have ar:H D=none:=s1.free ac;refine Gn (λσ' H'=>∃(kvs:GKv κ)(v4:Option V),σ'=[some (.ref b),some (.ref fP),some (.ref j),some (.ref D),v4]/\Same H H'/\H' j=some (gd G j kvs)/\FndG G pf st H' kvs/\Shut pf st (kvs.map (·.1)) []) ?s2 ?f2
  case s2=>
   rintro σ' H3 ⟨kvs,v4,rfl,s3,e3,F3,sh⟩;have hl:kvs.length<=U.length:=by
    have:=Ydb F3.nd (l₂:=U) λk B=>by
     obtain ⟨p,L,rfl⟩:=Yai.mp B;exact hU _ (F3.rc p L)
    rwa [Yac] at this
   exact xe rfl (qq j kvs H3 s3 ab e3 F3 sh.all hl)
  case f2=>
   intro B;refine ⟨λm σ' H'=>∃(kvs:GKv κ)(bs:List (AD×κ))(v4:Option V),σ'=[some (.ref b),some (.ref fP),some (.ref j),some (.ref D),v4]/\Same H H'/\H' j=some (gd G j kvs)/\H' D=some (.lst (bs.map λz=>V.ref z.1))/\FndG G pf st H' kvs/\(∀z∈bs,G.At H' z.1 z.2/\Rc pf st z.2)/\Shut pf st (kvs.map (·.1)) (bs.map (·.2))/\m=3 * (U.length-kvs.length)+bs.length/\bs.length<=1+2 * kvs.length,
    ⟨_,[],[(b,st)],none,rfl,s1.trans s2,s2 _ _ ef,ep,⟨λp L=>(by cases L),Yeb,λp L=>(by cases L),λp L=>(by cases L)⟩,λz hz=>by rw [Yaj.mp hz];exact ⟨G.keep hb λp ys e=>s2 _ _ (s1 _ _ e),.start⟩,⟨.inr (by simp),λk B=>(by cases B)⟩,rfl,by simp⟩,?_⟩
   rintro m σ' H3 ⟨kvs,bs,v4,rfl,s3,e3,ad,F3,ak,sh,rfl,ag⟩;have aC:kvs.length<=U.length:=by
    have:=Ydb F3.nd (l₂:=U) λk B=>by
     obtain ⟨p,L,rfl⟩:=Yai.mp B;exact hU _ (F3.rc p L)
    rwa [Yac] at this
   by_cases as:bs=[]
   ·subst as;refine xe rfl ⟨false,.inl ⟨_,SqL.of ad,rfl⟩,O5 ?_⟩;exact B _ _ ⟨kvs,v4,rfl,s3,e3,F3,sh⟩
   ·obtain ⟨cs,z,rfl⟩:∃cs z,bs=cs++[z]:=⟨_,_,(List.dropLast_concat_getLast as).symm⟩;refine xe rfl ⟨true,.inl ⟨_,SqL.of ad,by simp⟩,JX ?_⟩;refine ⟨_,λ_ _ h=>h,?_⟩;obtain ⟨Y,ae⟩:=ak z (by simp);refine xe rfl ⟨.inl ⟨rfl,_,SqL.of ad⟩,D,_,.ref z.1,rfl,rfl,ad,by simp,?_⟩;have a4:((cs++[z]).map λz=>V.ref z.1).dropLast=cs.map λz=>V.ref z.1:=by rw [Yao];simp
    rw [a4];have t4:∀p ys,H3 p=some (.tup ys)->upd H3 D (.lst (cs.map λz=>V.ref z.1)) p=some (.tup ys):=GR ad;have s4:Same H (upd H3 D (.lst (cs.map λz=>V.ref z.1))):=s3.put ar;have e4:upd H3 D (.lst (cs.map λz=>V.ref z.1)) j=some (gd G j kvs):=Gj e3 (Ne.symm aj);have al:upd H3 D (.lst (cs.map λz=>V.ref z.1)) D=some (.lst (cs.map λz=>V.ref z.1)):=Gb;have F4:=F3.keep t4;have Y:=G.keep Y t4;have ah:∀y∈cs,G.At (upd H3 D (.lst (cs.map λz=>V.ref z.1))) y.1 y.2/\Rc pf st y.2:=λy hy=>⟨G.keep (ak y (by simp [hy])).1 t4,(ak y (by simp [hy])).2⟩;generalize upd H3 D (.lst (cs.map λz=>V.ref z.1))=H4 at s4 e4 al F4 Y ah ⊢;have au:∀k,k∈(cs++[z]).map (·.2)->k=z.2\/k∈cs.map (·.2):=λk B=>by
     rw [Yao] at B;rcases Yak.mp B with h | h
     ·exact .inr h
     ·exact .inl (by simpa using h)
    dsimp only [Gv];refine xe rfl (xe rfl ⟨j,O3 kvs z.2,rfl,⟨kvs,z.2,z.1,.inl e4,F4.ks,rfl,Y,rfl⟩,xe rfl ?_⟩);cases hv:O3 kvs z.2 with
    | some v=>
     refine O5 ?_;obtain ⟨b',hm⟩:=Yr hv;have a5:z.2∈kvs.map (·.1):=Yai.mpr ⟨_,hm,rfl⟩;have mv:∀k,(k∈kvs.map (·.1)\/k∈(cs++[z]).map (·.2))->(k∈kvs.map (·.1)\/k∈cs.map (·.2)):=λk h=>h.elim .inl λh=>(au k h).elim (λe=>.inl (e▸a5)) .inr;exact ⟨3 * (U.length-kvs.length)+cs.length,by rw [Yam,Ybc];lia,kvs,cs,_,rfl,s4,e4,al,F4,ah,⟨mv _ sh.1,λk B r a b e=>⟨mv _ (sh.2 k B r a b e).1,mv _ (sh.2 k B r a b e).2⟩⟩,rfl,by rw [Yam,Ybc] at ag;lia⟩
    | none=>
     refine JX ?_;have aD:kvs.length<U.length:=by
      have hn:(kvs.map (·.1)++[z.2]).Nodup:=Yco.mpr ⟨F4.nd,by simp,λa ha c hc=>by
       have hc:c=z.2:=by simpa using hc
       rw [hc];exact λe=>U8 hv (e▸ha)⟩
      have:=Ydb hn (l₂:=U) λk B=>by
       rcases Yak.mp B with h | h
       ·obtain ⟨p,L,rfl⟩:=Yai.mp h;exact hU _ (F4.rc p L)
       ·rw [Yaj.mp h];exact hU _ ae
      rw [Yam,Yac,Ybc] at this
      lia
     refine ⟨rfl,xe rfl ⟨z.1,z.2,rfl,Y,an _ _ ae a3,λv H5 s5 pv=>?_⟩⟩;have F5:=F4.keep λp ys e=>s5 _ _ e;have am:=G.keep Y λp ys e=>s5 _ _ e;refine xe rfl (xe rfl ⟨j,z.1,kvs,z.2,rfl,rfl,s5 _ _ e4,F5.ks,am,hv,by lia,?_⟩);have a6:j≠D:=Ne.symm aj;have t6:∀p ys,H5 p=some (.tup ys)->upd H5 j (gd G j (kvs++[(z.2,z.1,v)])) p=some (.tup ys):=λp ys e=>Gj e (Ja e (s5 _ _ e4) (λz=>by cases z));have s6:Same H (upd H5 j (gd G j (kvs++[(z.2,z.1,v)]))):=(s4.trans s5).put ab;have e6:upd H5 j (gd G j (kvs++[(z.2,z.1,v)])) j=some (gd G j (kvs++[(z.2,z.1,v)])):=Gb;have aa:upd H5 j (gd G j (kvs++[(z.2,z.1,v)])) D=some (.lst (cs.map λz=>V.ref z.1)):=Gj (s5 _ _ al) aj;have F6:=(F5.snoc hv am ae pv).keep t6;have av:=G.keep am t6;have af:=pv.keep t6;have O:∀y∈cs,G.At (upd H5 j (gd G j (kvs++[(z.2,z.1,v)]))) y.1 y.2/\Rc pf st y.2:=λy hy=>⟨G.keep (G.keep (ah y hy).1 λp ys e=>s5 _ _ e) t6,(ah y hy).2⟩;dsimp only [JN];change ZhU _ _ _ _ _ (upd H5 j (gd G j (kvs++[(z.2,z.1,v)])));generalize upd H5 j (gd G j (kvs++[(z.2,z.1,v)]))=H6 at s6 e6 aa F6 av af O ⊢;have gg:Zh G H6 j (.ref z.1) (some v):=⟨_,z.2,z.1,.inl e6,F6.ks,rfl,av,(W4 hv).symm⟩;have mv:∀k,(k∈kvs.map (·.1)\/k∈(cs++[z]).map (·.2))->(k∈(kvs++[(z.2,z.1,v)]).map (·.1)\/k∈cs.map (·.2)):=λk h=>by
      rw [Yao];rcases h with h | h
      ·exact .inl (Ydr _ h)
      ·rcases au k h with rfl | h
       ·exact .inl (Yby _ (by simp))
       ·exact .inr h
     cases L:pf z.2 with
     | leaf n=>
      rw [L] at af;have ev:v=.int n:=af;subst ev;refine xe rfl (xe rfl ⟨j,xe rfl ⟨gg,_,_,false,rfl,⟨_,rfl,O5 ?_⟩,.inl ⟨_,.int _,rfl,az⟩⟩⟩);refine ⟨3 * (U.length-(kvs++[(z.2,z.1,V.int n)]).length)+cs.length,by rw [Yam,Yam,Ybc,Ybc];lia,_,cs,_,rfl,s6,e6,aa,F6,O,⟨mv _ sh.1,λk B r a b e=>?_⟩,rfl,by rw [Yam,Ybc] at ag ⊢;lia⟩;rw [Yao] at B;rcases Yak.mp B with h | h
      ·exact ⟨mv _ (sh.2 k h r a b e).1,mv _ (sh.2 k h r a b e).2⟩
      ·have:k=z.2:=by simpa using h
       rw [this,L] at e;cases e
     | node r lo hi=>
      rw [L] at af;obtain ⟨t,bl,bh,rfl,et,a7,a8⟩:=af;refine xe rfl (xe rfl ⟨j,xe rfl ⟨gg,_,_,true,rfl,⟨_,rfl,JX ?_⟩,.inl ⟨_,.tup et,rfl,Oe⟩⟩⟩);refine xe rfl ⟨.inl ⟨rfl,_,SqL.of aa⟩,xe rfl (xe rfl ⟨j,xe rfl ⟨gg,xe rfl ⟨t,xe rfl ⟨SqT.of et,?_,λq hq=>?_⟩⟩⟩⟩)⟩
      ·rintro ⟨zz,_⟩;rw [show (some (1:Int))=some ((1:Nat):Int) from rfl,HT.sIx_nat] at zz;simp at zz
      ·have ec:VM [V.int r,.ref bl,.ref bh] (some 1) none=[V.ref bl,.ref bh]:=rfl;rw [ec];have s7:Same H6 (upd H6 q (.tup [.ref bl,.ref bh])):=Same.new hq;refine ⟨D,q,xd rfl rfl ⟨s7 _ _ aa,Gb,by rw [Yac];show cs.length+2<=sizeLine;rw [Yam,Ybc] at ag;lia,?_⟩⟩;have aE:D≠q:=Gh aa hq;have t8:∀p ys,upd H6 q (.tup [.ref bl,.ref bh]) p=some (.tup ys)->upd (upd H6 q (.tup [.ref bl,.ref bh])) D (.lst ((cs.map λz=>V.ref z.1)++[.ref bl,.ref bh])) p=some (.tup ys):=GR (s7 _ _ aa);have t9:∀p ys,H6 p=some (.tup ys)->upd (upd H6 q (.tup [.ref bl,.ref bh])) D (.lst ((cs.map λz=>V.ref z.1)++[.ref bl,.ref bh])) p=some (.tup ys):=λp ys e=>t8 p ys (s7 _ _ e);refine ⟨3 * (U.length-(kvs++[(z.2,z.1,V.ref t)]).length)+(cs++[(bl,lo),(bh,hi)]).length,by rw [Yam,Yam,Yam,Ybc,Ybc];show _+(cs.length+2)<_;lia,_,cs++[(bl,lo),(bh,hi)],xe rfl ⟨(s6.trans s7).put ar,Gj (s7 _ _ e6) a6,by rw [Gb,Yao];rfl,F6.keep t9,λy hy=>?_,⟨?_,λk B r' a b' e=>?_⟩,rfl,?_⟩⟩
       ·rcases Yak.mp hy with h | h
        ·exact ⟨G.keep (O y h).1 t9,(O y h).2⟩
        ·simp at h;rcases h with rfl | rfl
         ·exact ⟨G.keep a7 t9,.lo ae L⟩
         ·exact ⟨G.keep a8 t9,.hi ae L⟩
       ·exact (mv _ sh.1).imp id λh=>by rw [Yao];exact Ydr _ h
       ·have up:∀k,(k∈(kvs++[(z.2,z.1,V.ref t)]).map (·.1)\/k∈cs.map (·.2))->(k∈(kvs++[(z.2,z.1,V.ref t)]).map (·.1)\/k∈(cs++[(bl,lo),(bh,hi)]).map (·.2)):=λk h=>h.imp id λh=>by rw [Yao];exact Ydr _ h
        rw [Yao] at B;rcases Yak.mp B with h | h
        ·exact ⟨up _ (mv _ (sh.2 k h r' a b' e).1),up _ (mv _ (sh.2 k h r' a b' e).2)⟩
        ·have a9:k=z.2:=by simpa using h
         rw [a9,L] at e;cases e;exact ⟨.inr (by simp),.inr (by simp)⟩
       ·rw [Yam,Yam,Ybc];rw [Yam,Ybc] at ag;show cs.length+2<=_
        lia
end
inductive Zde {κ:Type}(pf:κ->Pt κ):κ->LI->Prop
 | one {k:κ}:pf k=.leaf 1->Zde pf k []
 | lo {k a b:κ} {r:Int} {s:LI}:pf k=.node r a b->Zde pf a s->Zde pf k s
 | hi {k a b:κ} {r:Int} {s:LI}:pf k=.node r a b->Zde pf b s->Zde pf k (r::s)
noncomputable def Abv {κ:Type}(pf:κ->Pt κ)(k:κ)(lo:Int):Prop:=∀r a b,pf k=.node r a b->lo<r
structure ZhM {κ:Type}(pf:κ->Pt κ)(s:κ):Prop where
 lf:∀k n,Rc pf s k->pf k=.leaf n->n=0\/n=1
 nd:∀k r a b,Rc pf s k->pf k=.node r a b->(0<=r/\r<30)/\Abv pf a r/\Abv pf b r
structure NumOk {κ:Type}(pf:κ->Pt κ)(ts:List Tri)(k:κ)(c:Int):Prop where
 at_:∀lo,Abv pf k lo->At ts c lo
 has:∀s,Has ts c s↔Zde pf k s
structure ShOk (ts:List Tri):Prop where
 ok:TabOk ts
 nd:ts.Nodup
 hi:∀r∈ts,r.2.2≠0
section
variable {κ:Type}{pf:κ->Pt κ}{ts us:List Tri}{k a b:κ}{c r n ca cb:Int}
theorem ShOk.nil:ShOk []:=⟨TabOk.nil,Yeb,λr h=>by cases h⟩
theorem ZfO {c:Int}(h:Has ts c s):Has (ts++us) c s:=by
 induction h with
 | one=>exact .one
 | low n _ ih=>exact .low (n.app us) ih
 | high n _ ih=>exact .high (n.app us) ih
theorem Zcv (T:TabOk ts){c:Int}(h:Has (ts++us) c s):∀{lo:Int},At ts c lo->Has ts c s:=by
 induction h with
 | one=>exact λ_=>.one
 | low n _ ih=>
  intro lo a;obtain ⟨q,m,_⟩:=a.nd (by have:=n.1;lia);have e:=(m.app us).one n;subst e;exact .low m (ih (T.nd m).2.1)
 | high n _ ih=>
  intro lo a;obtain ⟨q,m,_⟩:=a.nd (by have:=n.1;lia);have e:=(m.app us).one n;subst e;exact .high m (ih (T.nd m).2.2)
theorem Zcw (pf:κ->Pt κ)(k:κ):∃lo,Abv pf k lo:=by
 cases h:pf k with
 | leaf n=>exact ⟨0,λr a b e=>by rw [h] at e;cases e⟩
 | node r a b=>exact ⟨r-1,λr' j q e=>by rw [h] at e;cases e;lia⟩
theorem NumOk.app (h:NumOk pf ts k c)(T:TabOk ts):NumOk pf (ts++us) k c:=
 ⟨λlo a=>(h.at_ lo a).app us,λs=>⟨λx=>(h.has s).mp (by obtain ⟨lo,a⟩:=Zcw pf k;exact Zcv T x (h.at_ lo a)),λx=>ZfO ((h.has s).mpr x)⟩⟩
theorem NumOk.leaf (e:pf k=.leaf n)(h:n=0\/n=1):NumOk pf ts k n:=by
 refine ⟨λlo _=>h.imp id .inl,λs=>?_⟩;rw [Has.small (by lia) (by lia)];constructor
 ·rintro ⟨rfl,rfl⟩;exact .one e
 ·intro h';cases h' with
  | one e'=>rw [e] at e';cases e';exact ⟨rfl,rfl⟩
  | lo e' _=>rw [e] at e';cases e'
  | hi e' _=>rw [e] at e';cases e'
theorem NumOk.flat (e:pf k=.node r a b)(ha:Abv pf a r)(na:NumOk pf ts a ca)(nb:NumOk pf ts b 0):NumOk pf ts k ca:=by
 refine ⟨λlo h=>(na.at_ r ha).mono (by have:=h _ _ _ e;lia),λs=>?_⟩;rw [na.has];constructor
 ·exact .lo e
 ·intro h';cases h' with
  | one e'=>rw [e] at e';cases e'
  | lo e' x=>rw [e] at e';cases e';exact x
  | hi e' x=>rw [e] at e';cases e';exact absurd ((nb.has _).mpr x) Has.zero
theorem NumOk.node (e:pf k=.node r a b)(na:NumOk pf ts a ca)(nb:NumOk pf ts b cb)(N:Nd ts c (r,ca,cb)):NumOk pf ts k c:=by
 refine ⟨λlo h=>.inr (.inr ⟨_,N,h _ _ _ e⟩),λs=>?_⟩;constructor
 ·intro h;cases h with
  | one=>exact absurd N.1 (by decide)
  | low n x=>rw [<-N.one n] at x;exact .lo e ((na.has _).mp x)
  | high n x=>
   rw [<-N.one n] at x ⊢;exact .hi e ((nb.has _).mp x)
 ·intro h';cases h' with
  | one e'=>rw [e] at e';cases e'
  | lo e' x=>rw [e] at e';cases e';exact .low N ((na.has _).mpr x)
  | hi e' x=>rw [e] at e';cases e';exact .high N ((nb.has _).mpr x)
theorem ShOk.snoc (S:ShOk ts)(h0:0<=r/\r<30)(ha:Abv pf a r)(j:Abv pf b r)(na:NumOk pf ts a ca)(nb:NumOk pf ts b cb)(B:cb≠0)(D:(r,ca,cb) ∉ ts):ShOk (ts++[(r,ca,cb)]):=by
 refine ⟨S.ok.snoc h0 (na.at_ r ha) (nb.at_ r j),Yco.mpr ⟨S.nd,by simp,λx L y N=>?_⟩,λq O=>?_⟩
 ·rw [Yaj.mp N];exact λz=>D (z▸L)
 ·rcases Yak.mp O with h | h
  ·exact S.hi q h
  ·rw [Yaj.mp h];exact B
end
section
variable {P:PP}{w:Ab}{K:FG}{mg:Str->Option Aa}{base:Heap}
theorem Fun.okRC (F:Fun K x qual st f fd)(D:fd.code=.ref c)(S:Go N ps (Gf st))(len:∀vs H Q E,sp vs H Q E->vs.length=ps.length)(L:∀(A:Around)(outer:List Env)(s:SS)(H:Hp)(vs:List V)(Q:VK)(E:XK),Room k (A.deeper (PyProof.Rows.envOfC qual (Gf st) s.heap.objs.size f (.ref c)))->sp vs H Q E ->
   ∃t,PSs (YN (CXr P w) P w K mg base N qual (Gf st) f (.ref c) A outer s H E) (GP st) t/\t { nx:=λ_ H'=>Q .non H',rt:=Q } (start N vs) H):GG P w K mg base (CXr P w) (k+1) f fd ps sp:=by
 obtain ⟨oc,od,kV,O,pm,an,j,ct,U,rfl,Y,q⟩:=F.ex;obtain rfl:j=.ref c:=D;exact ZO Y q S len λA outer s H vs Q E Z B=>L A outer s H vs Q E Z B
end
noncomputable def lqD:Str:=Str.ofString "laid_down.<locals>.<lambda>"
noncomputable abbrev LD (tb:AD)(H:Hp):Prop:=LamSt tb 77 35 lqD H
noncomputable def Uo {κ:Type}:Pt κ->Bool
 | .leaf _=>false
 | .node ..=>true
noncomputable def rdP {κ:Type}:Pt κ->Int
 | .leaf _=>0
 | .node r _ _=>r
structure Grw {κ:Type}(pf:κ->Pt κ)(s:κ)(ts0 ts:List Tri):Prop where
 pre:∃us,ts=ts0++us
 sh:ShOk ts
 own:∀c r,Nd ts c r->c<ts0.length+2\/∃k,Rc pf s k/\NumOk pf ts k c
section
variable {P:PP}{w:Ab}{κ:Type}[DecidableEq κ](G:GK P w κ)
structure NV (pf:κ->Pt κ)(ts:List Tri)(done:κ->Prop)(kvs:GKv κ)(H:Hp)(nvs:GKv κ):Prop where
 ks:GKeys G H nvs
 nd:(nvs.map (·.1)).Nodup
 nm:∀q∈nvs,∃c:Int,q.2.2=.int c/\NumOk pf ts q.1 c
 le:∀q∈nvs,done q.1/\q.1∈kvs.map (·.1)
 al:∀q∈kvs,done q.1->∃c:Int,O3 nvs q.1=some (.int c)/\NumOk pf ts q.1 c
end
section
variable {P:PP}{w:Ab}{κ:Type}[DecidableEq κ]{G:GK P w κ}{H H':Hp}{pf:κ->Pt κ}{s:κ}{kvs nvs:GKv κ}{ts:List Tri}{done done':κ->Prop}
theorem NV.keep (N:NV G pf ts done kvs H nvs)(t:∀b ys,H b=some (.tup ys)->H' b=some (.tup ys)):NV G pf ts done kvs H' nvs:=⟨N.ks.keep t,N.nd,N.nm,N.le,N.al⟩
theorem NV.len (N:NV G pf ts done kvs H nvs):nvs.length<=kvs.length:=by
 have:=Ydb N.nd (l₂:=kvs.map (·.1)) λk j=>by
  obtain ⟨q,B,rfl⟩:=Yai.mp j;exact (N.le q B).2
 rwa [Yac,Yac] at this
theorem NV.none (N:NV G pf ts done kvs H nvs){k:κ}(h:¬ done k):O3 nvs k=none:=by
 cases e:O3 nvs k with
 | none=>rfl
 | some v=>
  obtain ⟨b,j⟩:=Yr e;exact absurd (N.le _ j).1 h
theorem NV.like (N:NV G pf ts done kvs H nvs)(h:∀k∈kvs.map (·.1),done k↔done' k):NV G pf ts done' kvs H nvs:=
 ⟨N.ks,N.nd,N.nm,λq j=>⟨(h _ (N.le q j).2).mp (N.le q j).1,(N.le q j).2⟩,λq j d=>N.al q j ((h _ (Yai.mpr ⟨q,j,rfl⟩)).mpr d)⟩
theorem NV.app (N:NV G pf ts done kvs H nvs)(T:TabOk ts)(us:List Tri):NV G pf (ts++us) done kvs H nvs:=
 ⟨N.ks,N.nd,λq j=>(N.nm q j).elim λc h=>⟨c,h.1,h.2.app T⟩,N.le,λq j d=>(N.al q j d).elim λc h=>⟨c,h.1,h.2.app T⟩⟩
theorem Zcx (h:O3 nvs k=some v):O3 (nvs++us) k=some v:=by
 unfold O3 at h ⊢;rw [List.find?_append];obtain ⟨p,j,rfl⟩:=Ybt.mp h;rw [j]
 rfl
theorem NV.snoc (N:NV G pf ts done kvs H nvs)(O:G.At H b k)(U:¬ done k)(Y:k∈kvs.map (·.1))(D:NumOk pf ts k c):NV G pf ts (λx=>done x\/x=k) kvs H (nvs++[(k,b,.int c)]):=by
 have L:=N.none U;refine ⟨λp Z=>?_,?_,λq j=>?_,λq j=>?_,λq j d=>?_⟩
 ·rcases Yak.mp Z with h | h
  ·exact N.ks p h
  ·rw [Yaj.mp h];exact O
 ·rw [Yao];refine Yco.mpr ⟨N.nd,by simp,λa ha d B=>?_⟩;have B:d=k:=by simpa using B
  rw [B];exact λz=>U8 L (z▸ha)
 ·rcases Yak.mp j with h | h
  ·exact N.nm q h
  ·rw [Yaj.mp h];exact ⟨c,rfl,D⟩
 ·rcases Yak.mp j with h | h
  ·exact ⟨.inl (N.le q h).1,(N.le q h).2⟩
  ·rw [Yaj.mp h];exact ⟨.inr rfl,Y⟩
 ·by_cases e:q.1=k
  ·rw [e];exact ⟨c,W4 L,D⟩
  ·obtain ⟨c',h1,h2⟩:=N.al q j (d.resolve_right e);exact ⟨c',Zcx h1,h2⟩
theorem Grw.refl (S:ShOk j):Grw pf s j j:=⟨⟨[],by simp⟩,S,λc r n=>.inl n.lt⟩
theorem Grw.snoc (D:Grw pf s j ts)(B:Rc pf s k)(e:pf k=.node r a b)(h0:0<=r/\r<30)(ha:Abv pf a r)(L:Abv pf b r)(na:NumOk pf ts a ca)(nb:NumOk pf ts b cb)(O:cb≠0)(U:(r,ca,cb) ∉ ts):Grw pf s j (ts++[(r,ca,cb)])/\NumOk pf (ts++[(r,ca,cb)]) k ((ts.length:Int)+2):=by
 have N:NumOk pf (ts++[(r,ca,cb)]) k ((ts.length:Int)+2):=NumOk.node e (na.app D.sh.ok) (nb.app D.sh.ok) (Nd.last ts _);refine ⟨⟨D.pre.elim λus h=>⟨us++[(r,ca,cb)],by rw [h,Ybw]⟩,D.sh.snoc h0 ha L na nb O U,λc q n=>?_⟩,N⟩;by_cases Z:c<(ts.length:Int)+2
 ·have Y:Nd ts c q:=⟨n.1,by
   have:=n.2;have h1:=n.1
   rwa [Ycx (by lia)] at this⟩
  exact (D.own c q Y).imp id λ⟨k,h1,h2⟩=>⟨k,h1,h2.app D.sh.ok⟩
 ·have:=n.lt;rw [Yam,Ybc] at this;exact .inr ⟨k,B,by rw [show c=(ts.length:Int)+2 by lia];exact N⟩
end
section
variable {P:PP}{w:Ab}{K:FG}{mg:Str->Option Aa}{base:Heap}
theorem GN (h:a.natAbs<2 ^ p:=by decide +kernel):Lt2 p a:=h
theorem Oa {ns:LI}{i:Int}(h0:0<=i)(h1:i<ns.length):atI (ns.map V.int) i=some (.int (ns.getD i.toNat 0)):=by
 obtain ⟨k,rfl⟩:=Int.eq_ofNat_of_zero_le h0;have j:k<ns.length:=by lia
 refine Gr ?_;show (ns.map V.int)[k]?=some (.int (ns.getD k 0));rw [Yay,Yca,Yaw j]
 rfl
noncomputable def Zcy (K:FG):Sp:=λvs H Q _=>∃(a:AD)(ns:LI)(k:Nat),vs=[.ref a,.int (k:Int)]/\SqL K H a (ns.map V.int)/\∀z:Int,Q (.int z) H
theorem ZhN:Go ["script", "k"] ["script", "k"] (Gf ZeG):=⟨rfl,rfl,rfl,by decide +kernel,rfl,by decide +kernel,by decide +kernel⟩
theorem ZfP (F:Fun K "_law_cell_at" "_law_cell_at" ZeG f fd)(j:mg "len" = none):GG P w K mg base CX0 1 f fd ["script", "k"] (Zcy K):=by
 refine F.ok ZhN (λvs H Q E h=>?_) (λL A B s H vs Q E O h=>?_)
 ·obtain ⟨_,_,_,rfl,_⟩:=h
  rfl
 ·obtain ⟨a,ns,k,rfl,D,q⟩:=h;refine ⟨_,Gc (GS (gCm Zds (pv 1) (gB1 (Ur K) j Ybq (pv 0))) (Gg (Gq (gIx (Of K) (pv 0) (pv 1)))) Gp)
    (Gg (Gq Gd)),?_⟩
  refine lT2 ?_;intro Z R2;refine xe rfl (xe rfl ⟨a,xe rfl ⟨.inl D,xd rfl rfl (xe rfl ?_)⟩⟩);rw [Yac];refine J1 (λz=>?_) (λ_=>q 0);have N:=Ybv z;exact xe rfl (xe rfl ⟨a,_,xd rfl rfl ⟨D,Oa (by lia) N,q _⟩⟩)
theorem Zbb (h:H l=some (.dK zs)):∀p ys,H p=some (.tup ys)->upd H l o p=some (.tup ys):=λp ys e=>Gj e (Ja e h (λz=>by cases z))
noncomputable def ZfQ (H:Hp)(ks:List Tri)(root:Int)(Q:VK):Prop:=∀(p l:AD)(a0:Int)(xs:List V)(us:List Tri)(fs:LI)(H':Hp),Same H H'->H p=none->H l=none->TabAt H' p l a0 xs us->Rch ks root fs->Fin ks root fs->fs.Nodup->(∀x∈fs,∃r,Nd ks x r)->Said ks fs us fs.length->us.length=fs.length->fs.length<=ks.length->Jd fs root=some a0->Q (.ref p) H'
noncomputable def Zem:Sp:=λvs H Q _=>∃(l:AD)(root:Int)(xs:List V)(ks:List Tri),vs=[.int root,.ref l]/\H l=some (.lst xs)/\Trs H xs ks/\TabOk ks/\ks.length<=900/\At ks root (-1)/\ZfQ H ks root Q
theorem scIno:Go ["root", "nodes", "found", "numbers", "k", "one", "said", "road", "low", "high"] ["root", "nodes"] (Gf ZfG):=⟨rfl,rfl,rfl,by decide +kernel,rfl,by decide +kernel,by decide +kernel⟩
theorem Zh8 (n:Int):JF (G6 [] [(Sum.inl 0,.int 0),(Sum.inl 1,.int 1)]:List (Key×V)) (.inl n)=(Jd [] n).map V.int:=by
 show JF (JH (JH [] (Sum.inl 0) (.int 0)) (Sum.inl 1) (.int 1):List (Key×V)) (.inl n)=_;rw [GZ,GZ];unfold Jd;by_cases h1:n=1
 ·subst h1
  rfl
 ·rw [if_neg (λz=>h1 (Yee z))];by_cases h0:n=0
  ·subst h0
   rfl
  ·rw [if_neg (λz=>h0 (Yee z)),if_neg h0,if_neg h1]
   rfl
theorem ZfR (F:Fun K "_law_in_order" "_law_in_order" ZfG f fd)(al:mg "len" = none):GG P w K mg base CX0 1 f fd ["root", "nodes"] Zem:=by
 refine F.ok scIno (λvs H Q E h=>?_) (λa4 A a5 s H vs Q E hr h=>?_)
 ·obtain ⟨_,_,_,_,rfl,_⟩:=h
  rfl
 ·obtain ⟨l,root,xs,ks,rfl,el,tr,T,aF,ar,q⟩:=h;have aG:=Ybd.symm;have ae:(A.deeper (PyProof.Rows.envOfC "_law_in_order" (Gf ZfG) s.heap.objs.size f a4)).units+1<cLine:=by have:=hr.un;lia
  refine ⟨_,Gc (gSt 2 scIno.nd (Gx Ge))
    (Gc (gSt 3 scIno.nd (UR (Jk Gd Gd (Jk Gd Gd UQ)) rfl rfl (by decide) (by decide)))
    (Gc (GS (gCm ZD (pv 0) Gd) (Gc (G8 (kBm K Ycf Yct Ycu GB (pv 2) (Ga (pv 0) Ge)))
    (Gg (Ow ae (pv 3) (pv 0) Gd rfl))) Gp)
    (Gc (gSt 4 scIno.nd Gd)
    (Gc (VH Ycg (gCm Zds (pv 4) (gB1 (Ur K) al Ybq (pv 2)))
    (Gc (Js Ycg rfl (Zar K (Jt (Zhx K) (gIx (Of K) (pv 1) (Gm JZ (gIx (Of K) (pv 2) (pv 4)) Gd)) (JW Gd) JO)) (gNm 5 scIno.nd)
    (Gg (GS (XE (UP ae (pv 5) (pv 3)) rfl) (Gc (G8 (kBm K Ycf Yct Ycu GB (pv 2) (Ga (pv 5) Ge)))
    (Gg (Ow ae (pv 3) (pv 5) (Gm GT (gB1 (Ur K) al Ybq (pv 2)) Gd) rfl))) Gp)))
    (Gg (gSt 4 scIno.nd (Gm GT (pv 4) Gd)))))
    (Gc (gSt 6 scIno.nd (Gx Ge))
    (Gc (Js Ycg rfl (Om K (pv 2)) (gNm 5 scIno.nd)
    (Gc (OC (gIx (Of K) (pv 1) (Gm JZ (pv 5) Gd)) (Xc K (n:=3) rfl (Gk (gNm 7 scIno.nd) (Gk (gNm 8 scIno.nd) (Gk (gNm 9 scIno.nd) G9)))))
    (Gg (G8 (kBm K Ycf Yct Ycu GB (pv 6) (Ga (GC (Ga (pv 7) (Ga (gDg ae (pv 3) (pv 8)) (Ga (gDg ae (pv 3) (pv 9)) Ge)))) Ge))))))
    (Gg (Gq (GC (Ga (gDg ae (pv 3) (pv 0)) (Ga (pv 6) Ge))))))))))),?_⟩
  refine lT8 ?_;intro Z R8 R7 R6 R5 R4 R3 R2;refine ⟨Yax _,λO an=>?_⟩;obtain ⟨H1,q_,s1,B⟩:=nwU (o:=.lst []) an;rw [q_];intro d hd;refine ⟨Gb,[(.inl 0,.int 0),(.inl 1,.int 1)],rfl,by decide,?_⟩;have Y:Same H1 (upd (upd H1 d (.dK [])) d (.dK (G6 [] [(.inl 0,.int 0),(.inl 1,.int 1)]))):=(Same.new hd).put hd;have ed:upd (upd H1 d (.dK [])) d (.dK (G6 [] [(.inl 0,.int 0),(.inl 1,.int 1)])) d=some (.dK (G6 [] [(.inl 0,.int 0),(.inl 1,.int 1)])):=Gb;generalize upd (upd H1 d (.dK [])) d (.dK (G6 [] [(.inl 0,.int 0),(.inl 1,.int 1)]))=H2 at Y ed ⊢;have au:H d=none:=s1.free hd;have aj:O≠d:=Gh B hd;have N:Fnd ks root [] (G6 [] [(Sum.inl 0,.int 0),(Sum.inl 1,.int 1)]) 0:=⟨Zh8,Yeb,λx hx=>(by cases hx),Yae _,λi hi=>absurd hi (Yda _),by decide⟩;dsimp only [Gv];refine Gn (λσ' H'=>∃(fs:LI)(kvs:List (Key×V)),σ'=[some (.int root),some (.ref l),some (.ref O),some (.ref d),none,none,none,none,none,none]/\Same H H'/\H' O=some (.lst (fs.map V.int))/\H' d=some (.dK kvs)/\Fnd ks root fs kvs 0/\(Jd fs root).isSome/\Rch ks root fs) ?snd ?fst
  case fst=>
   intro hk;refine xe rfl (xd rfl rfl (xe rfl (J1 (λc1=>?_) (λc1=>?_))))
   ·have ab:1<root:=Ybv c1;obtain ⟨r,n,_⟩:=ar.nd ab;refine xe rfl ⟨.inl ⟨rfl,_,SqL.of (Y _ _ B)⟩,xe rfl ⟨O,xd rfl rfl ⟨Y _ _ B,by decide,?_⟩⟩⟩;refine xe rfl (xe rfl ⟨d,xe rfl ⟨DPut.k (k:=.inl root) (Gj ed (Ne.symm aj)) (by show 2<sizeLine;decide),?_⟩⟩);have hn:Jd [] root=none:=by
     unfold Jd;rw [if_neg (by lia),if_neg (by lia)]
     rfl
    refine hk _ _ ⟨[root],_,rfl,((s1.trans Y).put an).put au,Gj Gb aj,Gb,N.add hn n rfl,?_,Rch.snoc (f:=[]) .nil ⟨[],[],rfl,New.num.mpr hn,λy hy=>(by cases hy)⟩⟩;show (Jd ([]++[root]) root).isSome=true;rw [OO [] root root hn,if_pos rfl]
    rfl
   ·have ab:¬ 1<root:=λz=>c1 (Yau z);have h0:=ar.lt;refine hk _ _ ⟨[],_,rfl,s1.trans Y,Y _ _ B,ed,N,?_,.nil⟩;have hc:root=0\/root=1:=by lia
    rcases hc with rfl | rfl
    ·rw [UV];rfl
    ·rw [OQ];rfl
  case snd=>
   clear B ed N s1 Y hd;rintro σ' H2 ⟨fs,kvs,rfl,Y,B,ed,N,D,L⟩;refine Gn (λσ' H'=>σ'=[some (.int root),some (.ref l),some (.ref O),some (.ref d),some (.int 0),none,none,none,none,none]/\H'=H2) ?k0 (λhk=>hk _ _ ⟨rfl,rfl⟩);rintro σ' H' ⟨rfl,rfl⟩;refine Gn (λσ' H'=>∃(k:Int)(fs:LI)(kvs:List (Key×V))(v5:Option V),σ'=[some (.int root),some (.ref l),some (.ref O),some (.ref d),some (.int k),v5,none,none,none,none]/\Same H H'/\H' O=some (.lst (fs.map V.int))/\H' d=some (.dK kvs)/\Fnd ks root fs kvs fs.length/\(Jd fs root).isSome/\Rch ks root fs) ?after ?loop
   case loop=>
    intro hk;refine ⟨λm σ' H'=>∃(k:Nat)(fs:LI)(kvs:List (Key×V))(v5:Option V),σ'=[some (.int root),some (.ref l),some (.ref O),some (.ref d),some (.int (k:Int)),v5,none,none,none,none]/\Same H H'/\H' O=some (.lst (fs.map V.int))/\H' d=some (.dK kvs)/\Fnd ks root fs kvs k/\(Jd fs root).isSome/\Rch ks root fs/\m=ks.length-k,⟨ks.length-0,0,fs,kvs,none,rfl,Y,B,ed,N,D,L,rfl⟩,?_⟩;clear B ed N Y D L;rintro m σ' H2 ⟨k,fs,kvs,v5,rfl,Y,B,ed,N,D,L,rfl⟩;have ak:=N.le;refine xe rfl (xe rfl ⟨O,xe rfl ⟨.inl (SqL.of B),xd rfl rfl (xe rfl (J1 (λc1=>?_) (λc1=>?_)))⟩⟩)
    ·have ab:(k:Int)<((fs.map V.int).length:Int):=Ybv c1;rw [Yac] at ab;have av:k<fs.length:=by lia
     have hx:fs[k]?=some fs[k]:=Yaw av;generalize fs[k]=x at hx;obtain ⟨r,n⟩:=N.nod x (Yaz hx);obtain ⟨t,ao,ap⟩:=U7 (tr.same Y) n;obtain ⟨aH,a6,a7⟩:=T.nd n;refine ⟨_,λ_ _ h=>h,?_⟩;refine xe rfl (xe rfl (xe rfl ⟨O,_,xd rfl rfl ⟨SqL.of B,Gr (j:=k) (v:=.int x) (by rw [Yay,hx];rfl),xd rfl rfl ⟨l,_,xd rfl rfl ⟨SqL.of (Y _ _ el),ao,xe rfl ⟨t,xe rfl ⟨SqT.of ap,(λz=>by have:=z.1;simp [HT.sIx] at this),λps a8=>?_⟩⟩⟩⟩⟩⟩));obtain ⟨H3,q_,s3,aa⟩:=nwU (o:=.tup (VM [.int r.1,.int r.2.1,.int r.2.2] (some 1) none)) a8;have aa:H3 ps=some (.tup [.int r.2.1,.int r.2.2]):=aa;rw [q_];refine ⟨ps,rfl,⟨_,SqT.of aa⟩,?_⟩;have aw:∀(i:Nat)(y:V),([.int r.2.1,.int r.2.2]:List V)[i]?=some y->∃c,y=.int c/\At ks c r.1:=by
      intro i y e
      match i,e with
      | 0,e=>simp at e;exact ⟨_,e.symm,a6⟩
      | 1,e=>simp at e;exact ⟨_,e.symm,a7⟩
     let Pv:FI:=λi σ' H'=>∃(fs':LI)(U:List (Key×V))(v5:Option V),σ'=[some (.int root),some (.ref l),some (.ref O),some (.ref d),some (.int (k:Int)),v5,none,none,none,none]/\Same H H'/\H' O=some (.lst (fs'.map V.int))/\H' d=some (.dK U)/\H' ps=some (.tup [.int r.2.1,.int r.2.2])/\Fnd ks root fs' U k/\(Jd fs' root).isSome/\Rch ks root fs'/\fs'[k]?=some x/\∀(j:Nat)(c:Int),j<i->([.int r.2.1,.int r.2.2]:List V)[j]?=some (.int c)->(Jd fs' c).isSome
     refine Zy (K:=K) (a:=ps) (xs:=[.int r.2.1,.int r.2.2]) Pv
      ⟨fs,kvs,v5,rfl,Y.trans s3,s3 _ _ B,s3 _ _ ed,aa,N,D,L,hx,λj c hj=>absurd hj (Yda _)⟩ (by rintro i σ' H' _ ⟨_,_,_,_,_,_,_,e,_⟩;exact SqT.of e) ?_ ?_
     ·clear B ed aa N D L hx s3 ak c1 ab av;rintro i y σ' H4 hy ⟨fs',U,a9,rfl,s4,B,ed,aa,F1,D,L,hx,af⟩;obtain ⟨c,rfl,ac⟩:=aw i y hy;have ak:=F1.le;refine xe rfl (xe rfl ⟨d,xe rfl ⟨DGet.k (k:=.inl c) ed,xe rfl ?_⟩⟩);rw [F1.num c];cases hc:Jd fs' c with
      | some a=>
       refine O5 ?_;refine ⟨fs',U,xe rfl ⟨s4,B,ed,aa,F1,D,L,hx,λj c' hj ad=>?_⟩⟩;by_cases h:j<i
       ·exact af j c' h ad
       ·have:j=i:=by lia
        subst this;rw [hy] at ad;cases ad;rw [hc];rfl
      | none=>
       refine JX ?_;obtain ⟨h0,h1,_⟩:=UW hc;obtain ⟨rc,nc,_⟩:=ac.nd (by have:=ac.lt;lia);refine xe rfl ⟨.inl ⟨rfl,_,SqL.of B⟩,xe rfl ⟨O,xd rfl rfl ⟨B,by rw [Yac];lia,?_⟩⟩⟩;have ag:upd H4 O (.lst (fs'.map V.int++[.int c])) O=some (.lst ((fs'++[c]).map V.int)):=by rw [Gb,Yao];rfl
       have aq:upd H4 O (.lst (fs'.map V.int++[.int c])) d=some (.dK U):=Gj ed (Ne.symm aj);have am:=(GR (o:=.lst (fs'.map V.int++[.int c])) B) _ _ aa;have s5:Same H (upd H4 O (.lst (fs'.map V.int++[.int c]))):=s4.put an;generalize upd H4 O (.lst (fs'.map V.int++[.int c]))=H5 at ag aq am s5 ⊢;have aE:=F1.kl;refine xe rfl ⟨O,xe rfl ⟨.inl (SqL.of ag),xd rfl rfl (xe rfl (xe rfl ⟨d,xe rfl ⟨DPut.k (k:=.inl c) aq (by lia),?_⟩⟩))⟩⟩;have hv:(((fs'++[c]).map V.int).length:Int)+1=(fs'.length:Int)+2:=by
        rw [Yac,Yam,Ybc]
        push_cast
        lia
       have ex:Ext ks root fs' c:=by
        match i,hy with
        | 0,hy=>
         simp at hy;subst hy;exact F1.ext D hx n (pre:=[]) (post:=[r.2.2]) rfl (λy hy=>by cases hy) hc
        | 1,hy=>
         simp at hy;subst hy;exact F1.ext D hx n (pre:=[r.2.1]) (post:=[]) rfl (λy hy=>by rw [Yaj] at hy;subst hy;exact af 0 _ (by decide) rfl) hc
       refine ⟨fs'++[c],_,xe rfl ⟨s5.put au,Gj ag aj,Gb,(Zbb aq) _ _ am,F1.add hc nc hv,OR hc D,.snoc L ex,?_,λj c' hj ad=>?_⟩⟩
       ·rw [Ycx (Yal.mp hx).1];exact hx
       ·by_cases h:j<i
        ·exact OR hc (af j c' h ad)
        ·have:j=i:=by lia
         subst this;rw [hy] at ad;cases ad;rw [OO fs' c c hc,if_pos rfl]
         rfl
     ·clear B ed aa N D L s3;rintro σ' H4 ⟨fs',U,a9,rfl,s4,B,ed,aa,F1,D,L,aA,af⟩;refine xe rfl (xd rfl rfl ?_);have F2:=F1.next aA n (af 0 r.2.1 (show 0<2 by decide) rfl) (af 1 r.2.2 (show 1<2 by decide) rfl);have aI:=F2.le;have aJ:=F2.kle;exact ⟨ks.length-(k+1),by lia,k+1,fs',U,xe rfl ⟨s4,B,ed,F2,D,L,rfl⟩⟩
    ·have ab:¬ ((k:Int)<((fs.map V.int).length:Int)):=λz=>c1 (Yau z);rw [Yac] at ab;have aB:k=fs.length:=by
      have:=N.kle
      lia
     subst aB;exact hk _ _ ⟨_,fs,kvs,_,rfl,Y,B,ed,N,D,L⟩
   case after=>
    clear B ed N Y D L;rintro σ' Hw ⟨k,fs,kvs,v5,rfl,Y,B,ed,N,D,L⟩;have ak:=N.le;refine ⟨Yax _,λsl as=>?_⟩;have s3:Same Hw (upd Hw sl (.lst [])):=Same.new as;refine xe rfl ⟨O,rfl,⟨_,SqL.of (s3 _ _ B)⟩,?_⟩
    let Pv:FI:=λi σ' H'=>∃(ys:List V)(us:List Tri)(v5 v7 v8 v9:Option V),σ'=[some (.int root),some (.ref l),some (.ref O),some (.ref d),some (.int k),v5,some (.ref sl),v7,v8,v9]/\Same Hw H'/\H' sl=some (.lst ys)/\Trs H' ys us/\us.length=i/\Said ks fs us i
    refine JV (K:=K) (a:=O) (xs:=fs.map V.int) Pv
     ⟨[],[],_,none,none,none,rfl,s3,Gb,.nil,rfl,λj x hj=>absurd hj (Yda _)⟩ (by rintro i σ' H' _ ⟨_,_,_,_,_,_,_,s4,_⟩;exact SqL.of (s4 _ _ B)) ?_ ?_
    ·rintro i y σ' H4 hy ⟨ys,us,v5,v7,v8,v9,rfl,s4,ah,tus,ai,S⟩;obtain ⟨x,rfl,hx⟩:=JK hy;have hi:i<fs.length:=(Yal.mp hx).1;obtain ⟨r,n⟩:=N.nod x (Yaz hx);obtain ⟨t,ao,ap⟩:=U7 (tr.same (Y.trans s4)) n;obtain ⟨i1,i2⟩:=N.cl i hi x r hx n;obtain ⟨a1,ax⟩:=Yeh.mp i1;obtain ⟨a2,ay⟩:=Yeh.mp i2;have g1:JF kvs (.inl r.2.1)=some (.int a1):=by rw [N.num,ax];rfl
     have g2:JF kvs (.inl r.2.2)=some (.int a2):=by rw [N.num,ay];rfl
     have az:=s4 _ _ ed;have aK:=tus.len;refine xe rfl (xe rfl (xd rfl rfl ⟨l,_,xd rfl rfl ⟨SqL.of ((Y.trans s4) _ _ el),ao,t,xe rfl ⟨SqT.of ap,rfl,_,xe rfl ⟨_,xe rfl (xd rfl rfl ?_)⟩⟩⟩⟩));refine xe rfl ⟨.inl ⟨rfl,_,SqL.of ah⟩,xe rfl (xe rfl (xe rfl ⟨d,xe rfl ⟨g1▸DGet.k (k:=.inl r.2.1) az,xe rfl (xe rfl ⟨d,xe rfl ⟨g2▸DGet.k (k:=.inl r.2.2) az,(by show 3<=sizeLine;decide),λt5 aC=>?_⟩⟩)⟩⟩))⟩;obtain ⟨H5,q_,s5,aD⟩:=nwU (o:=.tup [.int r.1,.int a1,.int a2]) aC;rw [q_];refine ⟨sl,ys,xe rfl ⟨rfl,s5 _ _ ah,by lia,?_⟩⟩;have k5:=GR (o:=.lst (ys++[.ref t5])) (s5 _ _ ah);exact ⟨ys++[.ref t5],us++[(r.1,a1,a2)],_,_,_,xe rfl ⟨(s4.trans s5).put as,Gb,((tus.same s5).keep k5).snoc (k5 _ _ aD),by rw [Yam,Ybc,ai],S.snoc ai hx n ax ay⟩⟩
    ·rintro σ' H4 ⟨ys,us,v5,v7,v8,v9,rfl,s4,ah,tus,ai,S⟩;rw [Yac] at ai S;obtain ⟨a0,a3⟩:=Yeh.mp D;have g0:JF kvs (.inl root)=some (.int a0):=by rw [N.num,a3];rfl
     refine xe rfl (xe rfl ⟨d,xe rfl ⟨g0▸DGet.k (k:=.inl root) (s4 _ _ ed),xe rfl ⟨GW,λp hp=>?_⟩⟩⟩);have s5:Same H4 (upd H4 p (.tup [.int a0,.ref sl])):=Same.new hp;have S5:=(Y.trans s4).trans s5;exact q p sl a0 ys us fs _ S5 ((Y.trans s4).free hp) (Y.free as) ⟨Gb,s5 _ _ ah,tus.same s5⟩ L (N.fin D) N.nd N.nod S ai ak a3
noncomputable def ZfS:Sp:=λvs H Q _=>∃(l:AD)(root:Int)(xs:List V)(ks:List Tri),vs=[.int root,.ref l]/\H l=some (.lst xs)/\Trs H xs ks/\TabOk ks/\ks.length<=900/\At ks root (-1) /\
 ∀(j:AD)(fs:LI)(H':Hp),Same H H'->H' j=some (.lst (fs.map V.int))->Rch ks root fs->Fin ks root fs->fs.Nodup->(∀x∈fs,∃r,Nd ks x r)->Q (.ref j) H'
theorem scFou:Go ["root", "nodes", "found", "seen", "ahead", "new", "number"] ["root", "nodes"] (Gf ZfB):=⟨rfl,rfl,rfl,by decide +kernel,rfl,by decide +kernel,by decide +kernel⟩
theorem ZhO (n:Int):JF (G6 [] [(Sum.inl 0,.bl true),(Sum.inl 1,.bl true)]:List (Key×V)) (.inl n)=none↔New [] n:=by
 show JF (JH (JH [] (Sum.inl 0) (.bl true)) (Sum.inl 1) (.bl true):List (Key×V)) (.inl n)=none↔_;rw [GZ,GZ];unfold New;by_cases h1:n=1
 ·rw [if_pos (by rw [h1])];exact ⟨λz=>(by cases z),λz=>absurd h1 z.2.1⟩
 ·rw [if_neg (λz=>h1 (Yee z))];by_cases h0:n=0
  ·rw [if_pos (by rw [h0])];exact ⟨λz=>(by cases z),λz=>absurd h0 z.1⟩
  ·rw [if_neg (λz=>h0 (Yee z))];exact ⟨λ_=>⟨h0,h1,λz=>(by cases z)⟩,λ_=>rfl⟩
theorem ZfT (F:Fun K "found_from" "found_from" ZfB f fd):GG P w K mg base CX0 1 f fd ["root", "nodes"] ZfS:=by
 refine F.ok scFou (λvs H Q E h=>?_) (λa2 A a3 s H vs Q E hr h=>?_)
 ·obtain ⟨_,_,_,_,rfl,_⟩:=h
  rfl
 ·obtain ⟨l,root,xs,ks,rfl,el,tr,T,aA,ar,q⟩:=h;have aB:=Ybd.symm;have aq:(A.deeper (PyProof.Rows.envOfC "found_from" (Gf ZfB) s.heap.objs.size f a2)).units+1<cLine:=by have:=hr.un;lia
  refine ⟨_,Gc (gSt 2 scFou.nd (Gx Ge))
    (Gc (gSt 3 scFou.nd (UR (Jk Gd JM (Jk Gd JM UQ)) rfl rfl (by decide) (by decide)))
    (Gc (gSt 4 scFou.nd (Gx (Ga (pv 0) Ge)))
    (Gc (VH Ycg (Uu (pv 4) (λ_=>rfl))
    (Gc (gSt 5 scFou.nd (Gx Ge))
    (Gc (Js Ycg rfl (Om K (pv 4)) (gNm 6 scFou.nd)
    (Gg (GS (XE (UP aq (pv 6) (pv 3)) rfl) (Gc (Ow aq (pv 3) (pv 6) JM rfl)
    (Gc (G8 (kBm K Ycf Yct Ycu GB (pv 2) (Ga (pv 6) Ge)))
    (Gg (G8 (kBm K Ycf PySem.F.slot_list_extend PySem.F.type_list_extend Vv (pv 5) (Ga (Jt (Zhx K) (gIx (Of K) (pv 1) (Gm JZ (pv 6) Gd)) (JW Gd) JO) Ge)))))) Gp)))
    (Gg (gSt 4 scFou.nd (pv 5))))))
    (Gg (Gq (pv 2)))))),?_⟩
  refine lT5 ?_;intro Z R5 R4 R3 R2;refine ⟨Yax _,λN as=>?_⟩;obtain ⟨H1,q_,s1,D⟩:=nwU (o:=.lst []) as;have D:H1 N=some (.lst (([]:LI).map V.int)):=D;rw [q_];intro d hd;refine ⟨Gb,[(.inl 0,.bl true),(.inl 1,.bl true)],rfl,by decide,?_⟩;have s2:Same H1 (upd (upd H1 d (.dK [])) d (.dK (G6 [] [(.inl 0,.bl true),(.inl 1,.bl true)]))):=(Same.new hd).put hd;have U:upd (upd H1 d (.dK [])) d (.dK (G6 [] [(.inl 0,.bl true),(.inl 1,.bl true)])) d=some (.dK (G6 [] [(.inl 0,.bl true),(.inl 1,.bl true)])):=Gb;generalize upd (upd H1 d (.dK [])) d (.dK (G6 [] [(.inl 0,.bl true),(.inl 1,.bl true)]))=H2 at s2 U ⊢;have a4:H d=none:=s1.free hd;have au:N≠d:=Gh D hd;have ad:=s2 _ _ D;have av:=s1.trans s2;clear D s1 s2;refine xe rfl ⟨(by show 1<=sizeLine;decide),λY ag=>?_⟩;obtain ⟨H3,q_,s3,B⟩:=nwU (o:=.lst [.int root]) ag;have B:H3 Y=some (.lst (([root]:LI).map V.int)):=B;have aa:Y≠N:=λz=>by rw [z,ad] at ag;cases ag
  rw [q_];have W0:Wk ks root [] (G6 [] [(.inl 0,.bl true),(.inl 1,.bl true)]) [] [root]:=⟨rfl,λy hy=>(by cases hy),ZhO,Yeb,λx hx=>(by cases hx),.nil,by decide,λy hy=>by rw [Yaj] at hy;rw [hy];exact ar⟩;refine ⟨λm σ' H'=>∃(Y:AD)(fs:LI)(kvs:List (Key×V))(pr O:LI)(v5 v6:Option V),σ'=[some (.int root),some (.ref l),some (.ref N),some (.ref d),some (.ref Y),v5,v6]/\Same H H'/\H' N=some (.lst (fs.map V.int))/\H' d=some (.dK kvs)/\H' Y=some (.lst (O.map V.int))/\Y≠N/\Wk ks root fs kvs pr O/\m=ks.length-fs.length+(if O=[] then 0 else 1),
   ⟨_,Y,[],_,[],[root],none,none,rfl,av.trans s3,s3 _ _ ad,s3 _ _ U,B,aa,W0,rfl⟩,?_⟩
  clear W0 B s3 ad U av ag aa;rintro m σ' H4 ⟨Y,fs,kvs,pr,O,v5,v6,rfl,s4,D,U,B,aa,W,rfl⟩;have aC:=W.le;have aw:=W.ahl;by_cases hz:O=[]
  ·subst hz;refine xe rfl ⟨false,.inl ⟨_,SqL.of B,rfl⟩,O5 ?_⟩;exact xe rfl (q N fs _ s4 D W.rch W.fin W.nd W.nod)
  ·refine xe rfl ⟨true,.inl ⟨_,SqL.of B,by cases O with | nil=>exact absurd rfl hz | cons a b=>rfl⟩,JX ?_⟩;refine ⟨_,λ_ _ h=>h,?_⟩;refine ⟨Yax _,λnl ac=>?_⟩;obtain ⟨H5,q_,s5,L⟩:=nwU (o:=.lst []) ac;have L:H5 nl=some (.lst (([]:LI).map V.int)):=L;have a5:nl≠Y:=λz=>by rw [z,B] at ac;cases ac
   have an:nl≠N:=λz=>by rw [z,D] at ac;cases ac
   have ax:H nl=none:=s4.free ac;rw [q_];refine xe rfl ⟨Y,rfl,⟨_,SqL.of (s5 _ _ B)⟩,?_⟩
   let Pv:FI:=λi σ' H'=>∃(fs':LI)(j:List (Key×V))(nw:LI)(v6:Option V),σ'=[some (.int root),some (.ref l),some (.ref N),some (.ref d),some (.ref Y),some (.ref nl),v6]/\Same H H'/\H' N=some (.lst (fs'.map V.int))/\H' d=some (.dK j)/\H' Y=some (.lst (O.map V.int))/\H' nl=some (.lst (nw.map V.int))/\Wk ks root fs' j (pr++O.take i) (O.drop i++nw)/\((fs'=fs/\nw=[])\/fs.length<fs'.length)
   refine JV (K:=K) (a:=Y) (xs:=O.map V.int) Pv
    ⟨fs,kvs,[],_,rfl,s4.trans s5,s5 _ _ D,s5 _ _ U,s5 _ _ B,L,by rw [List.take_zero,List.drop_zero,Yef,Yef];exact W,.inl ⟨rfl,rfl⟩⟩ (by rintro i σ' H' _ ⟨_,_,_,_,_,_,_,_,e,_⟩;exact SqL.of e) ?_ ?_
   ·clear D U B L s5 W aw;rintro i y σ' H6 hy ⟨fs',j,nw,a6,rfl,s6,D,U,B,L,W,hd⟩;obtain ⟨c,rfl,hc⟩:=JK hy;have e1:O.drop i=c::O.drop (i+1):=by
     obtain ⟨hi,e⟩:=Yal.mp hc;rw [Yfs hi,e]
    have e2:pr++O.take (i+1)=(pr++O.take i)++[c]:=by
     obtain ⟨hi,e⟩:=Yal.mp hc;rw [List.take_succ_eq_append_getElem hi,e,Ybw]
    rw [e1,List.cons_append] at W;have ay:=W.le;have az:=W.ahl;rw [Ybo,Yam] at az;have aD:=W.kl;refine xe rfl (xe rfl ⟨d,xe rfl ⟨DGet.k (k:=.inl c) U,xe rfl ?_⟩⟩);cases hv:JF j (.inl c) with
    | some v=>
     refine O5 ?_;refine ⟨fs',j,nw,xe rfl ⟨s6,D,U,B,L,?_,hd⟩⟩;rw [e2];exact W.skip λz=>by rw [(W.seen c).mpr z] at hv;cases hv
    | none=>
     refine JX ?_;have ae:=(W.seen c).mp hv;obtain ⟨r,n,_⟩:=(W.ok c Ybj).nd (by have:=(W.ok c Ybj).lt;have:=ae.1;have:=ae.2.1;lia);have W':=W.take (v:=.bl true) T ae n;refine xe rfl (xe rfl ⟨d,xe rfl ⟨DPut.k (k:=.inl c) U (by lia),?_⟩⟩);have k7:=Zbb (o:=.dK (JH j (.inl c) (.bl true))) U;have af:upd H6 d (.dK (JH j (.inl c) (.bl true))) N=some (.lst (fs'.map V.int)):=Gj D au;have ai:upd H6 d (.dK (JH j (.inl c) (.bl true))) Y=some (.lst (O.map V.int)):=Gj B (Ja B U (λz=>by cases z));have aj:upd H6 d (.dK (JH j (.inl c) (.bl true))) nl=some (.lst (nw.map V.int)):=Gj L (Ja L U (λz=>by cases z));have a1:upd H6 d (.dK (JH j (.inl c) (.bl true))) d=some (.dK (JH j (.inl c) (.bl true))):=Gb;have s7:Same H (upd H6 d (.dK (JH j (.inl c) (.bl true)))):=s6.put a4;generalize upd H6 d (.dK (JH j (.inl c) (.bl true)))=H7 at af ai aj a1 s7 ⊢;clear k7;refine xe rfl ⟨.inl ⟨rfl,_,SqL.of af⟩,xe rfl ⟨N,xd rfl rfl ⟨af,by rw [Yac];lia,?_⟩⟩⟩;have ak:upd H7 N (.lst (fs'.map V.int++[.int c])) N=some (.lst ((fs'++[c]).map V.int)):=by rw [Gb,Yao];rfl
     have am:upd H7 N (.lst (fs'.map V.int++[.int c])) Y=some (.lst (O.map V.int)):=Gj ai aa;have ab:upd H7 N (.lst (fs'.map V.int++[.int c])) nl=some (.lst (nw.map V.int)):=Gj aj an;have ao:upd H7 N (.lst (fs'.map V.int++[.int c])) d=some (.dK (JH j (.inl c) (.bl true))):=Gj a1 (Ne.symm au);have s8:Same H (upd H7 N (.lst (fs'.map V.int++[.int c]))):=s7.put as;generalize upd H7 N (.lst (fs'.map V.int++[.int c]))=H8 at ak am ab ao s8 ⊢;obtain ⟨t,a7,a8⟩:=U7 (tr.same s8) n;refine xe rfl ⟨.inl ⟨rfl,_,SqL.of ab⟩,xe rfl (xe rfl (xd rfl rfl ⟨l,_,xd rfl rfl ⟨SqL.of (s8 _ _ el),a7,xe rfl ⟨t,xe rfl ⟨SqT.of a8,(λz=>by have:=z.1;simp [HT.sIx] at this),λps a9=>?_⟩⟩⟩⟩))⟩;obtain ⟨H9,q_,s9,ap⟩:=nwU (o:=.tup (VM [.int r.1,.int r.2.1,.int r.2.2] (some 1) none)) a9;have ap:H9 ps=some (.tup [.int r.2.1,.int r.2.2]):=ap;rw [q_];refine ⟨nl,ps,xd rfl rfl ⟨s9 _ _ ab,ap,by rw [Yac];show nw.length+2<=sizeLine;lia,?_⟩⟩;refine ⟨fs'++[c],_,nw++[r.2.1,r.2.2],xe rfl ⟨(s8.trans s9).put ax,Gj (s9 _ _ ak) (Ne.symm an),Gj (s9 _ _ ao) (Ja ao ab (λz=>by cases z)),Gj (s9 _ _ am) (Ne.symm a5),by rw [Gb,Yao];rfl,?_,.inr ?_⟩⟩
     ·rw [e2,<-Ybw];exact W'
     ·rw [Yam,Ybc];rcases hd with ⟨h,_⟩ | h
      ·rw [h];lia
      ·lia
   ·clear D U B L s5 W aw;rintro σ' H6 ⟨fs',j,nw,a6,rfl,s6,D,U,B,L,W,hd⟩;rw [Yac,Ybu,List.drop_length,List.nil_append] at W;have ay:=W.le;refine xe rfl ?_;refine ⟨_,?_,nl,fs',j,pr++O,nw,_,xe rfl ⟨s6,D,U,L,an,W,rfl⟩⟩;rw [if_neg hz];rcases hd with ⟨h1,h2⟩ | h
    ·rw [h1,h2,if_pos rfl];lia
    ·split <;> lia
theorem XB (h:¬ New fs y):∃a,Jd fs y=some a:=by
 cases e:Jd fs y with
 | none=>exact absurd (New.num.mpr e) h
 | some a=>exact ⟨a,rfl⟩
noncomputable def Zg5 (ks:List Tri)(x:Int):Tri:=(ks[(x-2).toNat]?).getD (0,0,0)
theorem Zbc (n:Nd ks x r):Zg5 ks x=r:=by
 unfold Zg5;rw [n.2]
 rfl
noncomputable def ZfU:Sp:=λvs H Q _=>∃(l:AD)(root:Int)(xs:List V)(ks:List Tri),vs=[.int root,.ref l]/\H l=some (.lst xs)/\Trs H xs ks/\TabOk ks/\ks.length<=900/\At ks root (-1)/\ZfQ H ks root Q
theorem scNum:Go ["root", "nodes", "found", "numbers", "place", "number", "told"] ["root", "nodes"] (Gf ZfC):=⟨rfl,rfl,rfl,by decide +kernel,rfl,by decide +kernel,by decide +kernel⟩
theorem ZfV (F:Fun K "numbered" "numbered" ZfC f fd)(FF:Fun K "found_from" "found_from" ZfB fF ae)(bF:Binds K ae ["root", "nodes"] [])(mF:mg "found_from" = some (.ref fF))(GF:GG P w K mg base CX0 1 fF ae ["root", "nodes"] ZfS)(af:mg "enumerate" = none) :
  GG P w K mg base CX0 2 f fd ["root", "nodes"] ZfU:=by
 refine F.ok scNum (λvs H Q E h=>?_) (λau A av s H vs Q E hr h=>?_)
 ·obtain ⟨_,_,_,_,rfl,_⟩:=h
  rfl
 ·obtain ⟨l,root,xs,ks,rfl,el,tr,T,aw,ar,q⟩:=h;have aA:=Ybd.symm;have aa:(A.deeper (PyProof.Rows.envOfC "numbered" (Gf ZfC) s.heap.objs.size f au)).units+1<cLine:=by have:=hr.un;lia
  refine ⟨_,Gc (gSt 2 scNum.nd (gCa GF mF FF.kp bF GH (Ga (pv 0) (Ga (pv 1) Ge))))
    (Gc (gSt 3 scNum.nd (UR (Jk Gd Gd (Jk Gd Gd UQ)) rfl rfl (by decide) (by decide)))
    (Gc (Js Ycg rfl (Zht K rfl af (Ga (pv 2) Ge)) (Xc K (n:=2) rfl (Gk (gNm 4 scNum.nd) (Gk (gNm 5 scNum.nd) G9)))
    (Gg (Ow aa (pv 3) (pv 5) (Gm GT (pv 4) Gd) rfl)))
    (Gc (Ov (i:=6) scNum.nd rfl (Or.inl rfl) (own:=["number"]) rfl (gSc [("nodes", 1)]) (Om K (pv 2)) (λ_ _ _ _=>gNm 0 (show List.Nodup (["number", "nodes"]:List Str) by decide +kernel)) (λ_ _ _ _=>GY) (λ_ _ _ _=>gIx (Of K) (pv 1) (Gm JZ (pv 0) Gd)))
    (Gg (Gq (GC (Ga (gDg aa (pv 3) (pv 0)) (Ga (Jz (own:=["road", "low", "high"]) rfl (gSc [("numbers", 3)]) (Om K (pv 6)) (λ_ _ _ _=>Xc K (n:=3) rfl (Gk (gNm 0 (show List.Nodup (["road", "low", "high", "numbers"]:List Str) by decide +kernel)) (Gk (gNm 1 (show List.Nodup (["road", "low", "high", "numbers"]:List Str) by decide +kernel)) (Gk (gNm 2 (show List.Nodup (["road", "low", "high", "numbers"]:List Str) by decide +kernel)) G9)))) (λ_ _ _ _=>GY) (λ_ _ _ _=>GC (Ga (pv 0) (Ga (gDg aa (pv 3) (pv 1)) (Ga (gDg aa (pv 3) (pv 2)) Ge))))) Ge)))))))),?_⟩
  refine lT5 ?_;intro Z R5 R4 R3 R2;refine xe rfl (xe rfl ⟨l,root,xs,ks,rfl,el,tr,T,aw,ar,λfl fs H1 s1 ab ax fin nd N=>?_⟩);have ay:fs.length<=ks.length:=by
   have:=Ydb (l₂:=(List.range ks.length).map λ(i:Nat)=>(i:Int)+2) nd λx hx=>by
    obtain ⟨r,n⟩:=N x hx;have h1:=n.lt;have h2:=n.1;exact Yai.mpr ⟨(x-2).toNat,Ycc.mpr (by lia),by lia⟩
   rwa [Yac,Ydg] at this
  dsimp only [Gv];intro d hd;refine ⟨Gb,[(.inl 0,.int 0),(.inl 1,.int 1)],rfl,by decide,?_⟩;have s2:Same H1 (upd (upd H1 d (.dK [])) d (.dK (G6 [] [(.inl 0,.int 0),(.inl 1,.int 1)]))):=(Same.new hd).put hd;have ed:upd (upd H1 d (.dK [])) d (.dK (G6 [] [(.inl 0,.int 0),(.inl 1,.int 1)])) d=some (.dK (G6 [] [(.inl 0,.int 0),(.inl 1,.int 1)])):=Gb;dsimp only [Gv];generalize upd (upd H1 d (.dK [])) d (.dK (G6 [] [(.inl 0,.int 0),(.inl 1,.int 1)]))=H2 at s2 ed ⊢;have ai:=s1.trans s2;have aj:=s2 _ _ ab;have aB:=ai _ _ el;have aC:=tr.same ai;have aD:H d=none:=s1.free hd;refine Gn (λY H'=>∃(kvs:List (Key×V))(v4 v5:Option V),Y=[some (.int root),some (.ref l),some (.ref fl),some (.ref d),v4,v5,none]/\Same H1 H'/\H' d=some (.dK kvs)/\∀n:Int,JF kvs (.inl n)=(Jd fs n).map V.int) ?s1 ?f1
  case f1=>
   intro hk;refine xe rfl ⟨fl,xe rfl ⟨SqL.of aj,?_⟩⟩
   let Pv:FI:=λi Y H'=>∃(kvs:List (Key×V))(v4 v5:Option V),Y=[some (.int root),some (.ref l),some (.ref fl),some (.ref d),v4,v5,none]/\Same H1 H'/\H' d=some (.dK kvs)/\(∀n:Int,JF kvs (.inl n)=(Jd (fs.take i) n).map V.int)/\kvs.length<=i+2
   refine ZbY (K:=K) (a:=fl) (xs:=fs.map V.int) Pv
    ⟨_,none,none,rfl,s2,ed,λn=>by rw [List.take_zero];exact Zh8 n,by decide⟩ (by rintro i Y H' _ ⟨_,_,_,_,B,_⟩;exact SqL.of (B _ _ ab)) ?_ ?_
   ·rintro i x Y H3 T3 ag ⟨kvs,v4,v5,rfl,B,e3,val,len⟩ hT;obtain ⟨c,rfl,L⟩:=JK ag;have hi:i<fs.length:=(Yal.mp L).1;obtain ⟨r,n⟩:=N c (Yaz L);have hn:Jd (fs.take i) c=none:=New.num.mp ⟨by have:=n.1;lia,by have:=n.1;lia,λz=>by
     have hz:=nd;rw [<-Ydq (i+1) fs,Ybx,L,Option.toList_some] at hz;exact (Yco.mp (Yco.mp hz).1).2.2 c z c (by simp) rfl⟩
    have az:d≠T3:=Gh e3 hT;refine ⟨T3,xe rfl ⟨SqT.of Gb,rfl,_,xe rfl (xd rfl rfl ?_)⟩⟩;have a3:=GM kvs (Sum.inl c:Key) (.int ((i:Int)+2));refine xe rfl (xd rfl rfl (xe rfl (xe rfl ⟨d,xe rfl ⟨DPut.k (k:=Sum.inl c) (Gj e3 az) (by lia),?_⟩⟩)));refine ⟨_,_,xe rfl ⟨(B.put (B.free hT)).put hd,Gb,λm=>?_,Ybr a3 (by lia)⟩⟩;rw [Ybx,L,Option.toList_some,OO _ m c hn,GZ,val m,Ybn,Yev (Ycw hi)];by_cases e:m=c
    ·rw [if_pos e,if_pos (by rw [e])]
     rfl
    ·rw [if_neg e,if_neg (λz=>e (Yee z))]
   ·rintro Y H3 ⟨kvs,v4,v5,rfl,B,e3,val,len⟩;rw [Yac,Ybu] at val;exact hk _ _ ⟨kvs,v4,v5,rfl,B,e3,val⟩
  rintro Y H3 ⟨kvs,v4,v5,rfl,B,e3,val⟩;have a4:=tr.same (s1.trans B);refine Gn (λY H'=>∃(tl:AD)(ys:List V),Y=[some (.int root),some (.ref l),some (.ref fl),some (.ref d),v4,v5,some (.ref tl)]/\Same H3 H'/\H' tl=some (.lst ys)/\Trs H' ys (fs.map (Zg5 ks))) ?s2 ?f2
  case f2=>
   intro hk;refine xe rfl ⟨fl,rfl,⟨_,SqL.of (B _ _ ab)⟩,λD hD=>?_⟩
   let Pv:CI:=λi ys H'=>Same H3 H'/\H' D=some (.lst ys)/\Trs H3 ys ((fs.take i).map (Zg5 ks))
   refine Jo (K:=K) (a:=fl) (xs:=fs.map V.int) Pv ⟨Same.new hD,Gb,by rw [List.take_zero];exact .nil⟩ (by rintro i ys H' _ ⟨O,_⟩;exact SqL.of (O _ _ (B _ _ ab))) ?_ ?_
   ·rintro i x ys H4 ag ⟨O,ah,ty⟩;obtain ⟨c,rfl,L⟩:=JK ag;have hi:i<fs.length:=(Yal.mp L).1;obtain ⟨r,n⟩:=N c (Yaz L);obtain ⟨t,a5,a6⟩:=U7 a4 n;have ac:=ty.len;rw [Yac,Ybn] at ac;refine ⟨⟨rfl,trivial⟩,?_⟩;unfold XN;refine JX ?_;refine xe rfl (xe rfl (xd rfl rfl ⟨l,_,xd rfl rfl ⟨SqL.of (O _ _ ((s1.trans B) _ _ el)),a5,?_⟩⟩));refine ⟨ah,by lia,O.put hD,Gb,?_⟩;rw [Ybx,L,Option.toList_some,Yao,List.map_singleton,Zbc n];exact ty.snoc a6
   ·rintro ys H4 ⟨O,ah,ty⟩;rw [Yac,Ybu] at ty;exact hk _ _ ⟨D,ys,rfl,O,ah,ty.same O⟩
  rintro Y H4 ⟨tl,ys,rfl,O,ak,ty⟩;obtain ⟨a0,al⟩:=XB (fin root (by unfold WS;exact Ybj));have g0:JF kvs (.inl root)=some (.int a0):=by rw [val,al];rfl
  have am:=O _ _ e3;refine xe rfl (xe rfl ⟨d,xe rfl ⟨g0▸DGet.k (k:=.inl root) am,?_⟩⟩);refine xe rfl ⟨tl,rfl,⟨_,SqL.of ak⟩,λD hD=>?_⟩
  let Pv:CI:=λi zs H'=>Same H4 H'/\H' D=some (.lst zs)/\∃us,Trs H' zs us/\us.length=i/\Said ks fs us i
  refine Jo (K:=K) (a:=tl) (xs:=ys) Pv ⟨Same.new hD,Gb,[],.nil,rfl,λj x hj=>absurd hj (Yda _)⟩ (by rintro i zs H' _ ⟨s5,_⟩;exact SqL.of (s5 _ _ ak)) ?_ ?_
  ·rintro i y zs H5 a7 ⟨s5,ad,us,tus,U,S⟩;obtain ⟨t,r,rfl,et,er⟩:=ty.get a7;rw [Yay] at er;obtain ⟨c,L,an⟩:=Ybt.mp er;obtain ⟨r',n⟩:=N c (Yaz L);rw [Zbc n] at an;subst an;have hi:i<fs.length:=(Yal.mp L).1;have ao:∀z,z∈[r'.2.1,r'.2.2]->z∈WS ks root fs:=λz hz=>by
    unfold WS;exact Ybf _ (List.mem_flatMap.mpr ⟨c,Yaz L,by rw [X5 n];exact hz⟩)
   obtain ⟨a1,ap⟩:=XB (fin _ (ao r'.2.1 (by simp)));obtain ⟨a2,aq⟩:=XB (fin _ (ao r'.2.2 (by simp)));have g1:JF kvs (.inl r'.2.1)=some (.int a1):=by rw [val,ap];rfl
   have g2:JF kvs (.inl r'.2.2)=some (.int a2):=by rw [val,aq];rfl
   have as:=s5 _ _ am;have aE:=tus.len;refine ⟨t,xe rfl ⟨SqT.of (s5 _ _ et),rfl,_,xe rfl ⟨_,xe rfl (xd rfl rfl ⟨⟨rfl,trivial⟩,?_⟩)⟩⟩⟩;unfold XN;refine JX ?_;refine xe rfl (xe rfl (xe rfl ⟨d,xe rfl ⟨g1▸DGet.k (k:=.inl r'.2.1) as,xe rfl (xe rfl ⟨d,xe rfl ⟨g2▸DGet.k (k:=.inl r'.2.2) as,(by show 3<=sizeLine;decide),λt5 a8=>?_⟩⟩)⟩⟩));obtain ⟨H6,q_,s6,a9⟩:=nwU (o:=.tup [.int r'.1,.int a1,.int a2]) a8;rw [q_];have k5:=GR (o:=.lst (zs++[.ref t5])) (s6 _ _ ad);exact ⟨s6 _ _ ad,by lia,(s5.trans s6).put hD,Gb,us++[(r'.1,a1,a2)],((tus.same s6).keep k5).snoc (k5 _ _ a9),by rw [Yam,Ybc,U],S.snoc U L n ap aq⟩
  ·rintro zs H5 ⟨s5,ad,us,tus,U,S⟩;have ac:=ty.len;rw [Yac] at ac;rw [ac] at U S;refine ⟨GW,λp hp=>?_⟩;have s6:Same H5 (upd H5 p (.tup [.int a0,.ref D])):=Same.new hp;have sa:=((s1.trans B).trans O).trans s5;exact q p D a0 zs us fs _ (sa.trans s6) (sa.free hp) (((s1.trans B).trans O).free hD) ⟨Gb,s6 _ _ ad,tus.same s6⟩ ax fin nd N S U ay al
end
section
variable {P:PP}{w:Ab}{K:FG}{mg:Str->Option Aa}{base:Heap}{κ:Type}[DecidableEq κ]{G:GK P w κ}{pf:κ->Pt κ}{Dom:κ->Prop}
noncomputable def FrD (nl pd tb:AD)(H H':Hp):Prop:=∀b o,b≠nl->b≠pd->b≠tb->H b=some o->H' b=some o
noncomputable def ZfW (G:GK P w κ)(pf:κ->Pt κ)(Dom:κ->Prop)(j C q tb:AD):Sp:=λvs H Q E=>∃(b p nl pd:AD)(s:κ)(U Un:List κ)(M:Int)(xs0:List V)(ts0:List Tri)(kv0:List (List Key×V)),vs=[.ref b,.ref j,.ref p]/\G.At H b s/\Dom s/\(∀k,Rc pf s k->k∈U)/\(∀k,Rc pf s k->Uo (pf k)=true->k∈Un)/\ts0.length+U.length<=10000/\ZhM pf s/\LD tb H /\
 ShelfAt C H p nl pd (.int M) xs0 ts0 kv0/\ShOk ts0 /\
 (∀(c:Int)(xs:List V)(ts:List Tri)(kvs:List (List Key×V))(H':Hp),FrD nl pd tb H H'->LD tb H'->ShelfAt C H' p nl pd (.int M) xs ts kvs->Grw pf s ts0 ts->ts.length<=ts0.length+Un.length->((ts.length:Int)<=M\/ts=ts0)->(∀k,Rc pf s k->∃c,NumOk pf ts k c)->NumOk pf ts s c->Q (.int c) H') /\
 (∀(ts:List Tri)(H':Hp),FrD nl pd tb H H'->LD tb H'->Grw pf s ts0 ts->M<ts.length->ts.length<=ts0.length+Un.length->E (.ref q) none H')
theorem scLdn:Go ["start", "parts", "shelf", "numbers", "part", "rising", "road", "low", "high", "found"] ["start", "parts", "shelf"] (Gf ZeF):=⟨rfl,rfl,rfl,by decide +kernel,rfl,by decide +kernel,by decide +kernel⟩
theorem Ziw (j:PE X o td)(hi:PE X i ty)(q:Zff i)(B:X.prog=P:=by rfl)(D:X.w=w:=by rfl)(L:X.A.units+71<cLine:=by assumption):PE X (.Subscript o i pos) (Zh6 G td ty):=by
 subst B D;exact O0 L j hi q
theorem VD (h:LamSt T j col qual H)(k:∀b o,((∃ps,o=.tbl ps)\/∃q,o=.frz q (.own b))->H b=some o->H' b=some o):LamSt T j col qual H':=by
 rcases h with e | ⟨c,e,q,B,D⟩
 ·exact .inl (k _ _ (.inl ⟨_,rfl⟩) e)
 ·exact .inr ⟨c,k _ _ (.inl ⟨_,rfl⟩) e,q,k _ _ (.inr ⟨_,rfl⟩) B,D⟩
theorem Zcz {qs:GKv κ}(N:qs.Pairwise λa b=>rdP (pf b.1)<=rdP (pf a.1))(hi:qs[i]?=some q)(O:B∈qs)(U:rdP (pf q.1)<rdP (pf B.1)):B∈qs.take i:=by
 obtain ⟨j,Y,e⟩:=Yck O;obtain ⟨D,L⟩:=Yal.mp hi;by_cases h:j<i
 ·exact List.mem_take_iff_getElem.mpr ⟨j,by lia,e⟩
 ·by_cases h2:i=j
  ·subst h2;rw [<-e,L] at U
   lia
  ·have:=Yec.mp N i j D Y (by lia);rw [e,L] at this
   lia
theorem U9 (h:Uo (pf k)=true):∃r a b,pf k=.node r a b:=by
 cases e:pf k with
 | leaf n=>rw [e] at h;cases h
 | node r a b=>exact ⟨r,a,b,rfl⟩
theorem Zbd {α:Type}{xs:List α}{x:α}(p:α->Bool)(h:xs[i]?=some x):(xs.take (i+1)).filter p=if p x=true then (xs.take i).filter p++[x] else (xs.take i).filter p:=by
 rw [Ybx,h,Option.toList_some,Yen];by_cases e:p x=true
 ·rw [if_pos e];simp [e]
 ·rw [if_neg e];simp [e]
theorem ZfX (F:Fun K "laid_down" "laid_down" ZeF f fd)(hc:fd.code=.ref c)(hC:W.CodeHd base c tb)(aX:base.BuiltinsAt mg tb)(aY:Fun K "parts_below" "parts_below" ZfA a4 ah)(aZ:Binds K ah ["start", "parts"] [])(ba:mg "parts_below" = some (.ref a4))(bb:GG P w K mg base CX0 (kp+1) a4 ah ["start", "parts"] (λvs H Q E=>(∀b s,vs=[.ref b,.ref fP]->G.At H b s->Dom s)/\ZfM G pf fP vs H Q E))(inj:∀{H:Hp}{b:AD}{k k':κ},G.At H b k->G.At H b k'->k=k')(TS:ZfH K mg C TM)(aB:Zhg K C "put" aw)(aC:Binds K ai ["self", "road", "low", "high"] [])(aD:GG P w K mg base (CXr P w) 1 aw ai ["self", "road", "low", "high"] (ZfK C TM))(bc:W.kitOne K (.type "int") (.type "tuple")=some false)(aE:W.kitOne K (.type "tuple") (.type "int")=some false)(ax:mg "isinstance" = none)(aF:mg "tuple" = none)(aG:mg "int" = none)(aH:mg "sorted" = none) :
  GG P w K mg base (CXr P w) (kp+2) f fd ["start", "parts", "shelf"] (ZfW G pf Dom fP C TM tb):=by
 refine Fun.okRC F hc scLdn (λvs H Q E h=>?_) (λA bd s H vs Q E hr h=>?_)
 ·obtain ⟨_,_,_,_,_,_,_,_,_,_,_,rfl,_⟩:=h
  rfl
 ·obtain ⟨b,p,nl,pd,st,U,Un,M,a5,aa,a6,rfl,hb,be,hU,bf,bG,PO,ld,S0,bg,qq,qe⟩:=h;have O:(A.deeper (PyProof.Rows.envOfC "laid_down" (Gf ZeF) s.heap.objs.size f (.ref c))).units+71<cLine:=by have:=hr.un;lia
  have aI:(A.deeper (PyProof.Rows.envOfC "laid_down" (Gf ZeF) s.heap.objs.size f (.ref c))).units+80<cLine:=by have:=hr.un;lia
  have jJ:=hr.depth;have bH:=Ybd.symm;refine ⟨_,Gc (gSt 9 scLdn.nd (VJ bb hr rfl ba aY.kp aZ .nil GH (Ga (pv 0) (Ga (pv 1) Ge))))
    (Gc (gSt 3 scLdn.nd (Za1 (G:=G)))
    (Gc (Js PassesOwn.leaving rfl (Yp (G:=G) (pv 9)) (gNm 4 scLdn.nd)
    (Gg (GS (UF (Jb (ZbB K) rfl ax Jj (Ga (O0 (G:=G) O (pv 9) (pv 4) (λ_ _=>rfl)) (Ga (UO aG XU) Ge)))) (Gg (Xz (G:=G) O (pv 3) (pv 4) (O0 (G:=G) O (pv 9) (pv 4) (λ_ _=>rfl)) rfl)) Gp)))
    (Gc (Ov (i:=5) scLdn.nd rfl (Or.inl rfl) (own:=["part"]) rfl (gSc [("found", 9)]) (Yp (G:=G) (pv 9)) (λ_ _ _ _=>gNm 0 (show List.Nodup (["part", "found"]:List Str) by decide +kernel)) (λ_ _ _ _=>OE (UF (Jb (ZbB K) rfl ax Jj (Ga (Ziw (G:=G) (pv 1) (pv 0) (λ_ _=>rfl)) (Ga (UO aF Jv) Ge))))) (λ_ _ _ _=>pv 0))
    (Gc (Js PassesOwn.leaving rfl (Om K (VA (Zl (G:=G) (K:=K) (j:=9) (x:=Str.ofString "part") (y:=Str.ofString "found") (cc:=s.heap.objs.size+1) (qual:=Str.ofString "laid_down.<locals>.<lambda>") (params:={ posonlyargs:=[],args:=[{ arg := "part", annotation:=none,pos:=⟨77,42,77,46⟩:PySem.Arg }],vararg:=none,kwonlyargs:=[],kw_defaults:=[],kwarg:=none,defaults:=[]:PySem.Arguments }) (pm:=(mg "__name__").getD .none) (scope:={ kind:=PySem.ScopeKind.function,names:=[(PySem.Str.ofString "part", PySem.NameKind.local),(PySem.Str.ofString "found", PySem.NameKind.free)],isGenerator:=false,isCoroutine:=false,more:=[]:PySem.Scope }) (p1:=⟨77,48,77,53⟩) (p2:=⟨77,54,77,58⟩) (p5:=⟨77,48,77,59⟩) (p6:=⟨77,60,77,61⟩) (p7:=⟨77,48,77,62⟩) (d2:=0) rfl jJ aI rfl (Or.inr (Or.inl rfl)) rfl rfl rfl rfl rfl (λ_ _ _=>rfl) rfl rfl (by decide +kernel) (by decide) (by decide) (by decide)) rfl aH Yfa (Ga (pv 5) Ge) (VL (Zc6 (qual:=Str.ofString "laid_down.<locals>.<lambda>") (clos:=[(Str.ofString "found", s.heap.objs.size+1)]) rfl rfl hC aX rfl) (VL JM ZcS)))) (gNm 4 scLdn.nd)
    (Gc (OC (O0 (G:=G) O (pv 9) (pv 4) (λ_ _=>rfl)) (Xc K (n:=3) rfl (Gk (gNm 6 scLdn.nd) (Gk (gNm 7 scLdn.nd) (Gk (gNm 8 scLdn.nd) G9)))))
    (Gg (Xz (G:=G) O (pv 3) (pv 4) (ZdA (pv 2) TS.cl aB aD (hr.mono (by lia)) aC .nil ZdK (Ga (pv 6) (Ga (O0 (G:=G) O (pv 3) (pv 7) (λ_ _=>rfl)) (Ga (O0 (G:=G) O (pv 3) (pv 8) (λ_ _=>rfl)) Ge)))) rfl))))
    (Gg (Gq (O0 (G:=G) O (pv 3) (pv 0) (λ_ _=>rfl)))))))),?_⟩
  refine lT6 ?_;intro Z R6 R5 R4 R3 R2;refine xe rfl (xe rfl ⟨(λb' s' e aj=>?_),b,st,U,rfl,hb,hU,by lia,λL kvs H1 s1 bi ef F1 a7 bI=>?_⟩)
  ·have e1:b=b':=by
    have:=Ybg (·[0]?) e;exact V.ref.inj (Ybk this)
   rw [inj aj (e1▸hb)];exact be
  have bj:LD tb H1:=ld.same s1;have S1:=S0.same s1;have a8:∀q∈kvs,Rc pf st q.1:=F1.rc;dsimp only [Gv];intro B ao;have ap:L≠B:=Gh ef ao;have aJ:upd H1 B (gd G B ([]:GKv κ)) L=some (gd G L kvs):=Gj ef ap;have aK:upd H1 B (gd G B ([]:GKv κ)) B=some (gd G B ([]:GKv κ)):=Gb;have s2:Same H1 (upd H1 B (gd G B ([]:GKv κ))):=Same.new ao;dsimp only [Gv];change Gu _ _ _ _ (upd H1 B (gd G B ([]:GKv κ)));generalize upd H1 B (gd G B ([]:GKv κ))=H2 at aJ aK s2 ⊢;have gK:∀{H':Hp},(∀a u,a≠L->H1 a=some u->H' a=some u)->∀a ys,H1 a=some (.tup ys)->H' a=some (.tup ys):=λk a ys e=>k a _ (Ja e ef (λz=>by cases z)) e;have gG:∀{H':Hp}{o:Obj}{q:κ×AD×V},(∀a u,a≠L->H1 a=some u->H' a=some u)->H' L=some (.frz o (gd G L kvs))->q∈kvs->Zh G H' L (.ref q.2.1) (some q.2.2):=λ{H' o q} k e hq=>⟨kvs,q.1,q.2.1,.inr ⟨o,e⟩,F1.ks.keep (gK k),rfl,G.keep (F1.ks q hq) (gK k),(Zba F1.nd (b:=q.2.1) (v:=q.2.2) hq).symm⟩;refine Gn (λσ' H'=>∃(o:Obj)(nvs:GKv κ)(v4:Option V),σ'=[some (.ref b),some (.ref fP),some (.ref p),some (.ref B),v4,none,none,none,none,some (.ref L)]/\(∀a u,a≠L->H1 a=some u->H' a=some u)/\H' L=some (.frz o (gd G L kvs))/\H' B=some (gd G B nvs)/\NV G pf aa (λk=>Uo (pf k)=false) kvs H' nvs) ?s1 ?f1
  case f1=>
   intro hk;refine xe rfl ⟨L,kvs,rfl,.inl ⟨aJ,λo=>?_⟩⟩
   let Pv:FI:=λi σ' H'=>∃(nvs:GKv κ)(v4:Option V),σ'=[some (.ref b),some (.ref fP),some (.ref p),some (.ref B),v4,none,none,none,none,some (.ref L)]/\(∀a u,a≠L->H1 a=some u->H' a=some u)/\H' L=some (.frz o (gd G L kvs))/\H' B=some (gd G B nvs)/\NV G pf aa (λk=>k∈(kvs.take i).map (·.1)/\Uo (pf k)=false) kvs H' nvs
   refine Za3 (G:=G) (a:=L) (o:=o) (kvs:=kvs) Pv
    ⟨[],none,rfl,λa u n e=>Gj (s2 _ _ e) n,Gb,Gj aK (Ne.symm ap),⟨λq hq=>(by cases hq),Yeb,λq hq=>(by cases hq),λq hq=>(by cases hq),λq hq d=>by have:=d.1;simp at this⟩⟩ (by rintro i σ' H' _ ⟨_,_,_,_,e,_⟩;exact e) ?_ ?_
   ·rintro i k bk v σ' H3 ae ⟨nvs,v4,rfl,k3,ab,ac,N⟩;have hm:(k,bk,v)∈kvs:=Yaz ae;have bm:i<kvs.length:=(Yal.mp ae).1;have gg:Zh G H3 L (.ref bk) (some v):=gG k3 ab hm;have pv:=(F1.pv _ hm).keep (gK k3);have tk:(kvs.take (i+1)).map (·.1)=(kvs.take i).map (·.1)++[k]:=by
     rw [Ybx,ae,Yao]
     rfl
    dsimp only [Gv];cases Y:pf k with
    | leaf n=>
     dsimp only at pv;rw [Y] at pv;obtain rfl:v=.int n:=pv;refine xe rfl (xe rfl ⟨L,xe rfl ⟨gg,_,_,true,rfl,⟨_,rfl,JX ?_⟩,.inl ⟨_,.int _,rfl,Oe⟩⟩⟩);have aq:¬ (k∈(kvs.take i).map (·.1)/\Uo (pf k)=false):=λz=>by
      have hz:=F1.nd;rw [<-Ydq (i+1) kvs,Yao,tk] at hz;exact (Yco.mp (Yco.mp hz).1).2.2 k z.1 k (by simp) rfl
     have hl:=N.len;refine xe rfl (xe rfl ⟨L,xe rfl ⟨gg,xe rfl (xe rfl ⟨B,bk,nvs,k,rfl,rfl,ac,N.ks,G.keep (F1.ks _ hm) (gK k3),N.none aq,by lia,?_⟩)⟩⟩);have t4:∀a ys,H3 a=some (.tup ys)->upd H3 B (gd G B (nvs++[(k,bk,.int n)])) a=some (.tup ys):=λa ys e=>Gj e (Ja e ac (λz=>by cases z));refine ⟨_,xe rfl ⟨λa u n e=>Gj (k3 a u n e) (λz=>by rw [z,ao] at e;cases e),Gj ab ap,Gb,?_⟩⟩;refine ((N.snoc (G.keep (F1.ks _ hm) (gK k3)) aq (Yai.mpr ⟨_,hm,rfl⟩) (NumOk.leaf Y (PO.lf k n (a8 _ hm) Y))).keep t4).like λx _=>?_;rw [tk,Yak,Yaj];constructor
     ·rintro (h | rfl)
      ·exact ⟨.inl h.1,h.2⟩
      ·exact ⟨.inr rfl,by rw [Y];rfl⟩
     ·rintro ⟨h | rfl,h2⟩
      ·exact .inl ⟨h,h2⟩
      ·exact .inr rfl
    | node r lo hi=>
     dsimp only at pv;rw [Y] at pv;obtain ⟨t,bl,bh,rfl,et,_⟩:=pv;refine xe rfl (xe rfl ⟨L,xe rfl ⟨gg,_,_,false,rfl,⟨_,rfl,O5 ?_⟩,.inl ⟨_,.tup et,rfl,aE⟩⟩⟩);refine ⟨_,xe rfl ⟨k3,ab,ac,N.like λx _=>?_⟩⟩;rw [tk,Yak,Yaj];constructor
     ·rintro ⟨h,h2⟩;exact ⟨.inl h,h2⟩
     ·rintro ⟨h | rfl,h2⟩
      ·exact ⟨h,h2⟩
      ·rw [Y] at h2;cases h2
   ·rintro σ' H3 ⟨nvs,v4,rfl,k3,ab,ac,N⟩;refine hk _ _ ⟨o,nvs,v4,rfl,k3,ab,ac,N.like λx hx=>?_⟩;rw [Ybu];exact ⟨λh=>h.2,λh=>⟨hx,h⟩⟩
  rintro σ' H3 ⟨o,ay,v4,rfl,k3,ab,ac,N0⟩;refine Gn (λσ' H'=>∃(ri:AD),σ'=[some (.ref b),some (.ref fP),some (.ref p),some (.ref B),v4,some (.ref ri),none,none,none,some (.ref L)]/\Same H3 H'/\H3 ri=none/\H' ri=some (.lst ((kvs.filter λq=>Uo (pf q.1)).map λq=>V.ref q.2.1))) ?s2 ?f2
  case f2=>
   intro hk;refine xe rfl ⟨L,kvs,rfl,.inr ⟨o,ab,λD hD=>?_⟩⟩;refine Zj (G:=G) (a:=L) (o:=o) (kvs:=kvs) (λi ys H'=>Same H3 H'/\H' D=some (.lst ys)/\ys=((kvs.take i).filter λq=>Uo (pf q.1)).map λq=>V.ref q.2.1) ⟨Same.new hD,Gb,rfl⟩ (by rintro i ys H' _ ⟨s4,_⟩;exact s4 _ _ ab) ?_ ?_
   ·rintro i k bk v ys H4 ae ⟨s4,ak,rfl⟩;have hm:(k,bk,v)∈kvs:=Yaz ae;have k4:∀a u,a≠L->H1 a=some u->H4 a=some u:=λa u n e=>s4 _ _ (k3 a u n e);have gg:Zh G H4 L (.ref bk) (some v):=gG k4 (s4 _ _ ab) hm;have pv:=(F1.pv _ hm).keep (gK k4);rw [Zbd _ ae];refine ⟨⟨rfl,trivial⟩,?_⟩;cases Y:pf k with
    | leaf n=>
     dsimp only at pv;rw [Y] at pv;obtain rfl:v=.int n:=pv;refine xe rfl (xe rfl ⟨L,xe rfl ⟨gg,_,_,false,rfl,⟨_,rfl,O5 ?_⟩,.inl ⟨_,.int _,rfl,bc⟩⟩⟩);exact ⟨s4,ak,by simp [Y,Uo]⟩
    | node r lo hi=>
     dsimp only at pv;rw [Y] at pv;obtain ⟨t,bl,bh,rfl,et,_⟩:=pv;refine xe rfl (xe rfl ⟨L,xe rfl ⟨gg,_,_,true,rfl,⟨_,rfl,JX ?_⟩,.inl ⟨_,.tup et,rfl,Oe⟩⟩⟩);refine xe rfl ⟨ak,?_,s4.put hD,Gb,by simp [Y,Uo]⟩;rw [Yac];have:=Yfb (λq:κ×AD×V=>Uo (pf q.1)) (kvs.take i);rw [Ybn] at this
     lia
   ·rintro ys H4 ⟨s4,ak,rfl⟩;rw [Ybu] at ak;exact hk _ _ ⟨D,rfl,s4,hD,ak⟩
  rintro σ' H4 ⟨ri,rfl,s4,bJ,bn⟩;have bo:=s4 _ _ ab;have bp:=s4 _ _ ac;have N4:=N0.keep λa ys e=>s4 _ _ e;have k4:∀a u,a≠L->H1 a=some u->H4 a=some u:=λa u n e=>s4 _ _ (k3 a u n e);have aL:LD tb H4:=VD bj λa u h e=>k4 a u (λz=>by
   rw [z,ef] at e;rcases h with ⟨_,rfl⟩ | ⟨_,rfl⟩ <;> cases e) e
  have S4:ShelfAt C H4 p nl pd (.int M) a5 aa a6:=⟨S1.ob.elim λdx e=>⟨dx,k4 _ _ (Ja e ef (λz=>by cases z)) e⟩,k4 _ _ (Ja S1.nd ef (λz=>by cases z)) S1.nd,S1.tr.keep (gK k4),k4 _ _ (Ja S1.pl ef (λz=>by cases z)) S1.pl,S1.ok⟩;obtain ⟨bK,eT⟩:=aL.tbl;refine xe rfl ⟨aL,λfl c' bq H5 sl on bL br=>?_⟩;obtain ⟨bt,oc,aM,aN⟩:=on;have n5:∀a u,(∀ps,u≠.tbl ps)->H4 a=some u->H5 a=some u:=λa u hu e=>sl a u (λz=>by rw [z,eT] at e;exact hu _ (Ybk e).symm) e;have aO:=n5 _ _ (λ_ z=>by cases z) bn;have aP:=n5 _ _ (λ_ z=>by cases z) bo;have bu:=n5 _ _ (λ_ z=>by cases z) bp;have t5:∀a ys,H4 a=some (.tup ys)->H5 a=some (.tup ys):=λa ys e=>n5 a _ (λ_ z=>by cases z) e;have a9:∀a ys,H1 a=some (.tup ys)->H5 a=some (.tup ys):=λa ys e=>t5 a ys (gK k4 a ys e);have S5:ShelfAt C H5 p nl pd (.int M) a5 aa a6:=⟨S4.ob.elim λdx e=>⟨dx,n5 _ _ (λ_ z=>by cases z) e⟩,n5 _ _ (λ_ z=>by cases z) S4.nd,S4.tr.keep t5,n5 _ _ (λ_ z=>by cases z) S4.pl,S4.ok⟩;have gT:∀{H':Hp}{q:κ×AD×V},(∀a ys,H1 a=some (.tup ys)->H' a=some (.tup ys))->H' L=some (.frz o (gd G L kvs))->q∈kvs->Zh G H' L (.ref q.2.1) (some q.2.2):=λ{H' q} k e hq=>⟨kvs,q.1,q.2.1,.inr ⟨o,e⟩,F1.ks.keep k,rfl,G.keep (F1.ks q hq) k,(Zba F1.nd (b:=q.2.1) (v:=q.2.2) hq).symm⟩;refine ⟨ri,fl,c',L,oc,bq,(kvs.filter λq=>Uo (pf q.1)).map (λq=>(q.2.1,rdP (pf q.1))),rfl,rfl,SqL.of (by rw [Ydh];exact aO),br,aM,aN,rfl,λu hu=>?_,λl ps hl pm pw=>?_⟩
  ·obtain ⟨q,hq,rfl⟩:=Yai.mp hu;obtain ⟨aQ,bv⟩:=Yci.mp hq;obtain ⟨r,lo,hi,Y⟩:=U9 bv;have pv:=(F1.pv q aQ).keep a9;rw [Y] at pv;obtain ⟨t,bl,bh,ev,et,_⟩:=pv;exact ⟨t,[.ref bl,.ref bh],ev▸gT a9 aP aQ,by rw [Y];exact SqT.of et⟩
  obtain ⟨qs,pq,rfl⟩:=JD pm;rw [Ybp] at pw;have af:∀q,q∈qs↔q∈kvs/\Uo (pf q.1)=true:=λq=>by rw [pq.mem_iff,Yci]
  have bM:qs.length<=kvs.length:=by
   rw [pq.length_eq];exact Yfb _ _
  have aR:(qs.map (·.1)).Nodup:=(pq.map (·.1)).nodup_iff.mpr (F1.nd.sublist (List.filter_sublist.map _));have bN:qs.length<=Un.length:=by
   have:=Ydb aR (l₂:=Un) λk hk=>by
    obtain ⟨q,hq,rfl⟩:=Yai.mp hk;exact bf _ (a8 _ ((af q).mp hq).1) ((af q).mp hq).2
   rwa [Yac] at this
  rw [Ydh];obtain ⟨H6,q_,s6,ag⟩:=nwU (o:=.lst (qs.map ((λt:AD×Int=>V.ref t.1)∘λq:κ×AD×V=>(q.2.1,rdP (pf q.1))))) hl;have ag:H6 l=some (.lst (qs.map λq=>V.ref q.2.1)):=ag;rw [q_];have aA:=s6 _ _ aP;have ad:=s6 _ _ bu;have S6:=S5.same s6;have N6:NV G pf aa (λk=>Uo (pf k)=false) kvs H6 ay:=N4.keep λa ys e=>s6 _ _ (t5 a ys e);have aS:∀a ys,H1 a=some (.tup ys)->H6 a=some (.tup ys):=λa ys e=>s6 _ _ (a9 a ys e);have bw:LD tb H6:=LamSt.same (.inr ⟨c',bt,oc,aM,aN⟩) s6;have bx:l≠nl:=λz=>by rw [z,S5.nd] at hl;cases hl
  have bz:l≠B:=Ja ag ad (λz=>by cases z);have b0:l≠pd:=Ja ag S6.pl (λz=>by cases z);have b1:L≠B:=ap;have b2:L≠nl:=Ja aA S6.nd (λz=>by cases z);have b3:L≠pd:=Ja aA S6.pl (λz=>by cases z);have az:B≠nl:=Ja ad S6.nd (λz=>by cases z);have a1:B≠pd:=Ja ad S6.pl (λz=>by cases z);have b4:p≠B:=S6.ob.elim λdx e=>Ja e ad (λz=>by cases z);have a2:∀{H':Hp},(∀a u,a≠B->a≠nl->a≠pd->H6 a=some u->H' a=some u)->∀a ys,H6 a=some (.tup ys)->H' a=some (.tup ys):=λk a ys e=>k a _ (Ja e ad (λz=>by cases z)) (Ja e S6.nd (λz=>by cases z)) (Ja e S6.pl (λz=>by cases z)) e;have a3:∀{H':Hp},(∀a u,a≠B->a≠nl->a≠pd->H6 a=some u->H' a=some u)->FrD nl pd tb H H'/\LD tb H':=λ{H'} k=>by
   refine ⟨λa u h1 h2 h3 e=>?_,VD bw λa u h e=>?_⟩
   ·have e1:=s1 _ _ e;exact k a u (λz=>by rw [z,ao] at e1;cases e1) h1 h2 (s6 _ _ (sl a u h3 (k4 a u (λz=>by rw [z,bi] at e;cases e) e1)))
   ·refine k a u (λz=>?_) (λz=>?_) (λz=>?_) e
    ·rw [z,ad] at e;rcases h with ⟨_,rfl⟩ | ⟨_,rfl⟩ <;> cases e
    ·rw [z,S6.nd] at e;rcases h with ⟨_,rfl⟩ | ⟨_,rfl⟩ <;> cases e
    ·rw [z,S6.pl] at e;rcases h with ⟨_,rfl⟩ | ⟨_,rfl⟩ <;> cases e
  refine ⟨l,rfl,⟨_,SqL.of ag⟩,?_⟩
  let Pv:FI:=λi σ' H'=>∃(nvs:GKv κ)(v4 v6 v7 v8:Option V)(xs:List V)(ts:List Tri)(kd:List (List Key×V)),σ'=[some (.ref b),some (.ref fP),some (.ref p),some (.ref B),v4,some (.ref ri),v6,v7,v8,some (.ref L)]/\(∀a u,a≠B->a≠nl->a≠pd->H6 a=some u->H' a=some u)/\H' B=some (gd G B nvs)/\ShelfAt C H' p nl pd (.int M) xs ts kd/\Grw pf st aa ts/\ts.length<=aa.length+i/\((ts.length:Int)<=M\/ts=aa)/\NV G pf ts (λk=>Uo (pf k)=false\/k∈(qs.take i).map (·.1)) kvs H' nvs
  refine JV (K:=K) (a:=l) (xs:=qs.map λq=>V.ref q.2.1) Pv
   ⟨ay,_,none,none,none,a5,aa,a6,rfl,λ_ _ _ _ _ e=>e,ad,S6,Grw.refl bg,Yae _,.inr rfl,N6.like λk _=>⟨.inl,λh=>h.resolve_right (by simp)⟩⟩ (by rintro i σ' H' _ ⟨_,_,_,_,_,_,_,_,_,k,_⟩;exact SqL.of (k _ _ bz bx b0 ag)) ?_ ?_
  ·rintro i x σ' H7 aT ⟨nvs,b5,v6,v7,v8,xs,ts,kd,rfl,k7,am,S7,D,qV,ar,N⟩;rw [Yay] at aT;obtain ⟨⟨k,bk,v⟩,as,rfl⟩:=Ybt.mp aT;have bm:i<qs.length:=(Yal.mp as).1;obtain ⟨hm,aq⟩:=(af _).mp (Yaz as);have t7:∀a ys,H1 a=some (.tup ys)->H7 a=some (.tup ys):=λa ys e=>a2 k7 a ys (aS a ys e);have b6:=k7 _ _ b1 b2 b3 aA;have gg:Zh G H7 L (.ref bk) (some v):=gT t7 b6 hm;have aU:G.At H7 bk k:=G.keep (F1.ks _ hm) t7;obtain ⟨r,lo,hi,Y⟩:=U9 aq;dsimp only at Y;have pv:=(F1.pv _ hm).keep t7;dsimp only at pv;rw [Y] at pv;obtain ⟨t,bl,bh,rfl,et,b7,b8⟩:=pv;have hk:Rc pf st k:=a8 _ hm;obtain ⟨h0,ha,aj⟩:=PO.nd k r lo hi hk Y;have tk:(qs.take (i+1)).map (·.1)=(qs.take i).map (·.1)++[k]:=by
    rw [Ybx,as,Yao]
    rfl
   have au:¬ (Uo (pf k)=false\/k∈(qs.take i).map (·.1)):=by
    rintro (z | z)
    ·rw [Y] at z;cases z
    ·have hz:=aR;rw [<-Ydq (i+1) qs,Yao,tk] at hz;exact (Yco.mp (Yco.mp hz).1).2.2 k z k (by simp) rfl
   have ch:∀y,Rc pf st y->Abv pf y r->∃ca:Int,O3 nvs y=some (.int ca)/\NumOk pf ts y ca:=by
    intro y hy b9;obtain ⟨q',an,rfl⟩:=Yai.mp (a7 y hy);refine N.al q' an ?_;cases e:Uo (pf q'.1) with
    | false=>exact .inl rfl
    | true=>
     obtain ⟨r',a',b',e'⟩:=U9 e;exact .inr (Yai.mpr ⟨q',Zcz pw as ((af q').mpr ⟨an,e⟩) (by dsimp only;rw [Y,e'];exact b9 _ _ _ e'),rfl⟩)
   obtain ⟨ca,bA,na⟩:=ch lo (.lo hk Y) ha;obtain ⟨cb,bB,nb⟩:=ch hi (.hi hk Y) aj;have bO:=N.len;have step:∀{H8:Hp}{cn:Int}{xs':List V}{ts':List Tri}{av:List (List Key×V)},(∀a u,a≠nl->a≠pd->H7 a=some u->H8 a=some u)->ShelfAt C H8 p nl pd (.int M) xs' ts' av->Grw pf st aa ts'->ts'.length<=aa.length+(i+1)->NV G pf ts' (λk=>Uo (pf k)=false\/k∈(qs.take i).map (·.1)) kvs H7 nvs->NumOk pf ts' k cn ->
     H8 B=some (gd G B nvs)/\GKeys G H8 nvs/\G.At H8 bk k/\(∀a u,a≠B->a≠nl->a≠pd->H6 a=some u->upd H8 B (gd G B (nvs++[(k,bk,.int cn)])) a=some u)/\ShelfAt C (upd H8 B (gd G B (nvs++[(k,bk,.int cn)]))) p nl pd (.int M) xs' ts' av/\NV G pf ts' (λk=>Uo (pf k)=false\/k∈(qs.take (i+1)).map (·.1)) kvs (upd H8 B (gd G B (nvs++[(k,bk,.int cn)]))) (nvs++[(k,bk,.int cn)]):=by
    intro H8 cn xs' ts' av k8 S8 D8 l8 N8 nk;have aV:=k8 _ _ az a1 am;have t8:∀a ys,H7 a=some (.tup ys)->H8 a=some (.tup ys):=λa ys e=>k8 a _ (Ja e S7.nd (λz=>by cases z)) (Ja e S7.pl (λz=>by cases z)) e;have t9:∀a ys,H8 a=some (.tup ys)->upd H8 B (gd G B (nvs++[(k,bk,.int cn)])) a=some (.tup ys):=λa ys e=>Gj e (Ja e aV (λz=>by cases z));refine ⟨aV,N8.ks.keep t8,G.keep aU t8,λa u h1 h2 h3 e=>Gj (k8 a u h2 h3 (k7 a u h1 h2 h3 e)) h1,⟨S8.ob.elim λdx e=>⟨dx,Gj e b4⟩,Gj S8.nd (Ne.symm az),S8.tr.keep t9,Gj S8.pl (Ne.symm a1),S8.ok⟩,?_⟩;refine (((N8.keep t8).snoc (G.keep aU t8) au (Yai.mpr ⟨_,hm,rfl⟩) nk).keep t9).like λy _=>?_;rw [tk,Yak,Yaj];exact or_assoc
   obtain ⟨dx,ob⟩:=S7.ob;dsimp only [Gv];refine xe rfl (xe rfl ⟨L,xe rfl ⟨gg,t,xe rfl ⟨SqT.of et,rfl,_,xe rfl ⟨_,xe rfl (xd rfl rfl ?_)⟩⟩⟩⟩);have bC:¬ ("put" : Str) = "places" := by decide +kernel
   have bD:¬ ("put" : Str) = "nodes" := by decide +kernel
   have bE:¬ ("put" : Str) = "most" := by decide +kernel
   refine xe rfl ⟨p,dx,xe rfl ⟨ob,Zel _ _ _ bC bD bE,xe rfl (xe rfl (xe rfl ⟨B,xe rfl ⟨⟨nvs,lo,bl,.inl am,N.ks,rfl,b7,bA.symm⟩,xe rfl (xe rfl ⟨B,xe rfl ⟨⟨nvs,hi,bh,.inl am,N.ks,rfl,b8,bB.symm⟩,?_⟩⟩)⟩⟩))⟩⟩;refine ⟨p,nl,pd,M,xs,ts,kd,r,ca,cb,rfl,S7,by lia,λhz=>?_,λhz=>⟨λcn H8 bF s8=>?_,λaW=>⟨λhM H8 sf=>?_,λhM H8 s8=>?_⟩⟩⟩
   ·subst hz;obtain ⟨h1,h2,h3,h4,h5,h6⟩:=step (H8:=H7) (λa u _ _ e=>e) S7 D (by lia) N (NumOk.flat Y ha na nb);exact xe rfl (xe rfl ⟨B,bk,nvs,k,rfl,rfl,h1,h2,h3,N.none au,by lia,_,_,_,_,_,_,_,xe rfl ⟨h4,Gb,h5,D,by lia,ar,h6⟩⟩)
   ·obtain ⟨h1,h2,h3,h4,h5,h6⟩:=step (H8:=H8) (λa u _ _ e=>s8 _ _ e) (S7.same s8) D (by lia) N (NumOk.node Y na nb bF);exact xe rfl (xe rfl ⟨B,bk,nvs,k,rfl,rfl,h1,h2,h3,N.none au,by lia,_,_,_,_,_,_,_,xe rfl ⟨h4,Gb,h5,D,by lia,ar,h6⟩⟩)
   ·obtain ⟨xs',av,S8⟩:=sf.at_;obtain ⟨D',nk⟩:=D.snoc hk Y h0 ha aj na nb hz aW;obtain ⟨h1,h2,h3,h4,h5,h6⟩:=step (H8:=H8) (λa u n1 n2 e=>sf.kp a u n1 n2 e) S8 D' (by rw [Yam,Ybc];lia) (N.app D.sh.ok _) nk;exact xe rfl (xe rfl ⟨B,bk,nvs,k,rfl,rfl,h1,h2,h3,N.none au,by lia,_,_,_,_,_,_,_,xe rfl ⟨h4,Gb,h5,D',by rw [Yam,Ybc];lia,.inl (by rw [Yam,Ybc];lia),h6⟩⟩)
   ·obtain ⟨D',nk⟩:=D.snoc hk Y h0 ha aj na nb hz aW;obtain ⟨f1,f2⟩:=a3 (H':=H8) λa u h1 h2 h3 e=>s8 _ _ (k7 a u h1 h2 h3 e);exact qe _ H8 f1 f2 D' (by rw [Yam,Ybc];lia) (by rw [Yam,Ybc];lia)
  ·rintro σ' H7 ⟨nvs,b5,v6,v7,v8,xs,ts,kd,rfl,k7,am,S7,D,qV,ar,N⟩;rw [Yac] at qV N;rw [Ybu] at N;obtain ⟨f1,f2⟩:=a3 k7;obtain ⟨q',an,e'⟩:=Yai.mp (a7 st .start);have hd:Uo (pf q'.1)=false\/q'.1∈qs.map (·.1):=by
    cases e:Uo (pf q'.1) with
    | false=>exact .inl rfl
    | true=>exact .inr (Yai.mpr ⟨q',(af q').mpr ⟨an,e⟩,rfl⟩)
   obtain ⟨cn,hv,hn⟩:=N.al q' an hd;rw [e'] at hv hn;refine xe rfl (xe rfl ⟨B,xe rfl ⟨⟨nvs,st,b,.inl am,N.ks,rfl,G.keep (G.keep hb λa ys e=>s1 _ _ e) (λa ys e=>a2 k7 a ys (aS a ys e)),hv.symm⟩,?_⟩⟩);refine qq cn xs ts kd H7 f1 f2 S7 D (by lia) ar (λk hk=>?_) hn;obtain ⟨q,hq,rfl⟩:=Yai.mp (a7 k hk);obtain ⟨c,_,hc⟩:=N.al q hq (by
    cases e:Uo (pf q.1) with
    | false=>exact .inl rfl
    | true=>exact .inr (Yai.mpr ⟨q,(af q).mpr ⟨hq,e⟩,rfl⟩))
   exact ⟨c,hc⟩
structure LeT {κ:Type}(pf:κ->Pt κ)(s:κ)(a0:Int)(us:List Tri)(ts:List Tri)(root:Int)(fs:LI):Prop where
 grw:Grw pf s [] ts
 num:NumOk pf ts s root
 rch:Rch ts root fs
 fin:Fin ts root fs
 nd:fs.Nodup
 nod:∀x∈fs,∃r,Nd ts x r
 said:Said ts fs us fs.length
 len:us.length=fs.length
 le:fs.length<=ts.length
 a0:Jd fs root=some a0
 all:∀k,Rc pf s k->∃c,NumOk pf ts k c
noncomputable def ZfY (G:GK P w κ)(pf:κ->Pt κ)(Dom:κ->Prop)(j q tb:AD):Sp:=λvs H Q E=>∃(b:AD)(s:κ)(U Un:List κ)(M:Int),vs=[.ref b,.ref j,.int M]/\G.At H b s/\Dom s/\(∀k,Rc pf s k->k∈U)/\(∀k,Rc pf s k->Uo (pf k)=true->k∈Un)/\U.length<=10000/\(0<=M/\M<=900)/\ZhM pf s/\Abv pf s (-1)/\LD tb H /\
 (∀(p l:AD)(a0 root:Int)(xs:List V)(us ts:List Tri)(fs:LI)(H':Hp),SameL tb H H'->LD tb H'->H p=none->H l=none->TabAt H' p l a0 xs us->LeT pf s a0 us ts root fs->ts.length<=Un.length->(ts.length:Int)<=M->Q (.ref p) H') /\
 (∀(ts:List Tri)(H':Hp),SameL tb H H'->LD tb H'->Grw pf s [] ts->M<ts.length->ts.length<=Un.length->E (.ref q) none H')
theorem scLeT:Go ["start", "parts", "most", "shelf"] ["start", "parts", "most"] (Gf ZfD):=⟨rfl,rfl,rfl,by decide +kernel,rfl,by decide +kernel,by decide +kernel⟩
theorem ZfZ (F:Fun K "least_table" "least_table" ZfD f fd)(TS:ZfH K mg C TM)(aj:Mk K C fI)(aa:Binds K Y ["self", "most"] [])(ac:GG P w K mg base CX0 1 fI Y ["self", "most"] (ZfI C))(ak:Fun K "laid_down" "laid_down" ZeF N j)(al:Binds K j ["start", "parts", "shelf"] [])(am:mg "laid_down" = some (.ref N))(an:GG P w K mg base (CXr P w) (kp+2) N j ["start", "parts", "shelf"] (ZfW G pf Dom fP C TM tb))(ao:Fun K "numbered" "numbered" ZfC O B)(ap:Binds K B ["root", "nodes"] [])(aq:mg "numbered" = some (.ref O))(ar:GG P w K mg base CX0 2 O B ["root", "nodes"] ZfU) :
  GG P w K mg base (CXr P w) (kp+3) f fd ["start", "parts", "most"] (ZfY G pf Dom fP TM tb):=by
 refine F.okR scLeT (λvs H Q E h=>?_) (λas A au s H vs Q E hr h=>?_)
 ·obtain ⟨_,_,_,_,_,rfl,_⟩:=h
  rfl
 ·obtain ⟨b,st,U,Un,M,rfl,hb,av,hU,aw,ax,ad,PO,ab,ld,qq,qe⟩:=h;have ay:Room 2 (A.deeper (PyProof.Rows.envOfC "least_table" (Gf ZfD) s.heap.objs.size f as)):=hr.mono (by lia);refine ⟨_,Gc (gSt 3 scLeT.nd (ZdB aj ac ay rfl TS.mgC aa .nil GH (Ga (pv 2) Ge)))
    (Gg (Gq (VJ ar (hr.mono (by lia)) rfl aq ao.kp ap .nil GH (Ga (VJ an hr rfl am ak.kp al .nil ZdK (Ga (pv 0) (Ga (pv 1) (Ga (pv 3) Ge)))) (Ga (OD (pv 3) rfl) Ge))))),?_⟩
  refine lT2 ?_;intro Z R2;refine xe rfl (λp dx hp az aC=>?_);refine ⟨p,dx,.int M,rfl,Gb,λnl pd H2 ae af aD S2 k2=>⟨rfl,?_⟩⟩;have k1:∀a u,H a=some u->upd (upd H dx (.own p)) p (.ins C dx []) a=some u:=λa u e=>Gj (Gj e (Gh e az)) (Gh e hp);have s2:Same H H2:=λa u e=>k2 a u (k1 a u e) (Gh e hp);have ag:H nl=none:=by
   cases e:H nl with
   | none=>rfl
   | some u=>rw [k1 _ _ e] at ae;cases ae
  have ah:H pd=none:=by
   cases e:H pd with
   | none=>rfl
   | some u=>rw [k1 _ _ e] at af;cases af
  have a1:LD tb H2:=ld.same s2;obtain ⟨aE,eT⟩:=ld.tbl;have up:∀{H':Hp},FrD nl pd tb H2 H'->SameL tb H H':=λfr a u n e=>fr a u (λz=>by rw [z,ag] at e;cases e) (λz=>by rw [z,ah] at e;cases e) n (s2 _ _ e);dsimp only [Gv];refine xe rfl (xe rfl (xe rfl ⟨b,p,nl,pd,st,U,Un,M,[],[],[],rfl,G.keep hb (λa ys e=>s2 _ _ e),av,hU,aw,by simpa using ax,PO,a1,S2,ShOk.nil,λroot xs ts kvs H3 fr L S3 D hl a2 all nk=>?_,λts H3 fr L D hM hl=>qe ts H3 (up fr) L D hM (by simpa using hl)⟩));obtain ⟨a3,ob⟩:=S3.ob;have a4:ts.length<=Un.length:=by simpa using hl
  have a5:(ts.length:Int)<=M:=by
   rcases a2 with h | h
   ·exact h
   ·rw [h];exact ad.1
  refine xe rfl ⟨p,C,a3,_,xe rfl ⟨ob,TS.cl,TS.nN,Ol _ _ _,?_⟩⟩;refine ⟨nl,root,xs,ts,rfl,S3.nd,S3.tr,D.sh.ok,by lia,nk.at_ (-1) ab,λq l a0 ys us fs H4 s4 hq a6 W a7 fin nd a8 sd a9 aA h0=>?_⟩;obtain ⟨aB,ai⟩:=L.tbl;exact qq q l a0 root ys us ts fs H4 ((up fr).trans (SameL.of s4)) (L.same s4) ((up fr).free eT ⟨_,ai⟩ hq) ((up fr).free eT ⟨_,ai⟩ a6) W ⟨D,nk,a7,fin,nd,a8,sd,a9,aA,h0,all⟩ a4 a5
end
section
variable {ts us:List Tri}{fs:LI}
theorem UC (q:Said ts fs us fs.length)(B:1<c)(e:Jd fs c=some a):∃(r:Tri)(a1 b1:Int),Nd ts c r/\Jd fs r.2.1=some a1/\Jd fs r.2.2=some b1/\Nd us a (r.1,a1,b1):=by
 obtain ⟨h2,j⟩:=OP e B;obtain ⟨r,a1,b1,n,D,L,N⟩:=q _ c (Yal.mp j).1 j;exact ⟨r,a1,b1,n,D,L,h2,N⟩
theorem Zen (q:Said ts fs us fs.length)(h:Has ts c s):∀{a:Int},Jd fs c=some a->Has us a s:=by
 induction h with
 | one=>
  intro a e;rw [OQ] at e;cases e;exact .one
 | low n _ ih=>
  intro a e;obtain ⟨r,B,D,j,h1,h2,m⟩:=UC q (by have:=n.1;lia) e;rw [n.one j] at ih;exact .low m (ih h1)
 | high n _ ih=>
  intro a e;obtain ⟨r,B,D,j,h1,h2,m⟩:=UC q (by have:=n.1;lia) e;rw [n.one j] at ih ⊢;have z:=Has.high m (ih h2);exact z
theorem Uf (e:Jd fs c=some a)(h0:0<=c)(j:¬ 1<c):c=a:=by
 have:c=0\/c=1:=by lia
 rcases this with rfl | rfl
 ·rw [UV] at e;exact Ybk e
 ·rw [OQ] at e;exact Ybk e
theorem ZcA (e:Jd fs c=some a)(j:1<c):2<=a:=(OP e j).1
theorem Zbe (T:TabOk ts)(B:Said ts fs us fs.length)(h:Has us a s):∀{c lo:Int},At ts c lo->Jd fs c=some a->Has ts c s:=by
 induction h with
 | one=>
  intro c lo at_ e;by_cases j:1<c
  ·have:=ZcA e j
   lia
  ·rw [Uf e at_.lt.1 j];exact .one
 | low n _ ih=>
  intro c lo at_ e;have j:1<c:=by
   by_cases j:1<c
   ·exact j
   ·have:=Uf e at_.lt.1 j;have:=n.1
    lia
  obtain ⟨r,D,L,q,h1,h2,m⟩:=UC B j e;rw [n.one m] at ih;exact .low q (ih (T.nd q).2.1 h1)
 | high n _ ih=>
  intro c lo at_ e;have j:1<c:=by
   by_cases j:1<c
   ·exact j
   ·have:=Uf e at_.lt.1 j;have:=n.1
    lia
  obtain ⟨r,D,L,q,h1,h2,m⟩:=UC B j e;rw [n.one m] at ih ⊢;have z:=Has.high q (ih (T.nd q).2.2 h2);exact z
end
section
variable {κ:Type}{pf:κ->Pt κ}{s:κ}{a0 root:Int}{us ts:List Tri}{fs:LI}
theorem LeT.tab (L:LeT pf s a0 us ts root fs):TabOk us:=L.said.tab L.grw.sh.ok L.len
theorem LeT.at_ (L:LeT pf s a0 us ts root fs)(ab:Abv pf s (-1)):At us a0 (-1):=L.said.at (L.num.at_ _ ab) L.a0
theorem LeT.has (L:LeT pf s a0 us ts root fs)(ab:Abv pf s (-1))(x:LI):Has us a0 x↔Zde pf s x:=
 (show Has us a0 x↔Has ts root x from ⟨λh=>Zbe L.grw.sh.ok L.said h (L.num.at_ _ ab) L.a0,λh=>Zen L.said h L.a0⟩).trans (L.num.has x)
end
section
variable {P:PP}{w:Ab}
noncomputable def gkF (P:PP)(w:Ab):GK P w (List (LI)):=⟨Yn P w,KeyTT,λok x=>Zft ok x,λx t=>x.keep t,λj=>Zcp j⟩
theorem Ys:∀{xs ys:LI},xs.map V.int=ys.map V.int->xs=ys
 | [],[],_=>rfl
 | [],_::_,h=>by simp at h
 | _::_,[],h=>by simp at h
 | x::xs,y::ys,h=>by
  rw [Yap,Yap] at h;injection h with h1 h2
  injection h1 with h1
  rw [h1,Ys h2]
theorem Yt:∀{xs ys:List AD},xs.map V.ref=ys.map V.ref->xs=ys
 | [],[],_=>rfl
 | [],_::_,h=>by simp at h
 | _::_,[],h=>by simp at h
 | x::xs,y::ys,h=>by
  rw [Yap,Yap] at h;injection h with h1 h2
  injection h1 with h1
  rw [h1,Yt h2]
theorem ZcB {H:Hp}:∀{k B:List (LI)}{cs:List AD},Paired (λ(j:LI) (c:AD)=>H c=some (.tup (j.map V.int))) k cs->Paired (λ(j:LI) (c:AD)=>H c=some (.tup (j.map V.int))) B cs->k=B
 := by
 intro k B cs a b
 induction a generalizing B with
 | nil=>cases b;rfl
 | cons a p ih=>cases b with
  | cons b q=>
   rw [a] at b;have e:=HO.tup.inj (Ybk b);rw [Ys e,ih q]
theorem Zeo (h:(gkF P w).At H b k)(h':(gkF P w).At H b j):k=j:=by
 obtain ⟨cs,e,p⟩:=h;obtain ⟨B,q,D⟩:=h';rw [e] at q;have:=Yt (HO.tup.inj (Ybk q));subst this;exact ZcB p D
end
noncomputable def Zbf:LI->Int
 | []=>0
 | [x]=>x
 | x::y::xs=>min x (Zbf (y::xs))
theorem Yu:∀{xs:LI},xs≠[]->Zbf xs∈xs
 | [],h=>absurd rfl h
 | [x],_=>by simp [Zbf]
 | x::y::xs,_=>by
  have:=Yu (xs:=y::xs) (by simp);show min x (Zbf (y::xs))∈_;by_cases h:x<=Zbf (y::xs)
  ·rw [show min x (Zbf (y::xs))=x by lia];exact Ybj
  ·rw [show min x (Zbf (y::xs))=Zbf (y::xs) by lia];exact Ybf _ this
theorem Zbg:∀{xs:LI}{x:Int},x∈xs->Zbf xs<=x
 | [y],x,h=>by rw [Yaj.mp h];exact Int.le_refl _
 | y::z::xs,x,h=>by
  show min y (Zbf (z::xs))<=x;rcases Yav.mp h with rfl | h
  ·lia
  ·have:=Zbg h
   lia
noncomputable abbrev Fam:=List (LI)
noncomputable def On (F:Fam):Int:=Zbf (F.filterMap List.head?)
noncomputable def woF (F:Fam):Fam:=F.filter λs=>decide (s.take 1≠[On F])
noncomputable def chF (F:Fam):Fam:=(F.filter λs=>decide (s.take 1=[On F])).map (List.drop 1)
noncomputable def pfF (F:Fam):Pt Fam:=if F=[] then .leaf 0 else if F=[[]] then .leaf 1 else .node (On F) (woF F) (chF F)
noncomputable def wF (F:Fam):Nat:=(F.map λs=>s.length+1).sum
theorem take1 :s.take 1=[m]↔s=m::s.drop 1:=by
 cases s with
 | nil=>simp
 | cons a s=>simp
theorem Zbh (nd:F.Nodup)(h0:F≠[])(h1:F≠[[]]):∃s∈F,s≠[]:=by
 match F,h0 with
 | [s],_=>exact ⟨s,by simp,λz=>h1 (by rw [z])⟩
 | s::t::F,_=>
  by_cases j:s=[]
  ·refine ⟨t,by simp,λz=>?_⟩;rw [j,z] at nd;simp at nd
  ·exact ⟨s,by simp,j⟩
theorem Oz (nd:F.Nodup)(h0:F≠[])(h1:F≠[[]]):∃s,On F::s∈F:=by
 obtain ⟨s,B,j⟩:=Zbh nd h0 h1;have:F.filterMap List.head?≠[]:=λz=>by
  cases s with
  | nil=>exact j rfl
  | cons a s=>
   have q:a∈F.filterMap List.head?:=Ydk.mpr ⟨_,B,rfl⟩;rw [z] at q;cases q
 obtain ⟨t,D,e⟩:=Ydk.mp (Yu this);cases t with
 | nil=>cases e
 | cons a t=>
  cases e;exact ⟨t,D⟩
theorem Zdf (h:a::s∈F):On F<=a:=Zbg (Ydk.mpr ⟨_,h,rfl⟩)
theorem mem_ch :s∈chF F↔On F::s∈F:=by
 unfold chF;constructor
 ·intro h;obtain ⟨t,j,rfl⟩:=Yai.mp h;obtain ⟨h1,h2⟩:=Yci.mp j;rw [<-take1.mp (Ybv h2)];exact h1
 ·intro h;exact Yai.mpr ⟨_,Yci.mpr ⟨h,by simp⟩,rfl⟩
theorem mem_wo :s∈woF F↔s∈F/\s.take 1≠[On F]:=by
 unfold woF;rw [Yci,decide_eq_true_eq]
theorem Zf0 (h:F.Nodup):(woF F).Nodup:=h.sublist List.filter_sublist
theorem Zf1 (h:F.Nodup):(chF F).Nodup:=by
 unfold chF;refine Ybp.mpr ((h.sublist List.filter_sublist).imp_of_mem λ{a b} ha j n e=>n ?_);rw [take1.mp (Ybv (Yci.mp ha).2),take1.mp (Ybv (Yci.mp j).2),e]
theorem Zbi (m:Int):∀F:Fam,wF (F.filter λs=>decide (s.take 1≠[m]))+wF ((F.filter λs=>decide (s.take 1=[m])).map (List.drop 1))+(F.filter λs=>decide (s.take 1=[m])).length=wF F
 | []=>rfl
 | s::F=>by
  have ih:=Zbi m F;by_cases h:s.take 1=[m]
  ·have e:=take1.mp h;rw [Yfp (by simp [h]),Yfc (by simp [h]),Yap,Ybo];have j:s.length=(s.drop 1).length+1:=by rw [Ybg List.length e];rfl
   simp only [wF,Yap,List.sum_cons] at ih ⊢
   lia
  ·rw [Yfc (by simp [h]),Yfp (by simp [h])];simp only [wF,Yap,List.sum_cons] at ih ⊢
   lia
theorem Zbj (nd:F.Nodup)(h0:F≠[])(h1:F≠[[]]):wF (woF F)<wF F/\wF (chF F)<wF F:=by
 have:=Zbi (On F) F;obtain ⟨s,j⟩:=Oz nd h0 h1;have q:0<(F.filter λs=>decide (s.take 1=[On F])).length:=List.length_pos_of_mem (Yci.mpr ⟨j,by simp⟩);unfold woF chF
 lia
theorem Zep:∀(n:Nat)(F:Fam),wF F<=n->F.Nodup->∀s,Zde pfF F s↔s∈F:=by
 intro n
 induction n with
 | zero=>
  intro F j nd s;have q:F=[]:=by
   cases F with
   | nil=>rfl
   | cons a F=>simp [wF] at j
  subst q;have e:pfF []=.leaf 0:=by simp [pfF]
  constructor
  ·intro h;cases h with
   | one e'=>rw [e] at e';cases e'
   | lo e' _=>rw [e] at e';cases e'
   | hi e' _=>rw [e] at e';cases e'
  ·intro h;cases h
 | succ n ih=>
  intro F j nd s;by_cases h0:F=[]
  ·subst h0;exact ih [] (by simp [wF]) nd s
  by_cases h1:F=[[]]
  ·have e:pfF F=.leaf 1:=by simp [pfF,h1]
   rw [h1,Yaj,<-h1];constructor
   ·intro h;cases h with
    | one _=>rfl
    | lo e' _=>rw [e] at e';cases e'
    | hi e' _=>rw [e] at e';cases e'
   ·rintro rfl;exact .one e
  ·have e:pfF F=.node (On F) (woF F) (chF F):=by unfold pfF;rw [if_neg h0,if_neg h1]
   obtain ⟨B,D⟩:=Zbj nd h0 h1;have i1:=ih (woF F) (by lia) (Zf0 nd);have i2:=ih (chF F) (by lia) (Zf1 nd);constructor
   ·intro h;cases h with
    | one e'=>rw [e] at e';cases e'
    | lo e' k=>rw [e] at e';cases e';exact (mem_wo.mp ((i1 _).mp k)).1
    | hi e' k=>rw [e] at e';cases e';exact mem_ch.mp ((i2 _).mp k)
   ·intro h;by_cases z:s.take 1=[On F]
    ·have es:=take1.mp z;rw [es] at h ⊢;exact .hi e ((i2 _).mpr (mem_ch.mpr h))
    ·exact .lo e ((i1 _).mpr (mem_wo.mpr ⟨h,z⟩))
structure FamOk (F:Fam):Prop where
 nd:F.Nodup
 up:∀s∈F,s.Pairwise (· < ·)
 rg:∀s∈F,∀x∈s,0<=x/\x<30
theorem FamOk.wo (h:FamOk F):FamOk (woF F):=⟨Zf0 h.nd,λs j=>h.up s (mem_wo.mp j).1,λs j=>h.rg s (mem_wo.mp j).1⟩
theorem FamOk.ch (h:FamOk F):FamOk (chF F):=⟨Zf1 h.nd,λs j=>(Yej.mp (h.up _ (mem_ch.mp j))).2,λs j x q=>h.rg _ (mem_ch.mp j) x (Ybf _ q)⟩
theorem Jm (e:pfF F=.node r a b):F≠[]/\F≠[[]]/\r=On F/\a=woF F/\b=chF F:=by
 unfold pfF at e;by_cases h0:F=[]
 ·rw [if_pos h0] at e;cases e
 rw [if_neg h0] at e;by_cases h1:F=[[]]
 ·rw [if_pos h1] at e;cases e
 rw [if_neg h1] at e;cases e;exact ⟨h0,h1,rfl,rfl,rfl⟩
theorem ZcC (e:pfF F=.leaf n):n=0\/n=1:=by
 unfold pfF at e;by_cases h0:F=[]
 ·rw [if_pos h0] at e;cases e;exact .inl rfl
 rw [if_neg h0] at e;by_cases h1:F=[[]]
 ·rw [if_pos h1] at e;cases e;exact .inr rfl
 rw [if_neg h1] at e;cases e
theorem Zdg (h:FamOk F)(r:Rc pfF F k):FamOk k:=by
 induction r with
 | start=>exact h
 | lo _ e ih=>rw [(Jm e).2.2.2.1];exact ih.wo
 | hi _ e ih=>rw [(Jm e).2.2.2.2];exact ih.ch
theorem Wn (h:FamOk F):ZhM pfF F:=by
 refine ⟨λk n _ e=>ZcC e,λk r a b L e=>?_⟩;obtain ⟨h0,h1,rfl,rfl,rfl⟩:=Jm e;have K:=Zdg h L;obtain ⟨s,N⟩:=Oz K.nd h0 h1;refine ⟨K.rg _ N _ Ybj,λr' O U j=>?_,λr' O U j=>?_⟩
 ·obtain ⟨q,B,rfl,_,_⟩:=Jm j;obtain ⟨t,D⟩:=Oz K.wo.nd q B;obtain ⟨Y,Z⟩:=mem_wo.mp D;have:=Zdf Y;have aa:On (woF k)≠On k:=λz=>Z (by rw [z];rfl)
  lia
 ·obtain ⟨q,B,rfl,_,_⟩:=Jm j;obtain ⟨t,D⟩:=Oz K.ch.nd q B;exact (Yej.mp (K.up _ (mem_ch.mp D))).1 _ Ybj
noncomputable def Up:Nat->Fam->List Fam
 | 0,F=>[F]
 | n+1,F=>F::if F=[]\/F=[[]] then [] else Up n (woF F)++Up n (chF F)
theorem Wo (n:Nat)(F:Fam):F∈Up n F:=by cases n <;> simp [Up]
theorem UD:∀(n:Nat)(F:Fam),wF F<=n->FamOk F->∀k∈Up n F,∀r a b,pfF k=.node r a b->a∈Up n F/\b∈Up n F
 | 0,F,hn,h,k,hk,r,a,b,e=>by
  have hF:F=[]:=by
   cases F with
   | nil=>rfl
   | cons s F=>simp [wF] at hn
  subst hF;rw [Yaj.mp hk] at e;exact absurd rfl (Jm e).1
 | n+1,F,hn,h,k,hk,r,a,b,e=>by
  unfold Up at hk ⊢;by_cases z:F=[]\/F=[[]]
  ·rw [if_pos z] at hk;rw [Yaj.mp hk] at e;obtain ⟨h0,h1,_⟩:=Jm e;exact absurd z (by simp [h0,h1])
  ·rw [if_neg z] at hk ⊢;have j:F≠[]:=λq=>z (.inl q);have B:F≠[[]]:=λq=>z (.inr q);obtain ⟨D,L⟩:=Zbj h.nd j B;rcases Yav.mp hk with rfl | hk
   ·obtain ⟨_,_,_,rfl,rfl⟩:=Jm e;exact ⟨Ybf _ (Ydr _ (Wo _ _)),Ybf _ (Yby _ (Wo _ _))⟩
   ·rcases Yak.mp hk with hk | hk
    ·obtain ⟨i1,i2⟩:=UD n (woF F) (by lia) h.wo k hk r a b e;exact ⟨Ybf _ (Ydr _ i1),Ybf _ (Ydr _ i2)⟩
    ·obtain ⟨i1,i2⟩:=UD n (chF F) (by lia) h.ch k hk r a b e;exact ⟨Ybf _ (Yby _ i1),Ybf _ (Yby _ i2)⟩
theorem Zdh (h:FamOk F)(r:Rc pfF F k):k∈Up (wF F) F:=by
 induction r with
 | start=>exact Wo _ _
 | lo _ e ih=>exact (UD _ _ (Yae _) h _ ih _ _ _ e).1
 | hi _ e ih=>exact (UD _ _ (Yae _) h _ ih _ _ _ e).2
noncomputable def lF (F:Fam):Nat:=(F.map List.length).sum
theorem Zbk (m:Int):∀F:Fam,lF (F.filter λs=>decide (s.take 1≠[m]))+lF ((F.filter λs=>decide (s.take 1=[m])).map (List.drop 1))+(F.filter λs=>decide (s.take 1=[m])).length=lF F
 | []=>rfl
 | s::F=>by
  have ih:=Zbk m F;by_cases h:s.take 1=[m]
  ·have e:=take1.mp h;rw [Yfp (by simp [h]),Yfc (by simp [h]),Yap,Ybo];have j:s.length=(s.drop 1).length+1:=by rw [Ybg List.length e];rfl
   simp only [lF,Yap,List.sum_cons] at ih ⊢
   lia
  ·rw [Yfc (by simp [h]),Yfp (by simp [h])];simp only [lF,Yap,List.sum_cons] at ih ⊢
   lia
noncomputable def ndB (F:Fam):Bool:=match pfF F with | .leaf _=>false | .node ..=>true
theorem Va:∀(n:Nat)(F:Fam),FamOk F->((Up n F).filter ndB).length<=lF F+(if n=0 then 1 else 0) * (if ndB F=true then 1 else 0)+0 * n\/wF F > n
 | 0,F,h=>by
  by_cases z:wF F > 0
  ·exact .inr z
  ·left;have hF:F=[]:=by
    cases F with
    | nil=>rfl
    | cons s F=>simp [wF] at z
   subst hF;simp [Up,ndB,pfF]
 | n+1,F,h=>by
  by_cases Y:wF F > n+1
  ·exact .inr Y
  left;unfold Up;by_cases z:F=[]\/F=[[]]
  ·rw [if_pos z];have:ndB F=false:=by rcases z with rfl | rfl <;> simp [ndB,pfF]
   simp [this]
  ·rw [if_neg z];have B:F≠[]:=λq=>z (.inl q);have D:F≠[[]]:=λq=>z (.inr q);obtain ⟨l1,l2⟩:=Zbj h.nd B D;have lp:=Zbk (On F) F;obtain ⟨s,Z⟩:=Oz h.nd B D;have hl:0<(F.filter λs=>decide (s.take 1=[On F])).length:=List.length_pos_of_mem (Yci.mpr ⟨Z,by simp⟩);have L:=(Va n (woF F) h.wo).resolve_right (by lia);have N:=(Va n (chF F) h.ch).resolve_right (by lia);have O:∀G:Fam,wF G<=n->n=0->ndB G=false:=λG hG j=>by
    have:G=[]:=by
     cases G with
     | nil=>rfl
     | cons s G=>simp [wF] at hG;lia
    subst this;simp [ndB,pfF]
   have d1:((Up n (woF F)).filter ndB).length<=lF (woF F):=by
    by_cases j:n=0
    ·have:=O (woF F) (by lia) j;simpa [this] using L
    ·simpa [j] using L
   have d2:((Up n (chF F)).filter ndB).length<=lF (chF F):=by
    by_cases j:n=0
    ·have:=O (chF F) (by lia) j;simpa [this] using N
    ·simpa [j] using N
   have U:((F::(Up n (woF F)++Up n (chF F))).filter ndB).length<=1+(((Up n (woF F)).filter ndB).length+((Up n (chF F)).filter ndB).length):=by
    rw [List.filter_cons,Yen];split <;> simp <;> lia
   unfold woF at d1 U;unfold chF at d2 U;simp;unfold woF chF
   lia
theorem nodes_le (h:FamOk F):((Up (wF F) F).filter ndB).length<=lF F:=by
 have c:=(Va (wF F) F h).resolve_right (by lia);by_cases j:wF F=0
 ·have q:F=[]:=by
   cases F with
   | nil=>rfl
   | cons s F=>simp [wF] at j
  subst q;simp [wF,Up,ndB,pfF]
 ·simpa [j] using c
theorem XC:∀(n:Nat)(F:Fam),(Up n F).length<=2 * ((Up n F).filter ndB).length+1
 | 0,F=>by simp [Up]
 | n+1,F=>by
  have i1:=XC n (woF F);have i2:=XC n (chF F);unfold Up;by_cases z:F=[]\/F=[[]]
  ·rw [if_pos z];simp
  ·rw [if_neg z];have j:ndB F=true:=by
    have B:F≠[]:=λq=>z (.inl q);have D:F≠[[]]:=λq=>z (.inr q);unfold ndB pfF;rw [if_neg B,if_neg D]
   rw [Yfc j,Yen,Ybo,Ybo,Yam,Yam]
   lia
noncomputable def TpsF (H:Hp)(F:Fam)(cs:List AD):Prop:=Paired (λ(s:LI) (c:AD)=>H c=some (.tup (s.map V.int))) F cs
theorem TpsF.keep (x:TpsF H F cs)(t:∀p ys,H p=some (.tup ys)->H' p=some (.tup ys)):TpsF H' F cs:=Paired.mapP x λ_ _ z=>t _ _ z
theorem TpsF.dats (x:TpsF H F cs):DatVs K H (cs.map V.ref) (F.map Ul):=by
 induction x with
 | nil=>exact .nil
 | cons e _ ih=>exact .cons (.tup (SqT.of e) (GV _)) ih
theorem TpsF.snoc (x:TpsF H F cs)(e:H c=some (.tup (s.map V.int))):TpsF H (F++[s]) (cs++[c]):=by
 induction x with
 | nil=>exact .cons e .nil
 | cons a _ ih=>exact .cons a ih
theorem TpsF.get (x:TpsF H F cs):∀{i:Nat}{c:AD},cs[i]?=some c->∃s,F[i]?=some s/\H c=some (.tup (s.map V.int)):=by
 induction x with
 | nil=>intro i c e;simp at e
 | @cons s c F cs r _ ih=>
  intro i b e;cases i with
  | zero=>simp at e;subst e;exact ⟨s,by simp,r⟩
  | succ i=>simp at e;obtain ⟨a,h1,h2⟩:=ih e;exact ⟨a,by simpa using h1,h2⟩
theorem TpsF.tus (x:TpsF H F cs):Tus H (cs.map V.ref) F:=by
 induction x with
 | nil=>exact .nil
 | cons e _ ih=>exact .cons e ih
theorem Uq (F:Fam):SeqAt.shaped (.tuple (F.map Ul))=true:=by
 unfold SeqAt.shaped;rw [Ycl];refine ⟨by simp only [PyData.canLay0];exact UB F,Yau ?_⟩;have:=Ue F;simp only [PyData.depth]
 lia
theorem JL (s:LI):SeqAt.shaped (Ul s)=true:=by
 unfold SeqAt.shaped;rw [Ycl];refine ⟨Yl s,Yau ?_⟩;have:=Jw s;simp only [Ul,PyData.depth]
 lia
theorem Wp (ns:LI):VM (ns.map V.int) none (some 1)=(ns.take 1).map V.int:=by
 unfold VM;rw [show (some (1:Int))=some ((1:Nat):Int) from rfl,HT.sIx_nat];cases ns with
 | nil=>rfl
 | cons a b=>simp [HT.sIx]
theorem Zbl (ns:LI):VM (ns.map V.int) (some 1) none=(ns.drop 1).map V.int:=by
 unfold VM;rw [show (some (1:Int))=some ((1:Nat):Int) from rfl,HT.sIx_nat];simp [HT.sIx];cases ns with
 | nil=>rfl
 | cons a b=>
  simp;exact Yfw (by rw [Yac];exact Yae _)
theorem O1 {u z:LI}(e:H c=some (.tup (u.map V.int)))(j:VM (u.map V.int) lo hi=z.map V.int)(h:∀x H',Same H H'->H' x=some (.tup (z.map V.int))->Q (.ref x) H'):Zh5 K (.ref c) lo hi H Q:=by
 refine ⟨c,xe rfl ⟨SqT.of e,λq=>h c H (Same.refl _) (by rw [<-j,q];exact e),λp B=>?_⟩⟩;rw [j];exact h p _ (Same.new B) Gb
noncomputable def Zbm (F:Fam):Fam:=(F.filter λs=>decide (s≠[])).map (List.take 1)
theorem W5 (F:Fam)(s:LI):Zbm (F++[s])=Zbm F++(if s=[] then [] else [s.take 1]):=by
 unfold Zbm;rw [Yen,Yao];by_cases h:s=[] <;> simp [h]
theorem Zbn (nd:F.Nodup)(h0:F≠[])(h1:F≠[[]])(B:r∈Zbm F)(D:∀r'∈Zbm F,GE r' r=false):r=[On F]:=by
 unfold Zbm at B D;obtain ⟨s,L,rfl⟩:=Yai.mp B;obtain ⟨j,q⟩:=Yci.mp L;cases s with
 | nil=>simp at q
 | cons a s=>
  obtain ⟨t,N⟩:=Oz nd h0 h1;have h2:=D [On F] (Yai.mpr ⟨_,Yci.mpr ⟨N,by simp⟩,rfl⟩);have O:=Zdf j;show [a]=_;by_cases e:On F=a
  ·rw [e]
  ·have h2:GE [On F] [a]=false:=h2;unfold GE at h2;rw [if_neg e] at h2;have:=Yez h2
   lia
theorem Zeq (nd:F.Nodup)(h0:F≠[])(h1:F≠[[]]):Zbm F≠[]:=by
 obtain ⟨t,j⟩:=Oz nd h0 h1;intro z;have:[On F]∈Zbm F:=Yai.mpr ⟨_,Yci.mpr ⟨j,by simp⟩,rfl⟩;rw [z] at this;cases this
structure DmF (F:Fam):Prop where
 ok:FamOk F
 len:F.length<=306
theorem Zf2 (F:Fam):(woF F).length<=F.length:=Yfb _ _
theorem Zf3 (F:Fam):(chF F).length<=F.length:=by
 unfold chF;rw [Yac];exact Yfb _ _
theorem Zf4 (r:Rc pfF s k)(h:DmF s):DmF k:=by
 refine ⟨Zdg h.ok r,?_⟩
 induction r with
 | start=>exact h.len
 | lo _ e ih=>rw [(Jm e).2.2.2.1];exact Ybr (Zf2 _) ih
 | hi _ e ih=>rw [(Jm e).2.2.2.2];exact Ybr (Zf3 _) ih
theorem Zix (K:FG)(ha:PE X a ta)(q:∀j,isTrue a X.env j=(do let v <- j;standAt a.pos;holding [v] (truthy v)):=by exact λ_=>rfl)(h:X.K=K:=by rfl):PT X a (λσ H Q=>ta σ H λx H'=>∃k,Zhe K x H' k/\Q k H'):=h▸Uu ha q
section
variable {P:PP}{w:Ab}{K:FG}{mg:Str->Option Aa}{base:Heap}
theorem scFam:Go ["sets", "first", "without", "chosen"] ["sets"] (Gf ZgV):=⟨rfl,rfl,rfl,by decide +kernel,rfl,by decide +kernel,by decide +kernel⟩
theorem Zf5 (F:Fun K "family_parts" "family_parts" ZgV f fd)(ag:mg "min" = none)(ad:mg "tuple" = none):GG P w K mg base CX0 1 f fd ["sets"] (Zh7 (gkF P w) pfF DmF):=by
 refine F.ok scFam (λvs H Q E h=>?_) (λao A ap s H vs Q E hr h=>?_)
 ·obtain ⟨_,_,rfl,_⟩:=h
  rfl
 ·obtain ⟨b,k,rfl,hb,D,q⟩:=h;obtain ⟨cs,eb,tp⟩:=hb;have tp:TpsF H k cs:=tp;have hu:=hr.units;have aq:(A.deeper (PyProof.Rows.envOfC "family_parts" (Gf ZgV) s.heap.objs.size f ao)).units+1<cLine:=by have:=hr.un;lia
  have au:=Ybd.symm;have ab:=Ycv tp;have av:=D.len;refine ⟨_,Gc (GS (XH (Uu (pv 0) (λ_=>rfl))) (Gg (Gq Gd)) Gp)
    (Gc (GS (gCm (Zfa K hu) (pv 0) (GC (Ga (GC Ge) Ge))) (Gg (Gq Gd)) Gp)
    (Gc (gSt 1 scFam.nd (gB1 (Zfs K rfl aq) ag VR (Jz (own:=["roads"]) rfl gSp (Zar K (pv 0)) (λ_ _ _ _=>gNm 0 (show List.Nodup (["roads"]:List Str) by decide +kernel)) (λ_ _ _ _=>OE (Zix K (pv 0))) (λ_ _ _ _=>Jt (ZgR K) (pv 0) JO (JW Gd)))))
    (Gc (gSt 2 scFam.nd (gT1 (X6 K) ad Jv (Jz (own:=["roads"]) rfl (gSc [("first", 1)]) (Zar K (pv 0)) (λ_ _ _ _=>gNm 0 (show List.Nodup (["roads", "first"]:List Str) by decide +kernel)) (λ_ _ _ _=>OE (gCm (Zh3 K hu) (Jt (ZgR K) (pv 0) JO (JW Gd)) (pv 1))) (λ_ _ _ _=>pv 0))))
    (Gc (gSt 3 scFam.nd (gT1 (X6 K) ad Jv (Jz (own:=["roads"]) rfl (gSc [("first", 1)]) (Zar K (pv 0)) (λ_ _ _ _=>gNm 0 (show List.Nodup (["roads", "first"]:List Str) by decide +kernel)) (λ_ _ _ _=>OE (gCm (Zfa K hu) (Jt (ZgR K) (pv 0) JO (JW Gd)) (pv 1))) (λ_ _ _ _=>Jt (ZgR K) (pv 0) (JW Gd) JO))))
    (Gg (Gq (GC (Ga (gIx (YT K) (pv 1) Gd) (Ga (pv 2) (Ga (pv 3) Ge)))))))))),?_⟩
  refine lT6 ?_;intro Z R6 R5 R4 R3 R2;by_cases h0:k=[]
  ·subst h0;cases tp;refine xe rfl ⟨false,.inr (.inl ⟨_,SqT.of eb,rfl⟩),JX ?_⟩;exact q _ H (Same.refl _) (by show PV (gkF P w) H (.int 0) (pfF []);simp [pfF,PV])
  have ar:cs≠[]:=λz=>h0 (by rw [z] at ab;exact List.length_eq_zero_iff.mp ab);refine xe rfl ⟨true,.inr (.inl ⟨_,SqT.of eb,by simp [ar]⟩),O5 ?_⟩;dsimp only [JN];refine Gn (λσ' H'=>σ'=[some (.ref b),none,none,none]/\Same H H'/\k≠[[]]) ?s0 ?f0
  case f0=>
   intro hk;refine ⟨_,rfl,Yax _,λe he=>⟨(by show 1<=sizeLine;decide),λt ht=>?_⟩⟩;have s1:Same H (upd H e (.tup [])):=Same.new he;have s2:Same (upd H e (.tup [])) (upd (upd H e (.tup [])) t (.tup [.ref e])):=Same.new ht;have S2:=s1.trans s2;have ee:upd (upd H e (.tup [])) t (.tup [.ref e]) e=some (.tup (([]:LI).map V.int)):=s2 _ _ Gb;refine ⟨.tuple (k.map Ul),.tuple ([[]].map Ul),.tup (SqT.of (S2 _ _ eb)) (tp.keep λp ys e=>S2 _ _ e).dats,.tup (SqT.of Gb) (.cons (.tup (SqT.of ee) .nil) .nil),Uq _,Uq _,xe rfl ?_⟩;rw [Ym];by_cases h1:k=[[]]
   ·rw [Yau h1];refine JX ?_;exact q _ _ S2 (by rw [h1];show PV (gkF P w) _ (.int 1) (pfF [[]]);simp [pfF,PV])
   ·rw [Ybl h1];refine O5 ?_;exact hk _ _ ⟨rfl,S2,h1⟩
  rintro σ' H2 ⟨rfl,s2,h1⟩;have ae:=s2 _ _ eb;have ah:=tp.keep λp ys e=>s2 _ _ e;have nd:=D.ok.nd;refine Gn (λσ' H'=>∃t:AD,σ'=[some (.ref b),some (.ref t),none,none]/\Same H2 H'/\H' t=some (.tup [.int (On k)])) ?s1 ?f1
  case f1=>
   intro hk;refine xe rfl ⟨b,rfl,⟨_,SqT.of ae⟩,λD hD=>?_⟩
   let Pv:CI:=λj ys H'=>∃L:List AD,ys=L.map V.ref/\Same H2 H'/\H' D=some (.lst ys)/\TpsF H' (Zbm (k.take j)) L
   refine V2 (K:=K) (a:=b) (xs:=cs.map V.ref) Pv ⟨[],rfl,Same.new hD,Gb,.nil⟩ (by rintro j ys H' _ ⟨_,_,s,_⟩;exact SqT.of (s _ _ ae)) ?_ ?_
   ·rintro j y ys H5 Y ⟨L,rfl,N,eD,O⟩;rw [Yay] at Y;obtain ⟨c,hc,rfl⟩:=Ybt.mp Y;obtain ⟨u,aa,ec⟩:=ah.get hc;have U:=N _ _ ec;have tk:k.take (j+1)=k.take j++[u]:=by rw [Ybx,aa];rfl
    have ai:=Ycv O;have aj:(Zbm (k.take j)).length<=k.length:=by
     unfold Zbm;rw [Yac];exact Ybr (Yfb _ _) (by rw [Ybn];lia)
    refine ⟨trivial,?_⟩;by_cases ac:u=[]
    ·refine xe rfl ⟨false,.inr (.inl ⟨_,SqT.of U,by rw [ac];rfl⟩),O5 ?_⟩;exact ⟨L,rfl,N,eD,by rw [tk,W5,if_pos ac,Yef];exact O⟩
    ·refine xe rfl ⟨true,.inr (.inl ⟨_,SqT.of U,by simp [ac]⟩),JX ?_⟩;refine ⟨_,rfl,_,rfl,O1 U (Wp u) λx H6 B ex=>⟨B _ _ eD,by rw [Yac];lia,L++[x],by rw [Yao];rfl,(N.trans B).put hD,Gb,?_⟩⟩;have t1:=GR (o:=.lst (L.map V.ref++[.ref x])) (B _ _ eD);rw [tk,W5,if_neg ac];exact ((O.keep λp ys e=>B _ _ e).keep t1).snoc (t1 _ _ ex)
   ·rintro ys H5 ⟨L,rfl,N,eD,O⟩;rw [Yac,<-ab,Ybu] at O;refine ⟨D,_,xe rfl ⟨SqL.of eD,O.tus,Zeq nd h0 h1,λt r ⟨⟨i,e1,e2⟩,hl⟩=>?_⟩⟩;have er:=Zbn nd h0 h1 (Yaz e2) hl;subst er;rw [Yay] at e1;obtain ⟨c,hc,ec⟩:=Ybt.mp e1;cases ec;obtain ⟨u,aa,eu⟩:=O.get hc;rw [e2] at aa;cases aa;exact hk _ _ ⟨_,rfl,N,eu⟩
  rintro σ' H3 ⟨t,rfl,s3,et⟩;have af:=s3 _ _ ae;have ak:=ah.keep λp ys e=>s3 _ _ e;have al:H3 t=some (.tup ([On k].map V.int)):=et;refine Gn (λσ' H'=>∃bl:AD,σ'=[some (.ref b),some (.ref t),some (.ref bl),none]/\Same H3 H'/\KeyTT H' bl (woF k)) ?s2 ?f2
  case f2=>
   intro hk;refine xe rfl ⟨b,rfl,⟨_,SqT.of af⟩,λD hD=>?_⟩
   let Pv:CI:=λj ys H'=>∃L:List AD,ys=L.map V.ref/\Same H3 H'/\H' D=some (.lst ys)/\TpsF H' ((k.take j).filter λs:LI=>decide (s.take 1≠[On k])) L
   refine V2 (K:=K) (a:=b) (xs:=cs.map V.ref) Pv ⟨[],rfl,Same.new hD,Gb,.nil⟩ (by rintro j ys H' _ ⟨_,_,s,_⟩;exact SqT.of (s _ _ af)) ?_ ?_
   ·rintro j y ys H5 Y ⟨L,rfl,N,eD,O⟩;rw [Yay] at Y;obtain ⟨c,hc,rfl⟩:=Ybt.mp Y;obtain ⟨u,aa,ec⟩:=ak.get hc;have U:=N _ _ ec;have tk:k.take (j+1)=k.take j++[u]:=by rw [Ybx,aa];rfl
    have ai:=Ycv O;have aj:((k.take j).filter λs:LI=>decide (s.take 1≠[On k])).length<=k.length:=Ybr (Yfb _ _) (by rw [Ybn];lia);refine ⟨by simp [JJ,JI],?_⟩;refine ⟨_,rfl,_,rfl,O1 U (Wp u) λx H6 B ex=>⟨_,rfl,Ul (u.take 1),Ul [On k],.tup (SqT.of ex) (GV _),.tup (SqT.of (B _ _ (N _ _ al))) (GV _),JL _,JL _,_,rfl,?_⟩⟩;rw [Wj];by_cases hh:u.take 1=[On k]
    ·rw [Yau hh];refine O5 ⟨L,rfl,N.trans B,B _ _ eD,?_⟩;rw [tk,Yen,Yfp (by simp [hh]),List.filter_nil,Yef];exact O.keep λp ys e=>B _ _ e
    ·rw [Ybl hh];refine JX ⟨_,rfl,B _ _ eD,by rw [Yac];lia,L++[c],by rw [Yao];rfl,(N.trans B).put hD,Gb,?_⟩;have t1:=GR (o:=.lst (L.map V.ref++[.ref c])) (B _ _ eD);rw [tk,Yen,Yfc (by simp [hh]),List.filter_nil];exact ((O.keep λp ys e=>B _ _ e).keep t1).snoc (t1 _ _ (B _ _ U))
   ·rintro ys H5 ⟨L,rfl,N,eD,O⟩;rw [Yac,<-ab,Ybu] at O;refine ⟨D,xe rfl (.inl ⟨SqL.of eD,λl hl=>?_⟩)⟩;have B:Same H5 (upd H5 l (.tup (L.map V.ref))):=Same.new hl;exact hk _ _ ⟨l,rfl,N.trans B,L,Gb,O.keep λp ys e=>B _ _ e⟩
  rintro σ' H4 ⟨bl,rfl,s4,kl⟩;have am:=s4 _ _ af;have as:=ak.keep λp ys e=>s4 _ _ e;have an:=s4 _ _ al;refine Gn (λσ' H'=>∃bh:AD,σ'=[some (.ref b),some (.ref t),some (.ref bl),some (.ref bh)]/\Same H4 H'/\KeyTT H' bh (chF k)) ?s3 ?f3
  case f3=>
   intro hk;refine xe rfl ⟨b,rfl,⟨_,SqT.of am⟩,λD hD=>?_⟩
   let Pv:CI:=λj ys H'=>∃L:List AD,ys=L.map V.ref/\Same H4 H'/\H' D=some (.lst ys)/\TpsF H' (((k.take j).filter λs:LI=>decide (s.take 1=[On k])).map (List.drop 1)) L
   refine V2 (K:=K) (a:=b) (xs:=cs.map V.ref) Pv ⟨[],rfl,Same.new hD,Gb,.nil⟩ (by rintro j ys H' _ ⟨_,_,s,_⟩;exact SqT.of (s _ _ am)) ?_ ?_
   ·rintro j y ys H5 Y ⟨L,rfl,N,eD,O⟩;rw [Yay] at Y;obtain ⟨c,hc,rfl⟩:=Ybt.mp Y;obtain ⟨u,aa,ec⟩:=as.get hc;have U:=N _ _ ec;have tk:k.take (j+1)=k.take j++[u]:=by rw [Ybx,aa];rfl
    have ai:=Ycv O;have aj:(((k.take j).filter λs:LI=>decide (s.take 1=[On k])).map (List.drop 1)).length<=k.length:=by
     rw [Yac];exact Ybr (Yfb _ _) (by rw [Ybn];lia)
    refine ⟨by simp [JJ,JI],?_⟩;refine ⟨_,rfl,_,rfl,O1 U (Wp u) λx H6 B ex=>⟨_,rfl,Ul (u.take 1),Ul [On k],.tup (SqT.of ex) (GV _),.tup (SqT.of (B _ _ (N _ _ an))) (GV _),JL _,JL _,_,rfl,?_⟩⟩;rw [Wj];by_cases hh:u.take 1=[On k]
    ·rw [Yau hh];refine JX ⟨_,rfl,_,rfl,?_⟩;dsimp only [Xh];refine O1 (B _ _ U) (Zbl u) (λy H7 s7 ey=>⟨s7 _ _ (B _ _ eD),by rw [Yac];lia,L++[y],by rw [Yao];rfl,((N.trans B).trans s7).put hD,Gb,?_⟩);have t1:=GR (o:=.lst (L.map V.ref++[.ref y])) (s7 _ _ (B _ _ eD));rw [tk,Yen,Yfc (by simp [hh]),List.filter_nil,Yao];exact (((O.keep λp ys e=>B _ _ e).keep λp ys e=>s7 _ _ e).keep t1).snoc (t1 _ _ ey)
    ·rw [Ybl hh];refine O5 ⟨L,rfl,N.trans B,B _ _ eD,?_⟩;rw [tk,Yen,Yfp (by simp [hh]),List.filter_nil,Yef];exact O.keep λp ys e=>B _ _ e
   ·rintro ys H5 ⟨L,rfl,N,eD,O⟩;rw [Yac,<-ab,Ybu] at O;refine ⟨D,xe rfl (.inl ⟨SqL.of eD,λl hl=>?_⟩)⟩;have B:Same H5 (upd H5 l (.tup (L.map V.ref))):=Same.new hl;exact hk _ _ ⟨l,rfl,N.trans B,L,Gb,O.keep λp ys e=>B _ _ e⟩
  rintro σ' H5 ⟨bh,rfl,N,kh⟩;refine xe rfl ⟨t,_,xd rfl rfl ⟨SqT.of (N _ _ an),Gr (j:=0) rfl,xe rfl (xe rfl ⟨(by show 3<=sizeLine;decide),λp hp=>?_⟩)⟩⟩;have B:Same H5 (upd H5 p (.tup [.int (On k),.ref bl,.ref bh])):=Same.new hp;refine q _ _ ((((s2.trans s3).trans s4).trans N).trans B) ?_;have ek:pfF k=.node (On k) (woF k) (chF k):=by unfold pfF;rw [if_neg h0,if_neg h1]
  rw [ek];exact ⟨p,bl,bh,rfl,Gb,(kl.same N).same B,kh.same B⟩
noncomputable abbrev Lx (F:List (LI)):Prop:=F.Pairwise λa b=>GE a b=true
theorem Yv:∀{F G:List (LI)},Lx F->Lx G->(∀s,s∈F↔s∈G)->F=G
 | [],[],_,_,_=>rfl
 | [],b::G,_,_,h=>absurd ((h b).mpr (Ybj ..)) (by simp)
 | a::F,[],_,_,h=>absurd ((h a).mp (Ybj ..)) (by simp)
 | a::F,b::G,hF,hG,h=>by
  obtain ⟨f1,f2⟩:=Yej.mp hF;obtain ⟨B,D⟩:=Yej.mp hG;have e:a=b:=by
   rcases Yav.mp ((h a).mp (Ybj ..)) with e | e
   ·exact e
   ·rcases Yav.mp ((h b).mpr (Ybj ..)) with q | q
    ·exact q.symm
    ·have:=Oy (B a e) (f1 b q);rw [Jg] at this;cases this
  subst e;rw [Yv f2 D λs=>?_];have L:s∈F->s≠a:=λj z=>by have:=f1 s j;rw [z,Jg] at this;cases this
  have N:s∈G->s≠a:=λj z=>by have:=B s j;rw [z,Jg] at this;cases this
  constructor
  ·intro j;exact (Yav.mp ((h s).mp (Ybf _ j))).resolve_left (L j)
  ·intro j;exact (Yav.mp ((h s).mpr (Ybf _ j))).resolve_left (N j)
theorem Zdi {H:Hp}:∀{ws:List (AD×LI)},(∀z∈ws,H z.1=some (.tup (z.2.map V.int)))->TpsF H (ws.map (·.2)) (ws.map (·.1))
 | [],_=>.nil
 | z::ws,h=>.cons (h z (Ybj ..)) (Zdi λy hy=>h y (Ybf _ hy))
theorem VE (nd:F.Nodup)(j:F.Pairwise λa b=>GE b a=false):Lx F:=by
 refine (List.Pairwise.and nd j).imp λ{a b} ⟨h1,h2⟩=>?_;cases h:GE a b with
 | true=>rfl
 | false=>exact absurd (Oj h h2) h1
noncomputable def Zf6 (q j tb:AD):Sp:=λvs H Q E=>∃(l:AD)(zs:List (AD×LI))(F:Fam)(U Un:List Fam),vs=[.ref l]/\H l=some (.lst (zs.map λz=>V.ref z.1))/\(∀z∈zs,H z.1=some (.lst (z.2.map V.int)))/\zs.length<=306/\Lx F/\(∀s,s∈F↔s∈zs.map (·.2))/\FamOk F /\
 (∀k,Rc pfF F k->k∈U)/\(∀k,Rc pfF F k->Uo (pfF k)=true->k∈Un)/\U.length<=10000/\LD tb H /\
 (∀(p l:AD)(a0 root:Int)(xs:List V)(us ts:List Tri)(fs:LI)(H':Hp),SameL tb H H'->LD tb H'->H p=none->H l=none->TabAt H' p l a0 xs us->LeT pfF F a0 us ts root fs->ts.length<=Un.length->ts.length<=800->Q (.ref p) H') /\
 (∀(ts:List Tri)(H':Hp),SameL tb H H'->LD tb H'->Grw pfF F [] ts->800<ts.length->ts.length<=Un.length->E (.ref j) none H')
theorem scTof:Go ["sets", "family"] ["sets"] (Gf ZgW):=⟨rfl,rfl,rfl,by decide +kernel,rfl,by decide +kernel,by decide +kernel⟩
theorem Zf7 (F:Fun K "table_of" "table_of" ZgW f fd)(ai:mg "family_parts" = some (.ref fP))(aj:mg "MOST_NODES" = some (.int 800 tM))(ak:Fun K "least_table" "least_table" ZfD ac N)(al:Binds K N ["start", "parts", "most"] [])(am:mg "least_table" = some (.ref ac))(an:GG P w K mg base (CXr P w) 4 ac N ["start", "parts", "most"] (ZfY (gkF P w) pfF DmF fP TM tb))(Y:mg "tuple" = none)(af:mg "sorted" = none)(ag:mg "set" = none):GG P w K mg base (CXr P w) 5 f fd ["sets"] (Zf6 fP TM tb):=by
 refine F.okR scTof (λvs H Q E h=>?_) (λay A ao s H vs Q E hr h=>?_)
 ·obtain ⟨_,_,_,_,_,rfl,_⟩:=h
  rfl
 ·obtain ⟨l,zs,Fm,U,Un,rfl,el,lz,az,ap,aa,FO,hU,aq,ar,ld,qq,qe⟩:=h;have hu:=hr.units;have a1:=Ybd.symm;refine ⟨_,Gc (gSt 1 scTof.nd (gT1 (X6 K) Y Jv (gB1 (Zfr K rfl hu) af Yfa (gT1 (ZhA K rfl hu) ag ZbS (Jz (own:=["roads"]) rfl gSp (Om K (pv 0)) (λ_ _ _ _=>gNm 0 (show List.Nodup (["roads"]:List Str) by decide +kernel)) (λ_ _ _ _=>GY) (λ_ _ _ _=>gT1 (X6 K) Y Jv (pv 0)))))))
    (Gg (Gq (gCa an am ak.kp al ZdK (Ga (pv 1) (Ga (Xg (v:=.ref fP) rfl ai rfl) (Ga (Xg (v:=.int 800) rfl aj ⟨_,rfl⟩) Ge)))))),?_⟩
  refine lT2 ?_;intro Z R2;refine Gn (λσ' H'=>∃b:AD,σ'=[some (.ref l),some (.ref b)]/\Same H H'/\KeyTT H' b Fm) ?s0 ?f0
  case f0=>
   intro hk;refine xe rfl ⟨l,rfl,⟨_,SqL.of el⟩,λD hD=>?_⟩
   let Pv:CI:=λj ys H'=>∃cs:List AD,ys=cs.map V.ref/\Same H H'/\H' D=some (.lst ys)/\TpsF H' ((zs.map (·.2)).take j) cs
   refine Jo (K:=K) (a:=l) (xs:=zs.map λz=>V.ref z.1) Pv ⟨[],rfl,Same.new hD,Gb,.nil⟩ (by rintro j ys H' _ ⟨_,_,s,_⟩;exact SqL.of (s _ _ el)) ?_ ?_
   ·rintro j y ys H2 ah ⟨cs,rfl,s2,eD,tp⟩;rw [Yay] at ah;obtain ⟨z,hz,rfl⟩:=Ybt.mp ah;have as:=Yaz hz;have tk:(zs.map (·.2)).take (j+1)=(zs.map (·.2)).take j++[z.2]:=by rw [Ybx,Yay,hz];rfl
    have au:=Ycv tp;rw [Ybn] at au;have hj:j<zs.length:=(Yal.mp hz).1;refine ⟨trivial,?_⟩;unfold XN;refine JX ?_;refine xe rfl ⟨z.1,xe rfl (.inl ⟨SqL.of (s2 _ _ (lz z as)),λt ht=>?_⟩)⟩;have s3:Same H2 (upd H2 t (.tup (z.2.map V.int))):=Same.new ht;refine ⟨s3 _ _ eD,(by rw [Yac];lia),cs++[t],by rw [Yao];rfl,(s2.trans s3).put hD,Gb,?_⟩;rw [tk];have t1:=GR (o:=.lst (cs.map V.ref++[.ref t])) (s3 _ _ eD);exact ((tp.keep λp ys e=>s3 _ _ e).keep t1).snoc (t1 _ _ Gb)
   ·rintro ys H2 ⟨cs,rfl,s2,eD,tp⟩;rw [Yac,<-Yac (f:=λz:AD×LI=>z.2),Ybu] at tp;refine ⟨D,_,xe rfl ⟨SqL.of eD,tp.tus,by rw [Yac];lia,λq ws ad nd mem at_=>?_⟩⟩;have s3:Same H2 (upd H2 q (Zda w q ws)):=Same.new ad;have a2:ws.length<=306:=by
     have:=Ydb nd (l₂:=zs.map (·.2)) λk hk=>(mem k).mp hk;rw [Yac,Yac] at this
     lia
    refine ⟨q,ws,rfl,Gb,λz hz=>s3 _ _ (at_ z hz),by lia,λl3 B av pm so=>?_⟩;have s4:Same (upd H2 q (Zda w q ws)) (upd (upd H2 q (Zda w q ws)) l3 (.lst (B.map λz=>V.ref z.1))):=Same.new av;refine ⟨l3,xe rfl (.inl ⟨SqL.of Gb,λb hb=>?_⟩)⟩;have s5:Same (upd (upd H2 q (Zda w q ws)) l3 (.lst (B.map λz=>V.ref z.1))) (upd (upd (upd H2 q (Zda w q ws)) l3 (.lst (B.map λz=>V.ref z.1))) b (.tup (B.map λz=>V.ref z.1))):=Same.new hb;have S5:=(s3.trans s4).trans s5;have eF:B.map (·.2)=Fm:=Yv (VE ((pm.map (·.2)).nodup_iff.mpr nd) so) ap λs=>by rw [(pm.map (·.2)).mem_iff,mem s,aa s]
    refine hk _ _ ⟨b,rfl,s2.trans S5,B.map (·.1),?_,?_⟩
    ·rw [Gb,Ydh]
     rfl
    ·rw [<-eF];exact Zdi λz hz=>S5 _ _ (at_ z (pm.mem_iff.mp hz))
  rintro σ' H1 ⟨b,rfl,s1,kb⟩;obtain ⟨a3,eT⟩:=ld.tbl;have aw:Fm.length<=306:=by
   have:=Ydb FO.nd (l₂:=zs.map (·.2)) λk hk=>(aa k).mp hk;rw [Yac] at this
   lia
  have ab:Abv pfF Fm (-1):=λr a b e=>by
   have:=((Wn FO).nd _ _ _ _ .start e).1.1
   lia
  refine xe rfl ⟨b,Fm,U,Un,800,rfl,kb,⟨FO,aw⟩,hU,aq,ar,⟨by decide,by decide⟩,Wn FO,ab,ld.same s1,λp q a0 root xs us ts fs H2 s2 O hp ad W L ae a4=>?_,λts H2 s2 O D hM ae=>qe ts H2 ((SameL.of s1).trans s2) O D (by lia) ae⟩;obtain ⟨ax,a5⟩:=O.tbl;exact qq p q a0 root xs us ts fs H2 ((SameL.of s1).trans s2) O (s1.free hp) (s1.free ad) W L ae (by lia)
noncomputable def Zer:Sp:=λvs H Q _=>∃(n:Int)(m:Nat),vs=[.int n,.int (m:Int)]/\m<=40/\∀(j:AD)(rs:List Nat)(H':Hp),Same H H'->H j=none->H' j=some (.lst ((rs.map λk:Nat=>(k:Int)).map V.int))->rs.Pairwise (· < ·)->(∀k∈rs,k<m)->Q (.ref j) H'
theorem scBit:Go ["number", "width", "one", "road"] ["number", "width"] (Gf ZfE):=⟨rfl,rfl,rfl,by decide +kernel,rfl,by decide +kernel,by decide +kernel⟩
theorem Zf8 (F:Fun K "_law_bits" "_law_bits" ZfE f fd)(B:mg "range" = none):GG P w K mg base CX0 1 f fd ["number", "width"] Zer:=by
 refine F.ok scBit (λvs H Q E h=>?_) (λad A Y s H vs Q E hr h=>?_)
 ·obtain ⟨_,_,rfl,_⟩:=h
  rfl
 ·obtain ⟨n,m,rfl,hm,q⟩:=h;have ae:=Ybd.symm;refine ⟨_,Gc (gSt 2 scBit.nd (Gx Ge))
    (Gc (Js Ycg rfl (Jy rfl B (Ga (pv 1) Ge)) (gNm 3 scBit.nd)
    (Gc (GS (gCm Ou (Gm GQ (pv 0) Gd) Gd) (Gg (G8 (kBm K Ycf Yct Ycu GB (pv 2) (Ga (pv 3) Ge)))) Gp)
    (Gg (gSt 0 scBit.nd (Gm GD (pv 0) Gd)))))
    (Gg (Gq (pv 2)))),?_⟩
  refine lT3 ?_;intro Z R3 R2;refine ⟨Yax _,λl hl=>?_⟩;refine xe rfl (xe rfl ⟨by lia,by lia,?_⟩);rw [Ydf]
  let Pv:FI:=λi σ H2=>∃(j:List Nat)(r:Int)(v3:Option V),σ=[some (.int r),some (.int (m:Int)),some (.ref l),v3]/\Same H H2/\H2 l=some (.lst ((j.map λk:Nat=>(k:Int)).map V.int))/\j.length<=i/\j.Pairwise (· < ·)/\∀k∈j,k<i
  refine J2 (lo:=0) (n:=m) Pv ⟨[],_,none,rfl,Same.new hl,Gb,Yae _,List.Pairwise.nil,λk N=>by cases N⟩ ?_ ?_
  ·rintro i σ H2 hi ⟨j,r,v3,rfl,O,D,rl,U,lt⟩;rw [Int.zero_add];dsimp only [Gv];refine Gn (λσ' H'=>∃(j:List Nat),σ'=[some (.int r),some (.int (m:Int)),some (.ref l),some (.int (i:Int))]/\Same H H'/\H' l=some (.lst ((j.map λk:Nat=>(k:Int)).map V.int))/\j.length<=i+1/\j.Pairwise (· < ·)/\∀k∈j,k<i+1) ?snd ?fst
   case fst=>
    intro N;refine xe rfl (xd rfl rfl ⟨(by show (0:Int)<2;decide),rfl,xe rfl (J1 (λ_=>?_) (λ_=>N _ _ ⟨j,rfl,O,D,by lia,U,λk h=>by have:=lt k h;lia⟩))⟩);refine xe rfl ⟨.inl ⟨rfl,_,SqL.of D⟩,xe rfl ⟨l,xd rfl rfl ⟨D,by rw [Yac,Yac];lia,?_⟩⟩⟩;refine N _ _ ⟨j++[i],rfl,O.put hl,by rw [Gb,Yao,Yao];rfl,by rw [Yam,Ybc];lia,Ycb.mpr ⟨U,by simp,λa ha b hb=>?_⟩,λk h=>?_⟩
    ·rw [Yaj.mp hb];exact lt a ha
    ·rcases Yak.mp h with h | h
     ·have:=lt k h
      lia
     ·rw [Yaj.mp h]
      lia
   case snd=>
    rintro σ' H' ⟨L,rfl,s3,e3,aa,ab,ac⟩;refine xe rfl (xd rfl rfl ⟨⟨by decide,GN⟩,?_⟩);exact ⟨L,_,xe rfl ⟨s3,e3,aa,ab,ac⟩⟩
  ·rintro σ H2 ⟨j,r,v3,rfl,O,D,rl,U,lt⟩;exact xe rfl (q l j H2 O hl D U lt)
noncomputable def shn (ps:LI)(k:Int):Int:=if k<2 then 0 else ps.getD (k-2).toNat 0
noncomputable def GX (ps pr:LI)(i:Nat)(r:Tri):Bool:=!(decide (r.2.1≠0) && decide (shn ps r.2.1<ps.getD i 0)) && decide (ps.getD i 0<=pr.getD r.1.toNat 0+shn ps r.2.2)
theorem Yw {k:Int}(h0:0<=k)(h1:k<ps.length+2):atI (([0,0]++ps).map V.int) k=some (.int (shn ps k)):=by
 rw [Oa h0 (by simp;lia)];unfold shn;by_cases h:k<2
 ·rw [if_pos h];have:k=0\/k=1:=by lia
  rcases this with rfl | rfl <;> rfl
 ·rw [if_neg h];obtain ⟨j,q⟩:∃j:Nat,k.toNat=j+2:=⟨k.toNat-2,by lia⟩;have e:(k-2).toNat=j:=by lia
  rw [q,e]
  rfl
noncomputable def Zf9:Sp:=λvs H Q _=>∃(j nd pr:AD)(ps qs:LI)(i:Nat)(r:Tri),vs=[.ref j,.int ((i:Int)+2),.ref nd,.ref pr]/\H j=some (.lst (([0,0]++ps).map V.int))/\H nd=some (.tup [.int r.1,.int r.2.1,.int r.2.2])/\H pr=some (.lst (qs.map V.int))/\i<ps.length/\(0<=r.1/\r.1<qs.length)/\(0<=r.2.1/\r.2.1<ps.length+2)/\(0<=r.2.2/\r.2.2<ps.length+2)/\Q (.bl (GX ps qs i r)) H
theorem scIsr:Go ["shown", "number", "node", "prices", "road", "low", "high"] ["shown", "number", "node", "prices"] (Gf ZgT):=⟨rfl,rfl,rfl,by decide +kernel,rfl,by decide +kernel,by decide +kernel⟩
theorem Zga (F:Fun K "is_right" "is_right" ZgT f fd):GG P w K mg base CX0 1 f fd ["shown", "number", "node", "prices"] Zf9:=by
 refine F.ok scIsr (λvs H Q E h=>?_) (λY A N s H vs Q E hr h=>?_)
 ·obtain ⟨_,_,_,_,_,_,_,rfl,_⟩:=h
  rfl
 ·obtain ⟨j,nd,pr,ps,qs,i,r,rfl,es,en,ep,hi,h1,h2,U,q⟩:=h;refine ⟨_,Gc (OC (pv 2) (Xc K (n:=3) rfl (Gk (gNm 4 scIsr.nd) (Gk (gNm 5 scIsr.nd) (Gk (gNm 6 scIsr.nd) G9)))))
    (Gc (GS (PW.pt (XG (gCm ZbH (pv 5) Gd) (VG (gCm ZD (gIx (Of K) (pv 0) (pv 1)) (gIx (Of K) (pv 0) (pv 5)))))) (Gg (Gq JM)) Gp)
    (Gg (Gq (gCe ZeV (gIx (Of K) (pv 0) (pv 1)) (Gm GT (gIx (Of K) (pv 3) (pv 4)) (gIx (Of K) (pv 0) (pv 6))))))),?_⟩
  refine lT3 ?_;intro Z R3 R2;have me:shn ps ((i:Int)+2)=ps.getD i 0:=by
   unfold shn;rw [if_neg (by lia),show ((i:Int)+2-2).toNat=i by lia]
  have at1:=Yw (ps:=ps) (k:=(i:Int)+2) (by lia) (by lia);rw [me] at at1;have O:=Yw h2.1 h2.2;have B:=Yw U.1 U.2;refine xe rfl ⟨nd,xe rfl ⟨SqT.of en,rfl,_,xe rfl ⟨_,xe rfl (xd rfl rfl ?_)⟩⟩⟩;refine xe rfl ⟨rfl,xe rfl ?_⟩;by_cases D:r.2.1=0
  ·refine J1 (λc=>?_) (λ_=>?_)
   ·exact absurd c (by rw [D];decide)
   ·refine O5 ?_;refine xe rfl (xe rfl ⟨j,_,xd rfl rfl ⟨SqL.of es,at1,xe rfl (xe rfl ⟨pr,_,xd rfl rfl ⟨SqL.of ep,Oa h1.1 h1.2,xe rfl (xe rfl ⟨j,_,xd rfl rfl ⟨SqL.of es,B,xd rfl rfl (xd rfl rfl ?_)⟩⟩)⟩⟩)⟩⟩);have:GX ps qs i r=decide (ps.getD i 0<=qs.getD r.1.toNat 0+shn ps r.2.2):=by simp [GX,D]
    show Q (.bl (decide (ps.getD i 0<=qs.getD r.1.toNat 0+shn ps r.2.2))) H;rw [<-this];exact q
  ·refine J1 (λ_=>?_) (λc=>?_)
   ·refine xe rfl (xe rfl ⟨j,_,xd rfl rfl ⟨SqL.of es,at1,xe rfl (xe rfl ⟨j,_,xd rfl rfl ⟨SqL.of es,O,xd rfl rfl (xe rfl ?_)⟩⟩)⟩⟩);by_cases L:shn ps r.2.1<ps.getD i 0
    ·rw [Yau L];refine JX ?_;have:GX ps qs i r=false:=by simp only [GX,Yau D,Yau L];rfl
     rw [<-this];exact q
    ·rw [Ybl L];refine O5 ?_;refine xe rfl (xe rfl ⟨j,_,xd rfl rfl ⟨SqL.of es,at1,xe rfl (xe rfl ⟨pr,_,xd rfl rfl ⟨SqL.of ep,Oa h1.1 h1.2,xe rfl (xe rfl ⟨j,_,xd rfl rfl ⟨SqL.of es,B,xd rfl rfl (xd rfl rfl ?_)⟩⟩)⟩⟩)⟩⟩);have:GX ps qs i r=decide (ps.getD i 0<=qs.getD r.1.toNat 0+shn ps r.2.2):=by simp only [GX,Yau D,Ybl L];rfl
     show Q (.bl (decide (ps.getD i 0<=qs.getD r.1.toNat 0+shn ps r.2.2))) H;rw [<-this];exact q
   ·exact absurd (by simpa using D) c
noncomputable def Zgb:Sp:=λvs H Q _=>∃(l:AD)(ps:LI)(k:Int),vs=[.ref l,.int k]/\H l=some (.lst (ps.map V.int))/\0<=k/\k<ps.length+2/\Q (.int (shn ps k)) H
theorem ZhP:Go ["paper", "k"] ["paper", "k"] (Gf ZgZ):=⟨rfl,rfl,rfl,by decide +kernel,rfl,by decide +kernel,by decide +kernel⟩
theorem Zgc (F:Fun K "_law_number" "_law_number" ZgZ f fd):GG P w K mg base CX0 1 f fd ["paper", "k"] Zgb:=by
 refine F.ok ZhP (λvs H Q E h=>?_) (λB A j s H vs Q E L h=>?_)
 ·obtain ⟨_,_,_,rfl,_⟩:=h
  rfl
 ·obtain ⟨l,ps,k,rfl,D,h0,h1,q⟩:=h;refine ⟨_,Gc (GS (gCm Zds (pv 1) Gd) (Gg (Gq Gd)) Gp)
    (Gg (Gq (gIx (Of K) (pv 0) (Gm JZ (pv 1) Gd)))),?_⟩
  refine lT2 ?_;intro Z R2;refine xe rfl (xd rfl rfl (xe rfl ?_));by_cases c:k<2
  ·rw [Yau c];refine JX ?_;have:shn ps k=0:=by unfold shn;rw [if_pos c]
   rw [this] at q;exact q
  ·rw [Ybl c];refine O5 ?_;refine xe rfl (xe rfl (xd rfl rfl ⟨l,_,xd rfl rfl ⟨SqL.of D,Oa (by lia) (by lia),?_⟩⟩));have:shn ps k=ps.getD (k-2).toNat 0:=by unfold shn;rw [if_neg c]
   rw [this] at q;exact q
noncomputable def ZcD:Sp:=λvs H Q _=>∃(c:Int)(k:Nat),vs=[.int c,.int (k:Int)]/\k<=1000/\∀z:Int,0<=z->z<268435446->Q (.int z) H
theorem scStr:Go ["cell", "k", "one"] ["cell", "k"] (Gf ZeH):=⟨rfl,rfl,rfl,by decide +kernel,rfl,by decide +kernel,by decide +kernel⟩
theorem Zgd (F:Fun K "_law_stir" "_law_stir" ZeH f fd):GG P w K mg base CX0 1 f fd ["cell", "k"] ZcD:=by
 refine F.ok scStr (λvs H Q E h=>?_) (λB A j s H vs Q E U h=>?_)
 ·obtain ⟨_,_,rfl,_⟩:=h
  rfl
 ·obtain ⟨c,k,rfl,Y,q⟩:=h;refine ⟨_,Gc (gSt 2 scStr.nd (Gm GQ (Gm Ug (Gm GT (Gm GT (Gm GQ (pv 0) Gd) (Gm Ug Gd (pv 1))) Gd) Gd) Gd))
    (Gc (gSt 2 scStr.nd (Gm GQ (Gm Ug (pv 2) (pv 2)) Gd))
    (Gg (Gq (Gm GD (Gm GQ (Gm Ug (Gm GT (pv 2) (Gm Ug Gd (pv 1))) Gd) Gd) Gd)))),?_⟩
  refine lT3 ?_;intro Z R3 R2;have a0:0<=c % 2147483629:=Ycm _ (by decide);have a1:c % 2147483629<2147483629:=Ycn _ (by decide);refine xe rfl (xd rfl rfl ⟨(by show (0:Int)<2147483629;decide),xe rfl (xd rfl rfl ⟨.inl ⟨by lia,by lia⟩,xd rfl rfl (xd rfl rfl (xd rfl rfl ⟨.inl ⟨by lia,by lia⟩,xd rfl rfl ⟨(by show (0:Int)<2147483647;decide),?_⟩⟩))⟩)⟩);have D:0<=(c % 2147483629+9973 * (k:Int)+5) * 48271 % 2147483647:=Ycm _ (by decide);have L:(c % 2147483629+9973 * (k:Int)+5) * 48271 % 2147483647<2147483647:=Ycn _ (by decide);dsimp only [Gv];generalize (c % 2147483629+9973 * (k:Int)+5) * 48271 % 2147483647=m at D L ⊢;refine xe rfl (xe rfl (xd rfl rfl ⟨.inl ⟨by lia,by lia⟩,xd rfl rfl ⟨(by show (0:Int)<2147483587;decide),?_⟩⟩));have N:0<=m * m % 2147483587:=Ycm _ (by decide);have O:m * m % 2147483587<2147483587:=Ycn _ (by decide);dsimp only [Gv];generalize m * m % 2147483587=n at N O ⊢;refine xe rfl (xe rfl (xd rfl rfl ⟨.inl ⟨by lia,by lia⟩,xd rfl rfl (xd rfl rfl ⟨.inl ⟨by lia,by lia⟩,xd rfl rfl ⟨(by show (0:Int)<2147483563;decide),xd rfl rfl ⟨⟨by decide,GN⟩,?_⟩⟩⟩)⟩));have e0:0<=(n+7919 * (k:Int)) * 16807 % 2147483563:=Ycm _ (by decide);have e1:(n+7919 * (k:Int)) * 16807 % 2147483563<2147483563:=Ycn _ (by decide);exact q _ (by lia) (by lia)
noncomputable def Zge:Sp:=λvs H Q _=>∃(c:Int)(m:Nat),vs=[.int c,.int (m:Int)]/\m<=100/\∀(l:AD)(ps:LI)(H':Hp),Same H H'->H l=none->H' l=some (.lst (ps.map V.int))->ps.length=m->Q (.ref l) H'
theorem scPrc:Go ["cell", "many", "base", "left", "prices", "k", "number"] ["cell", "many"] (Gf ZgX):=⟨rfl,rfl,rfl,by decide +kernel,rfl,by decide +kernel,by decide +kernel⟩
theorem Zgf (F:Fun K "_law_prices" "_law_prices" ZgX f fd)(ab:Fun K "_law_stir" "_law_stir" ZeH U B)(ac:Binds K B ["cell", "k"] [])(ad:mg "_law_stir" = some (.ref U))(ae:GG P w K mg base CX0 1 U B ["cell", "k"] ZcD)(D:mg "range" = none):GG P w K mg base CX0 2 f fd ["cell", "many"] Zge:=by
 refine F.ok scPrc (λvs H Q E h=>?_) (λag A af s H vs Q E hr h=>?_)
 ·obtain ⟨_,_,rfl,_⟩:=h
  rfl
 ·obtain ⟨c,m,rfl,hm,q⟩:=h;have ah:=Ybd.symm;refine ⟨_,Gc (gSt 2 scPrc.nd (gIx (Of K) (Gx (Ga Gd (Ga Gd (Ga (Gm JZ (Gm Ug Gd (Gm Zz Gd Gd)) Gd) Ge)))) (Gm GQ (Gm GD (pv 0) Gd) Gd)))
    (Gc (gSt 3 scPrc.nd (Gm GD (pv 0) Gd))
    (Gc (gSt 4 scPrc.nd (Gx Ge))
    (Gc (Js Ycg rfl (Jy rfl D (Ga (pv 1) Ge)) (gNm 5 scPrc.nd)
    (Gc (gSt 6 scPrc.nd (pv 3))
    (Gc (GS (gCm Ou (Gm GQ (pv 0) Gd) Gd) (Gg (gSt 6 scPrc.nd (Gm Zz (gCa ae ad ab.kp ac GH (Ga (pv 0) (Ga (pv 5) Ge))) Gd))) Gp)
    (Gc (G8 (kBm K Ycf Yct Ycu GB (pv 4) (Ga (Gm JZ (Gm GQ (pv 6) (pv 2)) (Gm GD (pv 2) Gd)) Ge)))
    (Gg (gSt 3 scPrc.nd (Gm GD (pv 3) (pv 2))))))))
    (Gg (Gq (pv 4)))))),?_⟩
  refine lT5 ?_;intro Z R5 R4 R3 R2;refine Gn (λL H'=>∃b:Int,L=[some (.int c),some (.int (m:Int)),some (.int b),none,none,none,none]/\Same H H'/\0<b/\Lt2 9000 b) ?N ?f1
  case f1=>
   intro O;refine ⟨_,_,rfl,rfl,⟨by decide,by decide,by decide⟩,_,_,rfl,rfl,.inl ⟨by decide,by decide⟩,_,_,rfl,rfl,(by show 3<=sizeLine;decide),λp hp=>⟨_,rfl,_,_,rfl,rfl,⟨by decide,GN⟩,_,_,rfl,rfl,(by show (0:Int)<3;decide),p,[.int 7,.int 2001,.int (2 * 10 ^ (30:Int).toNat-1)],c / 2 % 3,?_⟩⟩;have N:Same H (upd H p (.lst [.int 7,.int 2001,.int (2 * 10 ^ (30:Int).toNat-1)])):=Same.new hp;have j0:0<=c / 2 % 3:=Ycm _ (by decide);have j1:c / 2 % 3<3:=Ycn _ (by decide);have j:c / 2 % 3=0\/c / 2 % 3=1\/c / 2 % 3=2:=by lia
   rcases j with h | h | h
   ·exact ⟨.int 7,rfl,rfl,SqL.of Gb,by rw [h];exact Gr (j:=0) rfl,O _ _ ⟨_,rfl,N,by decide,GN⟩⟩
   ·exact ⟨.int 2001,rfl,rfl,SqL.of Gb,by rw [h];exact Gr (j:=1) rfl,O _ _ ⟨_,rfl,N,by decide,GN⟩⟩
   ·exact ⟨.int (2 * 10 ^ (30:Int).toNat-1),rfl,rfl,SqL.of Gb,by rw [h];exact Gr (j:=2) rfl,O _ _ ⟨_,rfl,N,by decide +kernel,GN⟩⟩
  rintro L H1 ⟨b,rfl,N,b0,b1⟩;refine xe rfl (xd rfl rfl ⟨⟨by decide,GN⟩,?_⟩);dsimp only [Gv];refine ⟨Yax _,λl hl=>?_⟩;have el:upd H1 l (.lst []) l=some (.lst (([]:LI).map V.int)):=Gb;have s2:=N.put (o:=.lst []) (N.free hl);have aa:H l=none:=N.free hl;generalize upd H1 l (.lst [])=H2 at el s2 ⊢;dsimp only [Gv];refine xe rfl (xe rfl ⟨by lia,by lia,?_⟩);rw [Ydf]
  let Pv:FI:=λi σ H'=>∃(ps:LI)(lf:Int)(v5 v6:Option V),σ=[some (.int c),some (.int (m:Int)),some (.int b),some (.int lf),some (.ref l),v5,v6]/\Same H H'/\H' l=some (.lst (ps.map V.int))/\ps.length=i
  refine J2 (lo:=0) (n:=m) Pv ⟨[],_,none,none,rfl,s2,el,rfl⟩ ?_ ?_
  ·rintro i σ H3 hi ⟨ps,lf,v5,v6,rfl,s3,e3,Y⟩;rw [Int.zero_add];dsimp only [Gv];refine Gn (λL H'=>∃n:Int,L=[some (.int c),some (.int (m:Int)),some (.int b),some (.int lf),some (.ref l),some (.int (i:Int)),some (.int n)]/\H3=H') ?s2 ?f2
   case f2=>exact λO=>⟨_,rfl,O _ _ ⟨lf,rfl,rfl⟩⟩
   rintro L H' ⟨n0,rfl,rfl⟩;refine Gn (λL H'=>∃n:Int,L=[some (.int c),some (.int (m:Int)),some (.int b),some (.int lf),some (.ref l),some (.int (i:Int)),some (.int n)]/\H3=H') ?s3 ?f3
   case f3=>
    intro O;refine xe rfl (xd rfl rfl ⟨(by show (0:Int)<2;decide),rfl,xe rfl (J1 (λ_=>?_) (λ_=>O _ _ ⟨n0,rfl,rfl⟩))⟩);refine ⟨_,rfl,_,rfl,c,i,rfl,by lia,λz z0 z1=>⟨_,_,rfl,rfl,⟨by decide,by decide,?_⟩,O _ _ ⟨_,rfl,rfl⟩⟩⟩;have e:(2:Nat) ^ 64=18446744073709551616:=by decide
    rw [e]
    lia
   rintro L H' ⟨n,rfl,rfl⟩;refine xe rfl ⟨.inl ⟨rfl,_,SqL.of e3⟩,xe rfl (xe rfl (xd rfl rfl ⟨b0,xe rfl (xd rfl rfl ⟨⟨by decide,GN⟩,xd rfl rfl ⟨l,xd rfl rfl ⟨e3,by rw [Yac];lia,?_⟩⟩⟩)⟩))⟩;dsimp only [JN];refine xe rfl (xe rfl (xd rfl rfl ⟨⟨b0,b1⟩,?_⟩));exact ⟨ps++[n % b-b / 2],_,_,xe rfl ⟨s3.put aa,by rw [Gb,Yao];rfl,by rw [Yam,Ybc,Y]⟩⟩
  ·rintro σ H3 ⟨ps,lf,v5,v6,rfl,s3,e3,Y⟩;exact xe rfl (q l ps H3 s3 aa e3 Y)
noncomputable def Jr (ts:List Tri)(root:Int)(qs ps:LI)(j:Int):Bool:=!decide (root=0) && decide (ps.length=ts.length) && ((List.range ts.length).all λi=>GX ps qs i (ts.getD i (0,0,0))) && decide (shn ps root=j)
noncomputable def Zgg:Sp:=λvs H Q _=>∃(tp l pr j:AD)(root price:Int)(xs:List V)(ts:List Tri)(qs ps:LI),vs=[.ref tp,.ref pr,.ref j,.int price]/\TabAt H tp l root xs ts/\H pr=some (.lst (qs.map V.int))/\H j=some (.lst (ps.map V.int))/\ps.length<=1000/\(0<=root/\root<ts.length+2)/\(∀r∈ts,(0<=r.1/\r.1<qs.length)/\(0<=r.2.1/\r.2.1<ts.length+2)/\(0<=r.2.2/\r.2.2<ts.length+2))/\Q (.bl (Jr ts root qs ps price)) H
theorem scShw:Go ["table", "prices", "paper", "price", "at", "road", "low", "high"] ["table", "prices", "paper", "price"] (Gf Zg0):=⟨rfl,rfl,rfl,by decide +kernel,rfl,by decide +kernel,by decide +kernel⟩
theorem Zgh (F:Fun K "_law_shows" "_law_shows" Zg0 f fd)(Y:Fun K "_law_number" "_law_number" ZgZ U D)(aa:Binds K D ["paper", "k"] [])(ab:mg "_law_number" = some (.ref U))(ac:GG P w K mg base CX0 1 U D ["paper", "k"] Zgb)(L:mg "len" = none)(N:mg "range" = none):GG P w K mg base CX0 2 f fd ["table", "prices", "paper", "price"] Zgg:=by
 refine F.ok scShw (λvs H Q E h=>?_) (λam A ag s H vs Q E hr h=>?_)
 ·obtain ⟨_,_,_,_,_,_,_,_,_,_,rfl,_⟩:=h
  rfl
 ·obtain ⟨tp,l,pr,O,root,price,xs,ts,qs,ps,rfl,W,ah,B,an,aj,ak,q⟩:=h;have ao:=Ybd.symm;have ad:=W.t.len;have no:Jr ts root qs ps price=false->Q (.bl false) H:=λz=>by rw [z] at q;exact q
  refine ⟨_,Gc (GS (PW.pt (ZbF (gCm Ou (gIx (YT K) (pv 0) Gd) Gd) (XF (gCm ZbH (gB1 (Ur K) L Ybq (pv 2)) (gB1 (Ur K) L Ybq (gIx (YT K) (pv 0) Gd)))))) (Gg (Gq JM)) Gp)
    (Gc (Js Ycg rfl (Jy rfl N (Ga (gB1 (Ur K) L Ybq (pv 2)) Ge)) (gNm 4 scShw.nd)
    (Gc (OC (gIx (Of K) (gIx (YT K) (pv 0) Gd) (pv 4)) (Xc K (n:=3) rfl (Gk (gNm 5 scShw.nd) (Gk (gNm 6 scShw.nd) (Gk (gNm 7 scShw.nd) G9)))))
    (Gc (GS (PW.pt (XG (gCm ZD (pv 6) Gd) (VG (gCm ZD (gIx (Of K) (pv 2) (pv 4)) (gCa ac ab Y.kp aa GH (Ga (pv 2) (Ga (pv 6) Ge))))))) (Gg (Gq JM)) Gp)
    (Gg (GS (gCm ZD (gIx (Of K) (pv 2) (pv 4)) (Gm GT (gIx (Of K) (pv 1) (pv 5)) (gCa ac ab Y.kp aa GH (Ga (pv 2) (Ga (pv 7) Ge))))) (Gg (Gq JM)) Gp)))))
    (Gg (Gq (gCe Ou (gCa ac ab Y.kp aa GH (Ga (pv 2) (Ga (gIx (YT K) (pv 0) Gd) Ge))) (pv 3))))),?_⟩
  refine lT3 ?_;intro Z R3 R2;refine xe rfl ⟨tp,_,xd rfl rfl ⟨SqT.of W.w,Gr (j:=0) rfl,rfl,xe rfl ?_⟩⟩;by_cases c1:root=0
  ·refine J1 (λ_=>JX (no (by simp [Jr,c1]))) (λc=>absurd (Yau (by rw [c1])) c)
  refine J1 (λc=>absurd (V.int.inj (Ybv c)) c1) (λ_=>?_);refine xe rfl ⟨O,xe rfl ⟨.inl (SqL.of B),xe rfl ⟨tp,_,xd rfl rfl ⟨SqT.of W.w,Gr (j:=1) rfl,l,xe rfl ⟨.inl (SqL.of W.l),rfl,xe rfl ?_⟩⟩⟩⟩⟩;by_cases c2:ps.length=ts.length;rotate_left
  ·refine J1 (λ_=>no (by simp [Jr,c2])) (λc=>absurd (by
    rw [Yac,ad];have:V.int (ps.length:Int)≠V.int (ts.length:Int):=λz=>c2 (by have:=V.int.inj z;lia);rw [Ybl this]
    rfl) c)
  refine J1 (λc=>absurd c (by rw [Yac,ad,c2];simp)) (λ_=>?_);dsimp only [JN];refine xe rfl ⟨O,xe rfl ⟨.inl (SqL.of B),xe rfl ⟨by lia,by rw [Yac];lia,?_⟩⟩⟩;rw [Yac,Ydf]
  let Pv:FI:=λi σ H'=>∃v4 v5 v6 v7:Option V,σ=[some (.ref tp),some (.ref pr),some (.ref O),some (.int price),v4,v5,v6,v7]/\H=H'/\∀j,j<i->GX ps qs j (ts.getD j (0,0,0))=true
  refine J2 (lo:=0) (n:=ps.length) Pv ⟨none,none,none,none,rfl,rfl,λj hj=>absurd hj (Yda _)⟩ ?_ ?_
  ·rintro i σ H' hi ⟨v4,v5,v6,v7,rfl,rfl,qK⟩;rw [Int.zero_add];dsimp only [Gv];have hx:i<xs.length:=by lia
   obtain ⟨t,r,ex,et,er⟩:=W.t.get (Yaw hx);have ae:ts.getD i (0,0,0)=r:=by rw [Yca,er];rfl
   obtain ⟨r1,r2,r3⟩:=ak r (Yaz er);have al:atI xs (i:Int)=some (.ref t):=Gr (j:=i) (by rw [Yaw hx,ex]);have ai:atI (ps.map V.int) (i:Int)=some (.int (ps.getD i 0)):=Oa (i:=(i:Int)) (by lia) (by lia);refine xe rfl ⟨tp,_,xd rfl rfl ⟨SqT.of W.w,Gr (j:=1) rfl,xe rfl ⟨l,_,xd rfl rfl ⟨SqL.of W.l,al,t,xe rfl ⟨SqT.of et,rfl,_,xe rfl ⟨_,xe rfl (xd rfl rfl ?_)⟩⟩⟩⟩⟩⟩;have af:GX ps qs i r=false->Q (.bl false) H:=λz=>no (by
    have:((List.range ts.length).all λi=>GX ps qs i (ts.getD i (0,0,0)))=false:=by
     rw [List.all_eq_false];exact ⟨i,Ycc.mpr (by lia),by rw [ae,z];simp⟩
    unfold Jr;rw [this,Bool.and_false,Bool.false_and])
   have good:GX ps qs i r=true->∀j,j<i+1->GX ps qs j (ts.getD j (0,0,0))=true:=λz j hj=>by
    by_cases e:j=i
    ·rw [e,ae];exact z
    ·exact qK j (by lia)
   dsimp only;refine Gn (λσ' H2=>σ'=[some (.ref tp),some (.ref pr),some (.ref O),some (.int price),some (.int (i:Int)),some (.int r.1),some (.int r.2.1),some (.int r.2.2)]/\H=H2/\(!(decide (r.2.1≠0) && decide (shn ps r.2.1<ps.getD i 0)))=true) ?s1 ?f1
   case f1=>
    intro hk;refine xe rfl (xd rfl rfl (xe rfl ?_));by_cases d1:r.2.1=0
    ·refine J1 (λc=>absurd (Ybv c) (by show ¬ (0:Int)<r.2.1;lia)) (λ_=>O5 (hk _ _ ⟨rfl,rfl,by simp [d1]⟩))
    refine J1 (λ_=>?_) (λc=>absurd (Yau (by show (0:Int)<r.2.1;lia)) c);refine xe rfl (xe rfl ⟨O,_,xd rfl rfl ⟨SqL.of B,ai,xe rfl (xe rfl ⟨O,ps,xe rfl ⟨B,r2.1,by lia,xd rfl rfl (xe rfl ?_)⟩⟩)⟩⟩);by_cases d2:shn ps r.2.1<ps.getD i 0
    ·rw [Yau d2];exact JX (af (by simp only [GX,Yau d1,Yau d2];rfl))
    ·rw [Ybl d2];exact O5 (hk _ _ ⟨rfl,rfl,by rw [Ybl d2,Bool.and_false];rfl⟩)
   rintro σ' H2 ⟨rfl,rfl,hl⟩;refine xe rfl (xe rfl ⟨O,_,xd rfl rfl ⟨SqL.of B,ai,xe rfl (xe rfl ⟨pr,_,xd rfl rfl ⟨SqL.of ah,Oa r1.1 r1.2,xe rfl (xe rfl ⟨O,ps,xe rfl ⟨B,r3.1,by lia,xd rfl rfl (xd rfl rfl (xe rfl ?_))⟩⟩)⟩⟩)⟩⟩);by_cases d3:qs.getD r.1.toNat 0+shn ps r.2.2<ps.getD i 0
   ·rw [Yau d3];exact JX (af (by unfold GX;rw [Ybl (p:=ps.getD i 0<=qs.getD r.1.toNat 0+shn ps r.2.2) (by lia),Bool.and_false]))
   ·rw [Ybl d3];exact O5 ⟨_,_,_,_,rfl,rfl,good (by unfold GX;rw [hl,Yau (p:=ps.getD i 0<=qs.getD r.1.toNat 0+shn ps r.2.2) (by lia)];rfl)⟩
  ·rintro σ H' ⟨v4,v5,v6,v7,rfl,rfl,qK⟩;refine xe rfl (xe rfl ⟨tp,_,xd rfl rfl ⟨SqT.of W.w,Gr (j:=0) rfl,O,ps,xe rfl ⟨B,aj.1,by lia,xe rfl ⟨rfl,?_⟩⟩⟩⟩);have e:Jr ts root qs ps price=decide (V.int (shn ps root)=V.int price):=by
    have a:((List.range ts.length).all λi=>GX ps qs i (ts.getD i (0,0,0)))=true:=List.all_eq_true.mpr λi hi=>qK i (by rw [c2];exact Ycc.mp hi);unfold Jr;rw [a,Ybl c1,Yau c2];by_cases h:shn ps root=price <;> simp [h]
   rw [e] at q;exact q
noncomputable def Zgi:Sp:=λvs H Q _=>∃(tp l pr j:AD)(root price:Int)(xs:List V)(ts:List Tri)(qs ps:LI),vs=[.ref tp,.ref pr,.ref j,.int price]/\TabAt H tp l root xs ts/\H pr=some (.lst (qs.map V.int))/\H j=some (.lst (ps.map V.int))/\ps.length<=1000/\(0<=root/\root<ts.length+2)/\(∀r∈ts,(0<=r.1/\r.1<qs.length)/\(0<=r.2.1/\r.2.1<ts.length+2)/\(0<=r.2.2/\r.2.2<ts.length+2))/\∀H',Same H H'->Q (.bl (Jr ts root qs ps price)) H'
theorem scPsh:Go ["table", "prices", "paper", "price", "root", "nodes", "shown"] ["table", "prices", "paper", "price"] (Gf ZgU):=⟨rfl,rfl,rfl,by decide +kernel,rfl,by decide +kernel,by decide +kernel⟩
theorem Zgj (F:Fun K "paper_shows" "paper_shows" ZgU f fd)(ae:Fun K "is_right" "is_right" ZgT O B)(af:Binds K B ["shown", "number", "node", "prices"] [])(ag:mg "is_right" = some (.ref O))(ah:GG P w K mg base CX0 1 O B ["shown", "number", "node", "prices"] Zf9)(N:mg "len" = none)(aa:mg "all" = none)(U:mg "enumerate" = none):GG P w K mg base CX0 2 f fd ["table", "prices", "paper", "price"] Zgi:=by
 refine F.ok scPsh (λvs H Q E h=>?_) (λao A ai s H vs Q E hr h=>?_)
 ·obtain ⟨_,_,_,_,_,_,_,_,_,_,rfl,_⟩:=h
  rfl
 ·obtain ⟨tp,l,pr,pa,root,price,xs,ts,qs,ps,rfl,W,aj,ab,ap,ak,al,q⟩:=h;have aq:=Ybd.symm;have Y:=W.t.len;have no:∀H',Same H H'->Jr ts root qs ps price=false->Q (.bl false) H':=λH' s z=>by have:=q H' s;rwa [z] at this
  refine ⟨_,Gc (OC (pv 0) (Xc K (n:=2) rfl (Gk (gNm 4 scPsh.nd) (Gk (gNm 5 scPsh.nd) G9))))
    (Gc (GS (PW.pt (ZbF (gCm Ou (pv 4) Gd) (XF (gCm ZbH (gB1 (Ur K) N Ybq (pv 2)) (gB1 (Ur K) N Ybq (pv 5)))))) (Gg (Gq JM)) Gp)
    (Gc (gSt 6 scPsh.nd (Gm WC (Gx (Ga Gd (Ga Gd Ge))) (pv 2)))
    (Gc (GS (XH (UF (gB1 (Zio K rfl) aa ZbR (Jz (own:=["number", "node"]) rfl (gSc [("prices", 1),("shown", 6)]) (Zfz K rfl U (Ga (pv 5) Ge)) (λ_ _ _ _=>Xc K (n:=2) rfl (Gk (gNm 0 (show List.Nodup (["number", "node", "prices", "shown"]:List Str) by decide +kernel)) (Gk (gNm 1 (show List.Nodup (["number", "node", "prices", "shown"]:List Str) by decide +kernel)) G9))) (λ_ _ _ _=>GY) (λ_ _ _ _=>gCa ah ag ae.kp af GH (Ga (pv 3) (Ga (pv 0) (Ga (pv 1) (Ga (pv 2) Ge))))))))) (Gg (Gq JM)) Gp)
    (Gg (Gq (gCe Ou (gIx (Of K) (pv 6) (pv 4)) (pv 3))))))),?_⟩
  refine lT5 ?_;intro Z R5 R4 R3 R2;refine ⟨_,rfl,tp,_,rfl,SqT.of W.w,rfl,_,_,rfl,_,_,rfl,rfl,?_⟩;refine ⟨_,rfl,rfl,_,rfl,?_⟩;by_cases c1:root=0
  ·exact J1 (λ_=>JX (no H (Same.refl _) (by simp [Jr,c1]))) (λc=>absurd (Yau (by rw [c1])) c)
  refine J1 (λc=>absurd (V.int.inj (Ybv c)) c1) (λ_=>?_);refine ⟨_,rfl,pa,_,rfl,.inl (SqL.of ab),_,rfl,l,_,rfl,.inl (SqL.of W.l),rfl,_,rfl,?_⟩;by_cases c2:ps.length=ts.length;rotate_left
  ·exact J1 (λ_=>no H (Same.refl _) (by simp [Jr,c2])) (λc=>absurd (by
    rw [Yac,Y];have:V.int (ps.length:Int)≠V.int (ts.length:Int):=λz=>c2 (by have:=V.int.inj z;lia);rw [Ybl this]
    rfl) c)
  refine J1 (λc=>absurd c (by rw [Yac,Y,c2];simp)) (λ_=>?_);dsimp only [JN];refine ⟨GW,λp hp=>⟨_,rfl,p,pa,_,_,rfl,rfl,Gb,Same.new hp _ _ ab,(by rw [Yac];show 2+ps.length<=_;lia),λsh am=>?_⟩⟩;have s1:Same H (upd H p (.lst [.int 0,.int 0])):=Same.new hp;have s2:=s1.put (o:=.lst ([.int 0,.int 0]++ps.map V.int)) (s1.free am);have es:upd (upd H p (.lst [.int 0,.int 0])) sh (.lst ([.int 0,.int 0]++ps.map V.int)) sh=some (.lst (([0,0]++ps).map V.int)):=Gb;generalize upd (upd H p (.lst [.int 0,.int 0])) sh (.lst ([.int 0,.int 0]++ps.map V.int))=H2 at s2 es ⊢;dsimp only [Gv];have W2:=W.same s2;refine ⟨_,rfl,l,xs,rfl,SqL.of W2.l,λD hD=>?_⟩
  let Pv:CI:=λi ys H'=>∃bs:List Bool,ys=bs.map V.bl/\Same H2 H'/\H' D=some (.lst ys)/\bs=(List.range i).map λj=>GX ps qs j (ts.getD j (0,0,0))
  refine Zp (K:=K) (a:=l) (xs:=xs) Pv ⟨[],rfl,Same.new hD,Gb,rfl⟩ (by rintro i ys H' _ ⟨_,_,s,_⟩;exact SqL.of (s _ _ W2.l)) ?_ ?_
  ·rintro i x ys H3 T ac ⟨bs,rfl,s3,eD,L⟩ hT;have hi:i<xs.length:=(Yal.mp ac).1;obtain ⟨t,r,ex,et,er⟩:=W2.t.get ac;subst ex;have an:ts.getD i (0,0,0)=r:=by rw [Yca,er];rfl
   obtain ⟨r1,r2,r3⟩:=al r (Yaz er);have s4:Same H2 (upd H3 T (.tup [.int ((i:Nat)+2),.ref t])):=s3.put (s3.free hT);have ad:upd H3 T (.tup [.int ((i:Nat)+2),.ref t]) D=some (.lst (bs.map V.bl)):=Gj eD (Gh eD hT);refine ⟨T,_,rfl,SqT.of Gb,rfl,_,_,rfl,_,_,rfl,rfl,⟨rfl,rfl,trivial⟩,?_⟩;generalize upd H3 T (.tup [.int ((i:Nat)+2),.ref t])=H4 at s4 ad ⊢;unfold XN;refine JX ?_;refine ⟨_,rfl,_,rfl,_,rfl,_,rfl,sh,t,pr,ps,qs,i,r,rfl,s4 _ _ es,s4 _ _ et,s4 _ _ (s2 _ _ aj),by lia,r1,by lia,by lia,?_⟩;have ar:bs.length=i:=by rw [L,Yac,Ydg]
   refine ⟨ad,by rw [Yac];lia,bs++[GX ps qs i r],by rw [Yao];rfl,s4.put hD,Gb,?_⟩;rw [L,List.range_succ,Yao,<-an]
   rfl
  ·rintro ys H3 ⟨bs,rfl,s3,eD,L⟩;refine ⟨D,bs,rfl,SqL.of eD,_,rfl,?_⟩;have eb:bs.all id=((List.range ts.length).all λi=>GX ps qs i (ts.getD i (0,0,0))):=by rw [L,Y,List.all_map];rfl
   rw [eb];by_cases c3:((List.range ts.length).all λi=>GX ps qs i (ts.getD i (0,0,0)))=true
   ·rw [c3];refine O5 ?_;dsimp only [JN];refine ⟨_,rfl,_,rfl,sh,_,_,_,rfl,rfl,SqL.of (s3 _ _ es),Yw ak.1 (by lia),_,rfl,rfl,?_⟩;have e:Jr ts root qs ps price=decide (V.int (shn ps root)=V.int price):=by
     unfold Jr;rw [c3,Ybl c1,Yau c2];by_cases h:shn ps root=price <;> simp [h]
    have:=q H3 (s2.trans s3)
    rwa [e] at this
   ·rw [Bool.not_eq_true] at c3;rw [c3];refine JX ?_;exact no H3 (s2.trans s3) (by unfold Jr;rw [c3,Bool.and_false,Bool.false_and])
noncomputable def Lz (H:Hp)(zs:List (AD×LI)):Prop:=∀z∈zs,H z.1=some (.lst (z.2.map V.int))
theorem Lz.same (h:Lz H zs)(s:Same H H'):Lz H' zs:=λz j=>s _ _ (h z j)
noncomputable def Vb (j:List (LI)):List PyData:=j.map λl=>PyData.list (l.map PyData.int)
theorem Zdj:∀j:List (LI),PyData.canLayAll0 (Vb j)=true
 | []=>by simp [Vb,PyData.canLayAll0]
 | l::j=>by
  have ih:=Zdj j;unfold Vb at ih ⊢;rw [Yap];simp [PyData.canLayAll0,PyData.canLay0,OH l,ih]
theorem Yx:∀j:List (LI),PyData.depthAll (Vb j)<=2
 | []=>by simp [Vb,PyData.depthAll]
 | l::j=>by
  have ih:=Yx j;have:=Jw l;unfold Vb at ih ⊢;rw [Yap];simp only [PyData.depthAll,PyData.depth]
  lia
theorem W6 (j:List (LI)):SeqAt.shaped (.list (Vb j))=true:=by
 unfold SeqAt.shaped;rw [Ycl];refine ⟨by simp only [PyData.canLay0];exact Zdj j,Yau ?_⟩;have:=Yx j;simp only [PyData.depth]
 lia
theorem XD {K:FG}{H:Hp}:∀{zs:List (AD×LI)},Lz H zs->DatVs K H (zs.map λz=>V.ref z.1) (Vb (zs.map (·.2)))
 | [],_=>.nil
 | z::zs,h=>.cons (.lst (SqL.of (h z (by simp))) (GV z.2)) (XD (zs:=zs) λy hy=>h y (by simp [hy]))
theorem Zbo:∀a b:List (LI),PyData.eqvAll (Vb a) (Vb b)=decide (a=b)
 | [],[]=>by simp [Vb,PyData.eqvAll]
 | [],_::_=>by simp [Vb,PyData.eqvAll]
 | _::_,[]=>by simp [Vb,PyData.eqvAll]
 | x::a,y::b=>by
  have ih:=Zbo a b;have h:=OI x y;unfold Vb at ih ⊢;rw [Yap,Yap];simp only [PyData.eqvAll,h,ih];by_cases j:x=y <;> by_cases q:a=b <;> simp [j,q]
theorem ZhQ (a b:List (LI)):PyData.eqv (.list (Vb a)) (.list (Vb b))=decide (a=b):=by
 simp only [PyData.eqv,Zbo]
structure RS (s:LI):Prop where
 up:s.Pairwise (· < ·)
 rg:∀x∈s,0<=x/\x<30
noncomputable abbrev RF (zs:List (AD×LI)):List V:=zs.map λz=>V.ref z.1
theorem Wq {rs:List Nat}(D:m<=30)(j:rs.Pairwise (· < ·))(lt:∀k∈rs,k<m):RS (rs.map λk:Nat=>(k:Int)):=by
 refine ⟨Ybp.mpr (j.imp λh=>by lia),λx q=>?_⟩;obtain ⟨k,B,rfl⟩:=Yai.mp q;have:=lt k B
 lia
theorem ZcE (q:List (LI)):∀e∈Vb q,SeqAt.shaped e=true:=λe j=>by
 unfold Vb at j;obtain ⟨l,_,rfl⟩:=Yai.mp j;exact JY l
theorem Zes (j:List (LI))(b:LI):(Vb j).any (λe=>PyData.eqv e (.list (b.map PyData.int)))=decide (b∈j):=by
 unfold Vb;rw [List.any_map]
 induction j with
 | nil=>rfl
 | cons l j ih=>
  rw [List.any_cons,ih];show (PyData.eqv (.list (l.map PyData.int)) (.list (b.map PyData.int)) || _)=_;rw [OI];by_cases h1:l=b
  ·simp [h1]
  ·have q:¬ b=l:=λz=>h1 z.symm;simp [h1,q]
structure Drw (H H':Hp)(dl:AD)(zs:List (AD×LI))(n:Nat):Prop where
 s:Same H H'
 fr:H dl=none
 e:H' dl=some (.lst (RF zs))
 lz:Lz H' zs
 nz:∀z∈zs,z.1≠dl/\H z.1=none
 len:zs.length<=n
 rs:∀z∈zs,RS z.2
theorem Drw.new (s:Same H H')(h:H' q=none):Drw H (upd H' q (.lst [])) q [] 0:=⟨s.put (s.free h),s.free h,Gb,(λz j=>by cases j),(λz j=>by cases j),Yae _,λz j=>by cases j⟩
theorem Drw.grow (d:Drw H N L zs n)(Y:Same N O)(j:N q=none)(U:O q=some (.lst (r.map V.int)))(R:RS r):Drw H (upd O L (.lst (RF zs++[.ref q]))) L (zs++[(q,r)]) (n+1):=by
 have B:q≠L:=λz=>by rw [z,d.e] at j;cases j
 refine ⟨(d.s.trans Y).put d.fr,d.fr,by rw [Gb,RF,RF,Yao];rfl,λz D=>?_,λz D=>?_,by have:=d.len;rw [Yam,Ybc];lia,λz D=>?_⟩
 ·rcases Yak.mp D with h | h
  ·exact Gj (Y _ _ (d.lz z h)) (d.nz z h).1
  ·rw [Yaj.mp h];exact Gj U B
 ·rcases Yak.mp D with h | h
  ·exact d.nz z h
  ·rw [Yaj.mp h];exact ⟨B,d.s.free j⟩
 ·rcases Yak.mp D with h | h
  ·exact d.rs z h
  ·rw [Yaj.mp h];exact R
theorem Zet (F:Fam)(s:LI):lF (F++[s])=lF F+s.length:=by
 unfold lF;rw [Yao,List.sum_append];simp
theorem Zeu (h:F.Perm G):lF F=lF G:=(h.map List.length).sum_nat
noncomputable def Zgk (K:FG):Sp:=λvs H Q _=>∃(a:AD)(ns:LI)(st:Nat),vs=[.ref a,.int (st:Int)]/\SqL K H a (ns.map V.int)/\ns.length<=63/\st<=63 /\
 ∀(l:AD)(zs:List (AD×LI))(H':Hp),Same H H'->H l=none->H' l=some (.lst (RF zs))->Lz H' zs->(∀z∈zs,z.1≠l/\H z.1=none)->zs.length<=300->(∀z∈zs,RS z.2)->Lx (zs.map (·.2))->lF (zs.map (·.2))<=600->Q (.ref l) H'
theorem scFmy:Go ["script", "start", "cell", "width", "k", "drawn", "sets", "room", "one"] ["script", "start"] (Gf ZfF):=⟨rfl,rfl,rfl,by decide +kernel,rfl,by decide +kernel,by decide +kernel⟩
theorem Zgl (F:Fun K "_law_family" "_law_family" ZfF f fd)(FA:Fun K "_law_cell_at" "_law_cell_at" ZeG fA as)(bA:Binds K as ["script", "k"] [])(mA:mg "_law_cell_at" = some (.ref fA))(GA:GG P w K mg base CX0 1 fA as ["script", "k"] (Zcy K))(ah:Fun K "_law_bits" "_law_bits" ZfE aq ac)(ai:Binds K ac ["number", "width"] [])(aj:mg "_law_bits" = some (.ref aq))(ak:GG P w K mg base CX0 1 aq ac ["number", "width"] Zer)(ay:Fun K "_law_stir" "_law_stir" ZeH ar ad)(az:Binds K ad ["cell", "k"] [])(a1:mg "_law_stir" = some (.ref ar))(a2:GG P w K mg base CX0 1 ar ad ["cell", "k"] ZcD)(N:mg "range" = none)(ae:mg "len" = none)(a3:mg "min" = none)(a4:mg "sorted" = none):GG P w K mg base CX0 2 f fd ["script", "start"] (Zgk K):=by
 refine F.ok scFmy (λvs H Q E h=>?_) (λaB A aC s H vs Q E hr h=>?_)
 ·obtain ⟨_,_,_,rfl,_⟩:=h
  rfl
 ·obtain ⟨a,ns,st,rfl,hS,aJ,aK,q⟩:=h;have aL:=Ybd.symm;have hu:=hr.units;have a5:(A.deeper (PyProof.Rows.envOfC "_law_family" (Gf ZfF) s.heap.objs.size f aB)).units+65<cLine:=by have:=hr.un;lia
  refine ⟨_,Gc (gSt 2 scFmy.nd (gCa GA mA FA.kp bA GH (Ga (pv 0) (Ga Gd Ge))))
    (Gc (gSt 3 scFmy.nd (Gm GT Gd (Gm GQ (pv 2) Gd)))
    (Gc (Ov (i:=5) scFmy.nd rfl (Or.inl rfl) (own:=["k"]) rfl (gSc [("cell", 2),("width", 3)]) (Jy rfl N (Ga (Gm Ug (Gm GQ (Gm GD (pv 2) Gd) Gd) Gd) Ge)) (λ_ _ _ _=>gNm 0 (show List.Nodup (["k", "cell", "width"]:List Str) by decide +kernel)) (λ_ _ _ _=>GY) (λ_ _ _ _=>gCa ak aj ah.kp ai GH (Ga (gCa a2 a1 ay.kp az GH (Ga (pv 1) (Ga (pv 0) Ge))) (Ga (pv 2) Ge))))
    (Gc (GS (gCm Ou (Gm GQ (Gm GD (pv 2) Gd) Gd) Gd) (Gg (Ov (i:=5) scFmy.nd rfl (Or.inl rfl) (own:=["k"]) rfl (gSc [("cell", 2)]) (Jy rfl N (Ga (Gm Zz Gd Gd) Ge)) (λ_ _ _ _=>gNm 0 (show List.Nodup (["k", "cell"]:List Str) by decide +kernel)) (λ_ _ _ _=>GY) (λ_ _ _ _=>gCa ak aj ah.kp ai GH (Ga (Gm Ug (pv 0) (Gm GT Gd (Gm GQ (Gm GD (pv 1) Gd) Gd))) (Ga Gd Ge))))) Gp)
    (Gc (Js Ycg rfl (Wt rfl N (Ga (pv 1) (Ga (Jb (ZG rfl) rfl a3 VR (Ga (gB1 (Ur K) ae Ybq (pv 0)) (Ga Gd Ge))) Ge))) (gNm 4 scFmy.nd)
    (Gg (GS (gCm Ou (Gm GQ (Gm GD (pv 2) Gd) Gd) Gd) (Gg (G8 (kBm K Ycf Yct Ycu GB (pv 5) (Ga (gCa ak aj ah.kp ai GH (Ga (Gm GQ (gIx (Of K) (pv 0) (pv 4)) Gd) (Ga (pv 3) Ge))) Ge)))) (Gg (G8 (kBm K Ycf Yct Ycu GB (pv 5) (Ga (gCa ak aj ah.kp ai GH (Ga (gCa a2 a1 ay.kp az GH (Ga (gIx (Of K) (pv 0) (pv 4)) (Ga (pv 4) Ge))) (Ga (pv 3) Ge))) Ge)))))))
    (Gc (gSt 6 scFmy.nd (Gx Ge))
    (Gc (gSt 7 scFmy.nd Gd)
    (Gc (Js Ycg rfl (Om K (pv 5)) (gNm 8 scFmy.nd)
    (Gg (GS (PW.pt (XG (gCm ZeV (gB1 (Ur K) ae Ybq (pv 8)) (pv 7)) (VG (ZE (ZdL K a5) (pv 8) (pv 6) (by with_unfolding_all rfl))))) (Gc (G8 (kBm K Ycf Yct Ycu GB (pv 6) (Ga (pv 8) Ge)))
    (Gg (gSt 7 scFmy.nd (Gm JZ (pv 7) (gB1 (Ur K) ae Ybq (pv 8)))))) Gp)))
    (Gg (Gq (gB1 (Zd9 K hu) a4 Yfa (pv 6))))))))))),?_⟩
  refine lT9 ?_;intro Z R9 R8 R7 R6 R5 R4 R3 R2;refine xe rfl ⟨a,ns,0,rfl,hS,λc=>?_⟩;dsimp only [Gv];have w0:0<=c % 30:=Ycm _ (by decide);have w1:c % 30<30:=Ycn _ (by decide);obtain ⟨m,hm⟩:∃m:Nat,1+c % 30=(m:Int):=⟨(1+c % 30).toNat,by lia⟩;have af:m<=30:=by lia
  refine xe rfl (xd rfl rfl ⟨(by show (0:Int)<30;decide),xd rfl rfl ?_⟩);dsimp only [Gv];rw [hm];refine Gn (λσ' H'=>∃(O:AD)(zs:List (AD×LI)),σ'=[some (.ref a),some (.int (st:Int)),some (.int c),some (.int (m:Int)),none,some (.ref O),none,none,none]/\Drw H H' O zs 128) ?s1 ?f1
  case f1=>
   intro hk;have n0:0<=c / 30 % 4:=Ycm _ (by decide);have n1:c / 30 % 4<4:=Ycn _ (by decide);obtain ⟨n,hn⟩:∃n:Nat,c / 30 % 4 * 3=(n:Int):=⟨(c / 30 % 4 * 3).toNat,by lia⟩;refine xe rfl (xd rfl rfl ⟨⟨by decide,GN⟩,xd rfl rfl ⟨(by show (0:Int)<4;decide),xd rfl rfl ⟨.inl ⟨by lia,by lia⟩,xe rfl ⟨by lia,by lia,λD hD=>?_⟩⟩⟩⟩);rw [hn,Ydf]
   let Pv:CI:=λj ys H'=>∃zs:List (AD×LI),ys=RF zs/\Drw H H' D zs j
   refine Od (lo:=0) (n:=n) Pv ⟨[],rfl,Drw.new (Same.refl _) hD⟩ ?_ ?_
   ·rintro j ys H2 hj ⟨zs,rfl,d⟩;rw [Int.zero_add];refine ⟨by first | exact ⟨rfl,rfl,trivial⟩ | exact ⟨rfl,trivial⟩,?_⟩;unfold XN;refine JX ?_;refine ⟨_,rfl,_,rfl,c,j,rfl,by lia,λz z0 z1=>⟨_,rfl,z,m,rfl,by lia,λrl rs H4 Y aa ab pw lt=>?_⟩⟩;exact ⟨Y _ _ d.e,by have:=d.len;rw [RF,Yac];lia,_,by rw [RF,RF,Yao];rfl,d.grow Y aa ab (Wq af pw lt)⟩
   ·rintro ys H2 ⟨zs,rfl,d⟩;exact hk _ _ ⟨D,zs,rfl,d.s,d.fr,d.e,d.lz,d.nz,by have:=d.len;lia,d.rs⟩
  rintro σ' H1 ⟨aD,au,rfl,d1⟩;refine Gn (λσ' H'=>∃(O:AD)(zs:List (AD×LI)),σ'=[some (.ref a),some (.int (st:Int)),some (.int c),some (.int (m:Int)),none,some (.ref O),none,none,none]/\Drw H H' O zs 128) ?s2 ?f2
  case f2=>
   intro hk;refine xe rfl (xd rfl rfl ⟨⟨by decide,GN⟩,xd rfl rfl ⟨(by show (0:Int)<8;decide),rfl,xe rfl (J1 (λ_=>?_) (λ_=>hk _ _ ⟨aD,au,rfl,d1⟩))⟩⟩);refine xd rfl rfl ⟨⟨by decide,by decide,by decide⟩,xe rfl ⟨(by decide),(by decide),λD hD=>?_⟩⟩;have e7:((2:Int) ^ (7:Int).toNat).toNat=128:=by decide
   rw [e7];have n0:0<=c / 960 % 3:=Ycm _ (by decide);have n1:c / 960 % 3<3:=Ycn _ (by decide)
   let Pv:CI:=λj ys H'=>∃zs:List (AD×LI),ys=RF zs/\Drw H H' D zs j
   refine Od (lo:=0) (n:=128) Pv ⟨[],rfl,Drw.new d1.s hD⟩ ?_ ?_
   ·rintro j ys H2 hj ⟨zs,rfl,d⟩;rw [Int.zero_add];refine ⟨by first | exact ⟨rfl,rfl,trivial⟩ | exact ⟨rfl,trivial⟩,?_⟩;unfold XN;refine JX ?_;refine xe rfl (xe rfl (xd rfl rfl ⟨⟨by decide,GN⟩,xd rfl rfl ⟨(by show (0:Int)<3;decide),xd rfl rfl (xd rfl rfl ⟨.inl ⟨by lia,by lia⟩,_,9,rfl,by lia,λrl rs H4 Y aa ab pw lt=>?_⟩)⟩⟩));exact ⟨Y _ _ d.e,by have:=d.len;rw [RF,Yac];lia,_,by rw [RF,RF,Yao];rfl,d.grow Y aa ab (Wq (by lia) pw lt)⟩
   ·rintro ys H2 ⟨zs,rfl,d⟩;exact hk _ _ ⟨D,zs,rfl,d⟩
  clear d1;rintro σ' H1 ⟨O,au,rfl,d1⟩;refine Gn (λσ' H'=>∃(zs:List (AD×LI))(v4:Option V),σ'=[some (.ref a),some (.int (st:Int)),some (.int c),some (.int (m:Int)),v4,some (.ref O),none,none,none]/\Drw H H' O zs 200) ?s3 ?f3
  case f3=>
   intro hk;have aE:=d1.s.seq hS;refine xe rfl (xe rfl ⟨a,xe rfl ⟨.inl aE,_,xe rfl ⟨_,xe rfl ⟨⟨by lia,by lia,?_,?_⟩,?_⟩⟩⟩⟩)
   ·rw [Yac];split <;> lia
   ·rw [Yac];split <;> lia
   rw [Yac];obtain ⟨n,hn⟩:∃n:Nat,((if (200:Int)<(ns.length:Int) then 200 else (ns.length:Int))-(st:Int)).toNat=n:=⟨_,rfl⟩;have aI:n<=63/\(0<n->st+n<=ns.length):=by
    rw [if_neg (by lia)] at hn
    lia
   rw [hn]
   let Pv:FI:=λi σ H'=>∃(zs:List (AD×LI))(v4:Option V),σ=[some (.ref a),some (.int (st:Int)),some (.int c),some (.int (m:Int)),v4,some (.ref O),none,none,none]/\Drw H H' O zs (128+i)
   refine J2 (lo:=(st:Int)) (n:=n) Pv ⟨au,none,rfl,d1⟩ ?_ ?_
   ·rintro i σ H2 hi ⟨zs,v4,rfl,d⟩;dsimp only [Gv];have a6:=d.s.seq hS;have a7:atI (ns.map V.int) ((st:Int)+(i:Int))=some (.int (ns.getD (st+i) 0)):=by
     have:=Oa (ns:=ns) (i:=(st:Int)+(i:Int)) (by lia) (by lia)
     rwa [show ((st:Int)+(i:Int)).toNat=st+i by lia] at this
    have a8:=d.len;refine xe rfl (xd rfl rfl ⟨⟨by decide,GN⟩,xd rfl rfl ⟨(by show (0:Int)<2;decide),rfl,xe rfl (J1 (λ_=>?_) (λ_=>?_))⟩⟩)
    ·refine xe rfl ⟨.inl ⟨rfl,_,SqL.of d.e⟩,xe rfl (xe rfl ⟨a,_,xd rfl rfl ⟨a6,a7,xd rfl rfl ⟨(by show (0:Int)<1073741824;decide),xe rfl ⟨_,m,rfl,by lia,λrl rs H4 Y aa ab pw lt=>?_⟩⟩⟩⟩)⟩;refine ⟨O,xd rfl rfl ⟨Y _ _ d.e,by rw [RF,Yac];lia,?_⟩⟩;exact ⟨_,xe rfl (d.grow Y aa ab (Wq af pw lt))⟩
    ·refine ⟨_,rfl,.inl ⟨rfl,_,SqL.of d.e⟩,_,rfl,_,rfl,a,_,_,_,rfl,rfl,a6,a7,_,rfl,_,st+i,rfl,by lia,λz z0 z1=>⟨_,rfl,z,m,rfl,by lia,λrl rs H4 Y aa ab pw lt=>?_⟩⟩;refine ⟨O,xd rfl rfl ⟨Y _ _ d.e,by rw [RF,Yac];lia,?_⟩⟩;exact ⟨_,xe rfl (d.grow Y aa ab (Wq af pw lt))⟩
   ·rintro σ H2 ⟨zs,v4,rfl,d⟩;exact hk _ _ ⟨zs,v4,rfl,d.s,d.fr,d.e,d.lz,d.nz,by have:=d.len;lia,d.rs⟩
  clear d1;rintro σ' H1 ⟨zs,v4,rfl,d⟩;have a8:=d.len;refine ⟨Yax _,λsl al=>?_⟩;have s1:Same H1 (upd H1 sl (.lst [])):=Same.new al;have es:upd H1 sl (.lst []) sl=some (.lst (RF [])):=Gb;have ed:=s1 _ _ d.e;have am:=d.lz.same s1;have aF:O≠sl:=Gh d.e al;have an:∀z∈zs,z.1≠sl:=λz U=>Gh (d.lz z U) al;have a9:H sl=none:=d.s.free al;generalize upd H1 sl (.lst [])=H2 at s1 es ed am ⊢;have S2:=d.s.trans s1;dsimp only [Gv];refine Gn (λσ' H'=>σ'=[some (.ref a),some (.int (st:Int)),some (.int c),some (.int (m:Int)),v4,some (.ref O),some (.ref sl),some (.int 600),none]/\H2=H') ?Y ?f4
  case f4=>exact λhk=>hk _ _ ⟨rfl,rfl⟩
  rintro σ' H' ⟨rfl,rfl⟩;refine Gn (λσ' H'=>∃(B:List (AD×LI))(r:Int)(v8:Option V),σ'=[some (.ref a),some (.int (st:Int)),some (.int c),some (.int (m:Int)),v4,some (.ref O),some (.ref sl),some (.int r),v8]/\(∀b o,b≠sl->H2 b=some o->H' b=some o)/\H' sl=some (.lst (RF B))/\(∀z∈B,z∈zs)/\(B.map (·.2)).Nodup/\(lF (B.map (·.2)):Int)+r=600/\0<=r/\B.length<=200) ?s5 ?f5
  case f5=>
   intro hk;refine xe rfl ⟨O,rfl,⟨_,SqL.of ed⟩,?_⟩
   let Pv:FI:=λi σ H'=>∃(B:List (AD×LI))(r:Int)(v8:Option V),σ=[some (.ref a),some (.int (st:Int)),some (.int c),some (.int (m:Int)),v4,some (.ref O),some (.ref sl),some (.int r),v8]/\(∀b o,b≠sl->H2 b=some o->H' b=some o)/\H' sl=some (.lst (RF B))/\(∀z∈B,z∈zs)/\(B.map (·.2)).Nodup/\(lF (B.map (·.2)):Int)+r=600/\0<=r/\B.length<=i
   refine JV (K:=K) (a:=O) (xs:=RF zs) Pv
    ⟨[],600,none,rfl,λ_ _ _ e=>e,es,(λz U=>by cases U),Yeb,rfl,by decide,Yae _⟩ (by rintro i σ H' _ ⟨_,_,_,_,k,_⟩;exact SqL.of (k _ _ aF ed)) ?_ ?_
   ·rintro i x σ H3 aA ⟨B,r,v8,rfl,k3,e3,L,nd,ag,r0,av⟩;rw [RF,Yay] at aA;obtain ⟨z,U,rfl⟩:=Ybt.mp aA;have ao:=Yaz U;have hi:i<zs.length:=(Yal.mp U).1;have ez:=k3 _ _ (an z ao) (am z ao);have lw:Lz H3 B:=λu hu=>k3 _ _ (an u (L u hu)) (am u (L u hu));dsimp only [Gv];refine xe rfl ⟨z.1,xe rfl ⟨.inl (SqL.of ez),xe rfl (xd rfl rfl (xe rfl ?_))⟩⟩;by_cases c1:(z.2.length:Int)<=r;rotate_left
    ·refine J1 (λcc=>absurd (Ybv cc) (by rw [Yac];exact c1)) (λ_=>O5 ?_);exact ⟨B,r,xe rfl ⟨k3,e3,L,nd,ag,r0,by lia⟩⟩
    refine J1 (λ_=>?_) (λcc=>absurd (Yau (by rw [Yac];exact c1)) cc);refine xe rfl (xe rfl ⟨sl,_,.list (z.2.map PyData.int),Vb (B.map (·.2)),rfl,.inl (SqL.of e3),.lst (SqL.of ez) (GV _),XD lw,JY _,ZcE _,xe rfl ?_⟩);rw [Zes];refine J1 (λc2=>?_) (λ_=>⟨B,r,_,rfl,k3,e3,L,nd,ag,r0,by lia⟩);have c2:z.2 ∉ B.map (·.2):=λaG=>by rw [Yau aG] at c2;cases c2
    refine xe rfl ⟨.inl ⟨rfl,_,SqL.of e3⟩,xe rfl ⟨sl,xd rfl rfl ⟨e3,by rw [RF,Yac];lia,?_⟩⟩⟩;dsimp only [JN];have aH:upd H3 sl (.lst (RF B++[.ref z.1])) z.1=some (.lst (z.2.map V.int)):=Gj ez (an z ao);refine xe rfl (xe rfl ⟨z.1,xe rfl ⟨.inl (SqL.of aH),xd rfl rfl ?_⟩⟩);rw [Yac];refine ⟨B++[z],_,xe rfl ⟨λb o hb e=>Gj (k3 b o hb e) hb,by rw [Gb,RF,RF,Yao];rfl,λu hu=>?_,?_,?_,by lia,by rw [Yam,Ybc];lia⟩⟩
    ·rcases Yak.mp hu with h | h
     ·exact L u h
     ·rw [Yaj.mp h];exact ao
    ·rw [Yao];refine Yco.mpr ⟨nd,by simp,λp hp q hq=>?_⟩;rw [show q=z.2 by simpa using hq];exact λe=>c2 (e▸hp)
    ·rw [Yao];show (lF (B.map (·.2)++[z.2]):Int)+(r-(z.2.length:Int))=600;rw [Zet]
     lia
   ·rintro σ H3 ⟨B,r,v8,rfl,k3,e3,L,nd,ag,r0,av⟩;rw [RF,Yac] at av;exact hk _ _ ⟨B,r,v8,rfl,k3,e3,L,nd,ag,r0,by lia⟩
  rintro σ' H3 ⟨B,r,v8,rfl,k3,e3,L,nd,ag,r0,av⟩;have lw:Lz H3 B:=λu hu=>k3 _ _ (an u (L u hu)) (am u (L u hu));have S3:Same H H3:=λb o e=>k3 b o (Gh e a9) (S2 b o e);refine xe rfl ⟨sl,B,rfl,SqL.of e3,λz U=>SqL.of (lw z U),λl2 aw ax pm so=>?_⟩;have Y:Same H3 (upd H3 l2 (.lst (RF aw))):=Same.new ax;have ap:∀z∈aw,z∈B:=λz U=>pm.mem_iff.mp U;have lp:=Zeu (pm.map (·.2));refine q l2 aw _ (S3.trans Y) (S3.free ax) Gb (λz U=>Y _ _ (lw z (ap z U))) (λz U=>⟨Gh (lw z (ap z U)) ax,(d.nz z (L z (ap z U))).2⟩) (by rw [pm.length_eq];lia) (λz U=>d.rs z (L z (ap z U))) (VE ((pm.map (·.2)).nodup_iff.mpr nd) so) ?_;rw [lp]
  lia
inductive Sts (ts:List Tri):Int->List (LI)->Prop
 | zero:Sts ts 0 []
 | one:Sts ts 1 [[]]
 | node {c:Int} {r:Tri} {A B:List (LI)}:Nd ts c r->Sts ts r.2.1 A->Sts ts r.2.2 B->Sts ts c (A++B.map (r.1::·))
theorem Sts.ex {ts:List Tri}(T:TabOk ts):∀(m:Nat){c lo:Int},At ts c lo->30-lo<=(m:Int)->∃L,Sts ts c L
 | 0,c,lo,a,hm=>by
  rcases a with rfl | rfl | ⟨r,n,g⟩
  ·exact ⟨_,.zero⟩
  ·exact ⟨_,.one⟩
  ·have:=(T.nd n).1
   lia
 | m+1,c,lo,a,hm=>by
  rcases a with rfl | rfl | ⟨r,n,g⟩
  ·exact ⟨_,.zero⟩
  ·exact ⟨_,.one⟩
  ·obtain ⟨A,j⟩:=Sts.ex T m (T.nd n).2.1 (by lia);obtain ⟨B,q⟩:=Sts.ex T m (T.nd n).2.2 (by lia);exact ⟨_,.node n j q⟩
theorem Sts.of (T:TabOk ts)(a:At ts c lo):∃L,Sts ts c L:=Sts.ex T (30-lo).toNat a (by lia)
theorem Sts.has (h:Sts ts c L):∀s,s∈L↔Has ts c s:=by
 induction h with
 | zero=>exact λs=>⟨λh=>(by cases h),λh=>absurd h Has.zero⟩
 | one=>exact λs=>by rw [Has.at1];simp
 | @node c r A B n hA hB iA iB=>
  intro s;rw [Yak,Yai];cases s with
  | nil=>
   rw [Has.nil n,<-iA];exact ⟨λh=>h.elim id λ⟨_,_,e⟩=>(by cases e),.inl⟩
  | cons x s=>
   rw [Has.cons n,<-iA,<-iB];constructor
   ·rintro (h | ⟨y,j,e⟩)
    ·exact .inl h
    ·cases e;exact .inr ⟨rfl,j⟩
   ·rintro (h | ⟨rfl,h⟩)
    ·exact .inl h
    ·exact .inr ⟨s,h,rfl⟩
theorem Sts.short (T:TabOk ts)(h:Sts ts c L):∀{lo:Int},At ts c lo->lo<30->∀s∈L,(s.length:Int)<=29-lo:=by
 induction h with
 | zero=>exact λ_ _ s j=>by cases j
 | one=>
  intro lo _ D s j;rw [Yaj.mp j];show (0:Int)<=29-lo
  lia
 | @node c r A B n hA hB iA iB=>
  intro lo a D s j;obtain ⟨r',N,g⟩:=a.nd (by have:=n.1;lia);cases n.one N;have q:=(T.nd n).1;rcases Yak.mp j with h | h
  ·have:=iA (T.nd n).2.1 q.2 s h
   lia
  ·obtain ⟨y,O,rfl⟩:=Yai.mp h;have:=iB (T.nd n).2.2 q.2 y O;rw [Ybo]
   push_cast
   lia
theorem Has.short (T:TabOk ts)(a:At ts c (-1))(h:Has ts c s):s.length<=30:=by
 obtain ⟨L,j⟩:=Sts.of T a;have:=j.short T a (by decide) s ((j.has s).mpr h)
 lia
structure Fall (ts:List Tri)(os:LI):Prop where
 al:∀c r,Nd ts c r->c∈os
 nd:∀c∈os,∃r,Nd ts c r
 so:os.Pairwise λc d=>∀r q,Nd ts c r->Nd ts d q->q.1<=r.1
 ln:os.length<=ts.length
theorem Fall.before (F:Fall ts B)(hi:B[i]?=some c)(n:Nd ts c r)(D:Nd ts c' r')(g:r.1<r'.1):c'∈B.take i:=by
 obtain ⟨L,e⟩:=Yal.mp hi;obtain ⟨j,N,q⟩:=Yck (F.al c' r' D);rcases Yff j i with h | h | h
 ·exact List.mem_take_iff_getElem.mpr ⟨j,by lia,q⟩
 ·subst h;rw [e] at q;subst q;rw [n.one D] at g
  lia
 ·have:=Yec.mp F.so i j L N h r r' (e▸n) (q▸D)
  lia
theorem Fall.len (F:Fall ts j){i:Nat}(hi:j[i]?=some c):∃r,Nd ts c r:=F.nd c (Yaz hi)
theorem fall_of {ps:List (Int×Int)}(pm:ps.Perm ((ts.map (·.1)).zip (upI 2 ts.length)))(U:ps.Pairwise λp q=>q.1<=p.1):Fall ts (ps.map Prod.snd):=by
 have B:∀p,p∈(ts.map (·.1)).zip (upI 2 ts.length)↔∃r,Nd ts p.2 r/\r.1=p.1:=by
  intro p;constructor
  ·intro h;obtain ⟨i,hi⟩:=Yfm.mp h;obtain ⟨h1,h2⟩:=List.getElem?_zip_eq_some.mp hi;rw [Yay] at h1;cases ht:ts[i]? with
   | none=>rw [ht] at h1;cases h1
   | some r=>
    rw [ht] at h1;injection h1 with h1
    have j:i<ts.length:=(Yal.mp ht).1;have D:p.2=2+(i:Int):=by
     unfold upI at h2;simp [j] at h2
     lia
    refine ⟨r,⟨by lia,?_⟩,h1⟩;rw [D,show (2+(i:Int)-2).toNat=i by lia];exact ht
  ·rintro ⟨r,n,e⟩;have j:(p.2-2).toNat<ts.length:=(Yal.mp n.2).1;have O:=n.1;refine Yfm.mpr ⟨(p.2-2).toNat,List.getElem?_zip_eq_some.mpr ⟨?_,?_⟩⟩
   ·rw [Yay,n.2];exact Ybg some e
   ·unfold upI;simp [j]
    lia
 refine ⟨λc r n=>?_,λc Y=>?_,?_,by rw [Yac,pm.length_eq,List.length_zip,Yac];lia⟩
 ·exact Yai.mpr ⟨(r.1,c),pm.mem_iff.mpr ((B _).mpr ⟨r,n,rfl⟩),rfl⟩
 ·obtain ⟨p,L,rfl⟩:=Yai.mp Y;obtain ⟨r,n,_⟩:=(B p).mp (pm.mem_iff.mp L);exact ⟨r,n⟩
 ·rw [Ybp];refine U.imp_of_mem λ{p q} L Z N r r' n n'=>?_;obtain ⟨r1,O,e1⟩:=(B p).mp (pm.mem_iff.mp L);obtain ⟨r2,n2,D⟩:=(B q).mp (pm.mem_iff.mp Z);rw [n.one O,n'.one n2,e1,D];exact N
noncomputable def lq:Str:=Str.ofString "from_below.<locals>.<lambda>"
noncomputable abbrev LS (tb:AD)(H:Hp):Prop:=LamSt tb 12 48 lq H
theorem W7 {H:Hp}:∀{xs:List V}{ts:List Tri},Trs H xs ts->∃us:List (AD×Int×List V),xs=us.map (λu=>V.ref u.1)/\us.map (·.2.1)=ts.map (·.1)/\us.length=ts.length/\∀u∈us,H u.1=some (.tup (V.int u.2.1::u.2.2))
 | _,_,.nil=>⟨[],rfl,rfl,rfl,λu j=>by cases j⟩
 | _,_,.cons (p:=p) (a:=a) (b:=b) (c:=c) e r=>by
  obtain ⟨us,h1,h2,h3,h4⟩:=W7 r;refine ⟨(p,a,[.int b,.int c])::us,by rw [h1];rfl,by simp [h2],by simp [h3],λu j=>?_⟩;rcases Yav.mp j with rfl | j
  ·exact e
  ·exact h4 u j
noncomputable def Zgm (tb:AD):Sp:=λvs H Q _=>∃(l:AD)(xs:List V)(ts:List Tri),vs=[.ref l]/\H l=some (.lst xs)/\Trs H xs ts/\ts.length<=900/\LS tb H /\
 ∀(a:AD)(os:LI)(H':Hp),SameL tb H H'->LS tb H'->H a=none->H' a=some (.lst (os.map V.int))->Fall ts os->Q (.ref a) H'
theorem ZhR:Go ["nodes"] ["nodes"] (Gf ZgS):=⟨rfl,rfl,rfl,by decide +kernel,rfl,by decide +kernel,by decide +kernel⟩
theorem Zgn (F:Fun K "from_below" "from_below" ZgS f fd)(hc:fd.code=.ref c)(hC:W.CodeHd base c tb)(ac:base.BuiltinsAt mg tb)(L:mg "sorted" = none)(B:mg "range" = none)(N:mg "len" = none) :
  GG P w K mg base CX0 1 f fd ["nodes"] (Zgm tb):=by
 refine F.okC hc ZhR (λvs H Q E h=>?_) (λA ad s H vs Q E hr h=>?_)
 ·obtain ⟨_,_,_,rfl,_⟩:=h
  rfl
 ·obtain ⟨l,xs,ts,rfl,el,tr,an,st,q⟩:=h;have ao:=Ybd.symm;have jJ:=hr.depth;refine ⟨_,Gg (Gq (VA (ZaN (K:=K) (j:=0) (x:=Str.ofString "number") (y:=Str.ofString "nodes") (cc:=s.heap.objs.size+1) (qual:=Str.ofString "from_below.<locals>.<lambda>") (params:={ posonlyargs:=[],args:=[{ arg := "number", annotation:=none,pos:=⟨12,55,12,61⟩:PySem.Arg }],vararg:=none,kwonlyargs:=[],kw_defaults:=[],kwarg:=none,defaults:=[]:PySem.Arguments }) (pm:=(mg "__name__").getD .none) (scope:={ kind:=PySem.ScopeKind.function,names:=[(PySem.Str.ofString "number", PySem.NameKind.local),(PySem.Str.ofString "nodes", PySem.NameKind.free)],isGenerator:=false,isCoroutine:=false,more:=[]:PySem.Scope }) (p1:=⟨12,63,12,68⟩) (p2:=⟨12,69,12,75⟩) (p3:=⟨12,78,12,79⟩) (p4:=⟨12,69,12,79⟩) (p5:=⟨12,63,12,80⟩) (p6:=⟨12,81,12,82⟩) (p7:=⟨12,63,12,83⟩) (d1:=0) (d2:=0) rfl rfl jJ rfl (Or.inr (Or.inl rfl)) rfl rfl rfl rfl rfl (λ_ _ _=>rfl) rfl rfl (by decide +kernel) (by decide) (by decide) (by decide)) rfl L Yfa (Ga (ZdZ rfl B (Ga Gd (Ga (Gm GT (gB1 (Ur K) N Ybq (pv 0)) Gd) Ge))) Ge) (VL (Zc6 (qual:=Str.ofString "from_below.<locals>.<lambda>") (clos:=[(Str.ofString "nodes", s.heap.objs.size+1)]) rfl rfl hC ac rfl) (VL JM ZcS)))),?_⟩;have ae:=tr.len;refine xe rfl ⟨l,xs,rfl,.inl (SqL.of el),xd rfl rfl ⟨_,xe rfl (λr0 af=>?_)⟩⟩;obtain ⟨H1,q_,O,D⟩:=nwU (o:=.rng 2 ((xs.length:Int)+2)) af;rw [q_];have U:LS tb H1:=st.same O;obtain ⟨ps,eP⟩:=U.tbl;obtain ⟨us,ag,ah,ap,ai⟩:=W7 (tr.same O);refine ⟨U,λfl c' aj H2 sl on aq ak=>?_⟩;have al:H2 r0=some (.rng 2 ((xs.length:Int)+2)):=sl r0 _ (λz=>by rw [z,eP] at D;cases D) D;obtain ⟨Y,oc,Z,aa⟩:=on;refine ⟨r0,fl,c',l,oc,aj,xs.length,us,rfl,rfl,al,by lia,ak,Z,aa,rfl,SqL.of (by rw [<-ag];exact sl.lst eP (O _ _ el)),by lia,λu hu=>SqT.of (sl.tup eP (ai u hu)),λa os ha pm so=>?_⟩;have am:LS tb H2:=.inr ⟨c',Y,oc,Z,aa⟩;rw [ah,ae] at pm;have ab:H1 a=none:=sl.free eP ⟨_,Y⟩ ha;exact q a _ _ ((SameL.of O).trans (sl.put ab)) (am.same (Same.new ha)) (O.free ab) Gb (fall_of pm so)
end
theorem LamSt.keep (h:LamSt P j col qual H)(k:∀b o,b≠d->H b=some o->H' b=some o)(q:H d=some (.dK B)):LamSt P j col qual H':=by
 rcases h with h | ⟨c,h1,D,h2,L⟩
 ·exact .inl (k _ _ (λz=>by rw [z,q] at h;cases h) h)
 ·exact .inr ⟨c,k _ _ (λz=>by rw [z,q] at h1;cases h1) h1,D,k _ _ (λz=>by rw [z,q] at h2;cases h2) h2,L⟩
noncomputable def cst (qs:LI)(s:LI):Int:=(s.map λr=>qs.getD r.toNat 0).sum
theorem UE (qs:LI)(r:Int)(s:LI):cst qs (r::s)=cst qs s+qs.getD r.toNat 0:=by
 unfold cst;rw [Yap,List.sum_cons,Int.add_comm]
noncomputable abbrev PS:=Int×LI
noncomputable abbrev StP (l:List PS):Prop:=l.Pairwise λa b=>JU a b=true
structure Best (qs:LI)(S:LI->Prop)(k:Nat)(l:List PS):Prop where
 so:StP l
 of:∀x∈l,S x.2/\x.1=cst qs x.2
 le:l.length<=k
 all:∀s,S s->(cst qs s,s)∈l\/(l.length=k/\∀x∈l,JU x (cst qs s,s)=true)
theorem StP.nd (h:StP l):l.Nodup:=h.imp λ{a b} z e=>by rw [e,U6] at z;cases z
theorem Zgo (h:JU a b=true)(h':JU b a=true):False:=by
 have:=Za5 h h';rw [U6] at this;cases this
section
variable {qs:LI}{S:LI->Prop}{k:Nat}{l l':List PS}
theorem Zbp (h:JU a b=false)(j:a≠b):JU b a=true:=by
 cases e:JU b a with
 | true=>rfl
 | false=>exact absurd (XA h e) j
theorem Zbq {L A:List PS}(U:StP L)(sub:∀a∈A,a∈L)(nd:A.Nodup)(hk:k<=A.length)(O:∀a∈A,JU a x=true):∀y∈L.take k,JU y x=true:=λy Y=>by
 obtain ⟨i,hi,rfl⟩:=List.mem_take_iff_getElem.mp Y;cases e:JU L[i] x with
 | true=>rfl
 | false=>
  exfalso;have B:∀a∈A,a∈L.take i:=λa ha=>by
   have q:JU a L[i]=true:=by
    cases e2:JU a L[i] with
    | true=>rfl
    | false=>
     exfalso;by_cases D:a=L[i]
     ·rw [<-D,O a ha] at e;cases e
     ·have:=Za5 (Zbp e2 D) (O a ha);rw [this] at e;cases e
   obtain ⟨j,Z,N⟩:=Yck (sub a ha);have aa:j<i:=by
    rcases Yff j i with h | h | h
    ·exact h
    ·subst h;rw [N,U6] at q;cases q
    ·have:=Yec.mp U i j (by lia) Z h;rw [N] at this;exact (Zgo this q).elim
   exact List.mem_take_iff_getElem.mpr ⟨j,by lia,N⟩
  have:=Ydb nd B;rw [Ybn] at this
  lia
theorem Zbr (q:StP L)(B:x∈L):x∈L.take k\/((L.take k).length=k/\∀y∈L.take k,JU y x=true):=by
 obtain ⟨j,D,rfl⟩:=Yck B;by_cases h:j<k
 ·exact .inl (List.mem_take_iff_getElem.mpr ⟨j,by lia,rfl⟩)
 ·refine .inr ⟨by rw [Ybn];lia,λy N=>?_⟩;obtain ⟨i,hi,rfl⟩:=List.mem_take_iff_getElem.mp N;exact Yec.mp q i j (by lia) D (by lia)
theorem Zgp (nd:L.Nodup)(j:L.Pairwise λa b=>JU b a=false):StP L:=by
 refine (List.Pairwise.and nd j).imp λ{a b} ⟨h1,h2⟩=>?_;cases h:JU a b with
 | true=>rfl
 | false=>exact absurd (XA h h2) h1
noncomputable def Xd (qs:LI)(r:Int)(x:PS):PS:=(x.1+qs.getD r.toNat 0,r::x.2)
theorem Zdk (r:Int):JU (Xd qs r x) (Xd qs r y)=JU x y:=by
 have j:decide (x.1+qs.getD r.toNat 0<y.1+qs.getD r.toNat 0)=decide (x.1<y.1):=decide_eq_decide.mpr (by lia);have q:decide (x.1+qs.getD r.toNat 0=y.1+qs.getD r.toNat 0)=decide (x.1=y.1):=decide_eq_decide.mpr (by lia);simp only [JU,Xd,j,q];simp [GE]
theorem Best.node {Z S1:LI->Prop}{r:Int}{O q L:List PS}(hS:∀s,S s↔Z s\/∃t,s=r::t/\S1 t)(aa:∀s t,Z s->s≠r::t)(j:Best qs Z k O)(U:Best qs S1 k q)(pm:L.Perm (O++q.map (Xd qs r)))(so:L.Pairwise λa b=>JU b a=false):Best qs S k (L.take k):=by
 have B:StP (q.map (Xd qs r)):=by
  rw [StP,Ybp];exact U.so.imp λ{a b} h=>by rw [Zdk];exact h
 have nd:(O++q.map (Xd qs r)).Nodup:=Yco.mpr ⟨j.so.nd,B.nd,λa ha b hb e=>by
  obtain ⟨y,_,rfl⟩:=Yai.mp hb;exact aa a.2 y.2 (j.of a ha).1 (by rw [e];rfl)⟩
 have D:StP L:=Zgp (pm.nodup_iff.mpr nd) so;have i0:∀x∈O,x∈L:=λx N=>pm.mem_iff.mpr (Ydr _ N);have i1:∀x∈q.map (Xd qs r),x∈L:=λx N=>pm.mem_iff.mpr (Yby _ N);have qV:=pm.length_eq;rw [Yam,Yac] at qV;refine ⟨D.sublist (List.take_sublist ..),λx N=>?_,by rw [Ybn];lia,λs hs=>?_⟩
 ·rcases Yak.mp (pm.mem_iff.mp (Yfv N)) with h | h
  ·exact ⟨(hS _).mpr (.inl (j.of x h).1),(j.of x h).2⟩
  ·obtain ⟨y,Y,rfl⟩:=Yai.mp h;refine ⟨(hS _).mpr (.inr ⟨y.2,rfl,(U.of y Y).1⟩),?_⟩;show y.1+qs.getD r.toNat 0=cst qs (r::y.2);rw [UE,(U.of y Y).2]
 ·rcases (hS s).mp hs with h | ⟨t,rfl,h⟩
  ·rcases j.all s h with h | ⟨h1,h2⟩
   ·exact Zbr D (i0 _ h)
   ·exact .inr ⟨by rw [Ybn];lia,Zbq D i0 j.so.nd (by lia) h2⟩
  ·have e:(cst qs (r::t),r::t)=Xd qs r (cst qs t,t):=by rw [UE];rfl
   rw [e];rcases U.all t h with h | ⟨h1,h2⟩
   ·exact Zbr D (i1 _ (Yai.mpr ⟨_,h,rfl⟩))
   ·refine .inr ⟨by rw [Ybn];lia,Zbq D i1 B.nd (by rw [Yac];lia) λa ha=>?_⟩;obtain ⟨y,Y,rfl⟩:=Yai.mp ha;rw [Zdk];exact h2 y Y
end
noncomputable abbrev RP (zs:List PL):List V:=zs.map λz=>V.ref z.1
noncomputable abbrev vP (zs:List PL):List PS:=zs.map (·.2.2)
noncomputable def PLs (H:Hp)(zs:List PL):Prop:=∀z∈zs,H z.1=some (.tup [.int z.2.2.1,.ref z.2.1])/\H z.2.1=some (.lst (z.2.2.2.map V.int))
theorem PLs.same (h:PLs H zs)(s:Same H H'):PLs H' zs:=λz j=>⟨s _ _ (h z j).1,s _ _ (h z j).2⟩
theorem ZcF (xs:List V)(k:Nat):VM xs none (some (k:Int))=xs.take k:=by
 unfold VM;rw [HT.sIx_nat];show (xs.drop 0).take _=_;rw [List.drop_zero];show xs.take (min k xs.length-0)=xs.take k;rw [Nat.sub_zero];rcases Nat.le_total k xs.length with h | h
 ·rw [Yev h]
 ·rw [Nat.min_eq_right h,Ybu,Yfw h]
theorem Zev (L:List PL)(k:Nat):(RP L).take k=RP (L.take k):=List.map_take.symm
structure Got (H0 H:Hp)(qs:LI)(ts:List Tri)(k:Nat)(c:Int)(v:V)(l:AD)(zs:List PL):Prop where
 v:v=.ref l
 e:H l=some (.lst (RP zs))
 pl:PLs H zs
 of:∀z∈zs,Has ts c z.2.2.2/\z.2.2.1=cst qs z.2.2.2
 ln:zs.length<=101
 fr:H0 l=none/\∀z∈zs,H0 z.1=none/\H0 z.2.1=none
 best:1<=k->Best qs (Has ts c) k (vP zs)
noncomputable def GotV (H0 H:Hp)(qs:LI)(ts:List Tri)(k:Nat)(c:Int)(v:V):Prop:=∃l zs,Got H0 H qs ts k c v l zs
theorem GotV.kp (g:GotV H0 H qs ts k c v)(j:∀a xs,H a=some (.lst xs)->H' a=some (.lst xs))(B:∀a xs,H a=some (.tup xs)->H' a=some (.tup xs)):GotV H0 H' qs ts k c v:=by
 obtain ⟨l,zs,g⟩:=g;exact ⟨l,zs,g.v,j _ _ g.e,λz q=>⟨B _ _ (g.pl z q).1,j _ _ (g.pl z q).2⟩,g.of,g.ln,g.fr,g.best⟩
structure DcOk (R:Int->V->Prop)(kvs:List (Key×V))(dn:LI):Prop where
 z:∃v,JF kvs (.inl 0)=some v/\R 0 v
 o:∃v,JF kvs (.inl 1)=some v/\R 1 v
 c:∀c∈dn,∃v,JF kvs (.inl c)=some v/\R c v
theorem DcOk.mono (D:DcOk R kvs j)(h:∀c v,R c v->R' c v):DcOk R' kvs j:=by
 obtain ⟨⟨q,B,L⟩,⟨N,O,U⟩,c⟩:=D;exact ⟨⟨q,B,h _ _ L⟩,⟨N,O,h _ _ U⟩,λd Y=>by obtain ⟨v,e,r⟩:=c d Y;exact ⟨v,e,h _ _ r⟩⟩
theorem DcOk.get {c c':Int}(D:DcOk R kvs (j.take i))(F:Fall ts j)(hi:j[i]?=some c)(n:Nd ts c r)(a:At ts c' r.1):∃v,JF kvs (.inl c')=some v/\R c' v:=by
 rcases a with rfl | rfl | ⟨r',q,g⟩
 ·exact D.z
 ·exact D.o
 ·exact D.c c' (F.before hi n q g)
theorem DcOk.fin {c lo:Int}(D:DcOk R kvs j)(F:Fall ts j)(a:At ts c lo):∃v,JF kvs (.inl c)=some v/\R c v:=by
 rcases a with rfl | rfl | ⟨r',q,g⟩
 ·exact D.z
 ·exact D.o
 ·exact D.c c (F.al c r' q)
theorem DcOk.snoc {j:LI}{c:Int}(D:DcOk R kvs (j.take i))(q:∀c v,R c v->R' c v)(hi:j[i]?=some c)(h2:2<=c)(L:R' c v):DcOk R' (JH kvs (.inl c) v) (j.take (i+1)):=by
 refine ⟨?_,?_,λd B=>?_⟩
 ·rw [GZ,if_neg (by intro z;injection z with z;lia)];exact (D.mono q).z
 ·rw [GZ,if_neg (by intro z;injection z with z;lia)];exact (D.mono q).o
 ·rw [GZ];by_cases e:d=c
  ·subst e;rw [if_pos rfl];exact ⟨v,rfl,L⟩
  ·rw [if_neg (by intro z;injection z with z;exact e z)];rw [Ybx,hi] at B;rcases Yak.mp B with h | h
   ·exact (D.mono q).c d h
   ·exact absurd (by simpa using h) e
theorem Zbs (qs:LI)(ts:List Tri)(k:Nat):Best qs (Has ts 0) k []:=⟨.nil,(λx j=>by cases j),Yax _,λs q=>absurd q Has.zero⟩
theorem ZcG (qs:LI)(ts:List Tri)(j:1<=k):Best qs (Has ts 1) k [(0,[])]:=⟨by simp [StP],λx q=>by rw [Yaj.mp q];exact ⟨.one,rfl⟩,j,λs B=>.inl (by rw [Has.at1.mp B];exact Yaj.mpr rfl)⟩
theorem Wr (n:Nd ts c r)(s:LI):Has ts c s↔Has ts r.2.1 s\/∃t,s=r.1::t/\Has ts r.2.2 t:=by
 cases s with
 | nil=>
  rw [Has.nil n];exact ⟨.inl,λh=>h.elim id λ⟨_,e,_⟩=>by cases e⟩
 | cons x s=>
  rw [Has.cons n];constructor
  ·rintro (h | ⟨rfl,h⟩)
   ·exact .inl h
   ·exact .inr ⟨s,rfl,h⟩
  ·rintro (h | ⟨t,e,h⟩)
   ·exact .inl h
   ·cases e;exact .inr ⟨rfl,h⟩
theorem Zew (T:TabOk ts)(n:Nd ts c r)(s t:LI)(h:Has ts r.2.1 s):s≠r.1::t:=λe=>by
 have:=h.gt T (T.nd n).2.1 e
 lia
theorem ZcH (T:TabOk ts)(n:Nd ts c r)(hk:k<=100)(D:Got H0 H qs ts k r.2.1 v0 l0 U)(Z:Got H0 H qs ts k r.2.2 v1 l1 Y)(ec:vP q=(vP Y).map (Xd qs r.1))(pc:PLs H q)(fc:∀z∈q,H0 z.1=none/\H0 z.2.1=none)(pm:L.Perm (U++q))(so:(vP L).Pairwise λa b=>JU b a=false)(hl:H0 l=none)(e:H l=some (.lst (RP (L.take k)))):Got H0 H qs ts k c (.ref l) l (L.take k):=by
 have mem:∀z∈L.take k,z∈U\/z∈q:=λz j=>Yak.mp (pm.mem_iff.mp (Yfv j));refine ⟨rfl,e,λz j=>?_,λz j=>?_,by rw [Ybn];lia,⟨hl,λz j=>?_⟩,λh1=>?_⟩
 ·rcases mem z j with h | h
  ·exact D.pl z h
  ·exact pc z h
 ·rcases mem z j with h | h
  ·exact ⟨(Wr n _).mpr (.inl (D.of z h).1),(D.of z h).2⟩
  ·have hm:z.2.2∈(vP Y).map (Xd qs r.1):=by rw [<-ec];exact Yai.mpr ⟨z,h,rfl⟩
   obtain ⟨y,hy,ey⟩:=Yai.mp hm;obtain ⟨N,O,rfl⟩:=Yai.mp hy;rw [<-ey];refine ⟨(Wr n _).mpr (.inr ⟨N.2.2.2,rfl,(Z.of N O).1⟩),?_⟩;show N.2.2.1+qs.getD r.1.toNat 0=cst qs (r.1::N.2.2.2);rw [UE,(Z.of N O).2]
 ·rcases mem z j with h | h
  ·exact D.fr.2 z h
  ·exact fc z h
 ·have B:=Best.node (L:=vP L) (Wr n) (Zew T n) (D.best h1) (Z.best h1) (by rw [<-ec];have:=pm.map (·.2.2);rwa [Yao] at this) so
  rwa [<-List.map_take] at B
theorem W8 (T:TabOk ts)(a:At ts c lo)(h0:-1<=lo)(h:Has ts c s):s.length<=30:=Has.short T (by
 rcases a with rfl | rfl | ⟨r,n,g⟩
 ·exact .inl rfl
 ·exact .inr (.inl rfl)
 ·exact .inr (.inr ⟨r,n,by lia⟩)) h
theorem Zbt:1<=sizeLine:=by decide
theorem Yy (qs:LI)(ts:List Tri)(k:Nat)(q:∀d kvs H',Same H H'->H d=none->H' d=some (.dK kvs)->DcOk (GotV H H' qs ts k) kvs []->kvs.length<=2->Q (.ref d) H'):Zfh [(tC (V.int 0),ZeY ZL),(tC (V.int 1),ZeY (UJ (Zhh (UJ (tC (V.int 0)) (UJ (ZeY ZL) ZL))) ZL))] σ H Q:=by
 intro d hd;have s0:Same H (upd H d (.dK [])):=Same.new hd;have e0:upd H d (.dK []) d=some (.dK []):=Gb;refine ⟨Yax _,λa0 B=>?_⟩;generalize upd H d (.dK [])=H1 at s0 e0 B ⊢;obtain ⟨H2,D,s1,e1⟩:=nwU (o:=.lst []) B;rw [D];refine ⟨Yax _,λa1 N=>?_⟩;obtain ⟨H3,D,s2,e2⟩:=nwU (o:=.lst []) N;rw [D];refine ⟨GW,λt1 O=>?_⟩;obtain ⟨H4,D,Z,e3⟩:=nwU (o:=.tup [.int 0,.ref a1]) O;rw [D];refine ⟨Zbt,λa2 U=>?_⟩;obtain ⟨H5,D,Y,e4⟩:=nwU (o:=.lst [.ref t1]) U;rw [D];have S1:=s0.trans s1;have S2:=S1.trans s2;have S3:=S2.trans Z;have ed:H5 d=some (.dK []):=Y _ _ (Z _ _ (s2 _ _ (s1 _ _ e0)));refine ⟨ed,[(.inl 0,.ref a0),(.inl 1,.ref a2)],rfl,(by show 2<=15;decide),?_⟩;have nd:∀{a:AD}{o:HO},H5 a=some o->(∀L,o≠.dK L)->a≠d:=λe hn z=>by rw [z,ed] at e;exact hn _ (Ybk e).symm
 have k5:∀{a:AD}{o:HO},H5 a=some o->(∀L,o≠.dK L)->upd H5 d (.dK (G6 [] [(.inl 0,.ref a0),(.inl 1,.ref a2)])) a=some o:=λe hn=>Gj e (nd e hn);have f0:=k5 (Y _ _ (Z _ _ (s2 _ _ e1))) (λL z=>by cases z);have f1:=k5 (Y _ _ (Z _ _ e2)) (λL z=>by cases z);have f2:=k5 (Y _ _ e3) (λL z=>by cases z);have f3:=k5 e4 (λL z=>by cases z);refine q d _ _ ((S3.trans Y).put hd) hd Gb ⟨⟨.ref a0,rfl,a0,[],rfl,f0,(λz j=>by cases j),(λz j=>by cases j),Yax _,⟨s0.free B,(λz j=>by cases j)⟩,λ_=>Zbs qs ts k⟩,⟨.ref a2,rfl,a2,[(t1,a1,(0,[]))],rfl,f3,(λz j=>by rw [Yaj.mp j];exact ⟨f2,f1⟩),(λz j=>by rw [Yaj.mp j];exact ⟨.one,rfl⟩),(by show 1<=101;decide),⟨S3.free U,(λz j=>by rw [Yaj.mp j];exact ⟨S2.free O,S1.free N⟩)⟩,λh1=>ZcG qs ts h1⟩,(λc hc=>by cases hc)⟩ (Yae 2)
theorem chosen (T:TabOk ts)(n:Nd ts c r)(ag:r.1<(qs.length:Int))(G1:Got H0 B qs ts k r.2.2 (.ref l1) l1 O)(aa:B pr=some (.lst (qs.map V.int)))(hD:B D=none)(fin:∀q H',Same B H'->H' D=some (.lst (RP q))->PLs H' q->(∀z∈q,B z.1=none/\B z.2.1=none)->vP q=(vP O).map (Xd qs r.1)->R H') :
  ∃W:Nat->Nat->List V->Hp->Prop,(∃m,W 0 m [] (upd B D (.lst [])))/\OF (Itl K l1) D (Zg9 K 2 (Zdq (Gv 0) (Zdq (Gv 1) ZhV))) XN (Zhh (UJ (tOp (rI0 λi j=>V.int (i+j)) (Zq 0) (tOp (Zhm K) (Zq 2) (Zq 3))) (UJ (tOp Zhp (ZeY (UJ (Zq 3) ZL)) (Zq 1)) ZL))) [none,none,some (.ref pr),some (.int r.1)] W R:=by
 have ak:=Ybd.symm;have ah:=(T.nd n).1
 let Pv:CI:=λj ys H'=>∃q:List PL,ys=RP q/\Same B H'/\H' D=some (.lst ys)/\PLs H' q/\(∀z∈q,(B z.1=none/\B z.2.1=none)/\z.1≠D/\z.2.1≠D)/\vP q=((vP O).take j).map (Xd qs r.1)
 refine Jo (K:=K) (a:=l1) (xs:=RP O) Pv ⟨[],rfl,Same.new hD,Gb,(λz L=>by cases L),(λz L=>by cases L),rfl⟩ (by rintro j ys H' _ ⟨_,_,s,_⟩;exact SqL.of (s _ _ G1.e)) ?_ ?_
 ·rintro j y ys H4 ab ⟨q,rfl,N,eD,pc,nc,ec⟩;rw [RP,Yay] at ab;obtain ⟨z,L,rfl⟩:=Ybt.mp ab;have ac:=Yaz L;have hj:j<O.length:=(Yal.mp L).1;have aj:=W8 T (T.nd n).2.2 (by lia) (G1.of z ac).1;have al:=G1.ln;have am:q.length=j:=by
   have:=Ybg List.length ec;rw [Yac,Yac,Ybn,Yac] at this
   lia
  have tk:(vP O).take (j+1)=(vP O).take j++[z.2.2]:=by rw [Ybx,Yay,L];rfl
  obtain ⟨p1,p2⟩:=G1.pl z ac;refine ⟨z.1,xe rfl ⟨SqT.of (N _ _ p1),rfl,_,xe rfl (xd rfl rfl ⟨⟨rfl,rfl,trivial⟩,?_⟩)⟩⟩;unfold XN;refine JX ?_;refine xe rfl (xe rfl (xe rfl ⟨pr,_,xd rfl rfl ⟨SqL.of (N _ _ aa),Oa ah.1 ag,xd rfl rfl (xe rfl ⟨Zbt,λq1 ai=>?_⟩)⟩⟩));obtain ⟨H5,q_,s5,e5⟩:=nwU (o:=.lst [.int r.1]) ai;rw [q_];refine xe rfl ⟨q1,z.2.1,xd rfl rfl ⟨e5,s5 _ _ (N _ _ p2),(by rw [Yac];show 1+z.2.2.2.length<=_;lia),λU Y=>?_⟩⟩;obtain ⟨H6,q_,s6,e6⟩:=nwU (o:=.lst ([.int r.1]++z.2.2.2.map V.int)) Y;have e6:H6 U=some (.lst ((r.1::z.2.2.2).map V.int)):=e6;rw [q_];refine ⟨GW,λq3 Z=>?_⟩;have s7:Same H6 (upd H6 q3 (.tup [.int (z.2.2.1+qs.getD r.1.toNat 0),.ref U])):=Same.new Z;have e7:upd H6 q3 (.tup [.int (z.2.2.1+qs.getD r.1.toNat 0),.ref U]) q3=some (.tup [.int (z.2.2.1+qs.getD r.1.toNat 0),.ref U]):=Gb;have S5:=N.trans s5;have S6:=s5.trans s6;have S7:=S6.trans s7;have ad:=S7 _ _ eD;have ae:U≠D:=Ne.symm (Gh (s5 _ _ eD) Y);have af:q3≠D:=Ne.symm (Gh (S6 _ _ eD) Z);generalize upd H6 q3 (.tup [.int (z.2.2.1+qs.getD r.1.toNat 0),.ref U])=H7 at s7 e7 S7 ad ⊢;refine ⟨ad,by rw [RP,Yac];lia,q++[(q3,U,Xd qs r.1 z.2.2)],by rw [RP,RP,Yao];rfl,(N.trans S7).put hD,Gb,λu hu=>?_,λu hu=>?_,by rw [vP,Yao,<-vP,ec,tk,Yao];rfl⟩
  ·rcases Yak.mp hu with h | h
   ·exact ⟨Gj (S7 _ _ (pc u h).1) (nc u h).2.1,Gj (S7 _ _ (pc u h).2) (nc u h).2.2⟩
   ·rw [Yaj.mp h];exact ⟨Gj e7 af,Gj (s7 _ _ e6) ae⟩
  ·rcases Yak.mp hu with h | h
   ·exact nc u h
   ·rw [Yaj.mp h];exact ⟨⟨(N.trans S6).free Z,S5.free Y⟩,af,ae⟩
 ·rintro ys H4 ⟨q,rfl,N,eD,pc,nc,ec⟩;rw [RP,Yac,<-Yac (f:=λz:PL=>z.2.2),Ybu] at ec;exact fin q H4 N eD pc (λz L=>(nc z L).1) ec
theorem W9 (T:TabOk ts)(n:Nd ts c r)(hk:k<=100)(D:Got H0 N qs ts k r.2.1 (.ref l0) l0 O)(U:Got H0 N qs ts k r.2.2 (.ref l1) l1 z1)(s4:Same N B)(ad:B cl=some (.lst (RP j)))(pc:PLs B j)(nc:∀z∈j,N z.1=none/\N z.2.1=none)(ec:vP j=(vP z1).map (Xd qs r.1))(ae:B d=some (.dK kvs))(g0:JF kvs (.inl r.2.1)=some (.ref l0))(Y:∀{b:AD},N b=none->H0 b=none)(ha:σ[a]?=some (some (.ref d)))(hb:σ[b]?=some (some (.int r.2.1)))(he:σ[e]?=some (some (.ref cl)))(h2:σ[2]?=some (some (.int (k:Int))))(fin:∀q zs H7,Same N H7->Got H0 H7 qs ts k c (.ref q) q zs->Q (.ref q) H7) :
  tSl (Zhn K) (tCB (Za6 K) (UJ (tOp Zhp (ZdO (Zq a) (Zq b)) (Zq e)) ZL)) Xh (Ze0 (Zq 2)) σ B Q:=by
 have aj:=Ybd.symm;have ak:j.length=z1.length:=by
  have:=Ybg List.length ec
  rwa [Yac,Yac,Yac] at this
 have al:=D.ln;have am:=U.ln;refine ⟨_,ha,_,hb,d,xe rfl ⟨g0▸DGet.k (k:=.inl r.2.1) ae,_,he,l0,cl,xd rfl rfl ⟨s4 _ _ D.e,ad,(by rw [RP,RP,Yac,Yac];lia),λp hp=>?_⟩⟩⟩;have s5:Same B (upd B p (.lst (RP O++RP j))):=Same.new hp;have e5:upd B p (.lst (RP O++RP j)) p=some (.lst (RP (O++j))):=by rw [Gb,RP,RP,RP,Yao]
 generalize upd B p (.lst (RP O++RP j))=H5 at s5 e5 ⊢;have S5:=s4.trans s5;have aa:PLs H5 (O++j):=λz Z=>by
  rcases Yak.mp Z with h | h
  ·exact D.pl.same S5 z h
  ·exact pc.same s5 z h
 refine ⟨p,O++j,rfl,SqL.of e5,λz Z=>⟨SqT.of (aa z Z).1,SqL.of (aa z Z).2⟩,λaf L ag pm so=>?_⟩;obtain ⟨H6,q_,s6,e6⟩:=nwU (o:=.lst (RP L)) ag;rw [q_];refine ⟨_,h2,xe rfl ⟨af,xe rfl ⟨SqL.of e6,λq ab=>?_⟩⟩⟩;rw [ZcF,Zev];obtain ⟨H7,q_,s7,e7⟩:=nwU (o:=.lst (RP (L.take k))) ab;have ac:N q=none:=(S5.trans s6).free ab;rw [q_];have S7:=(S5.trans s6).trans s7;have ah:Got H0 H7 qs ts k r.2.1 (.ref l0) l0 O:=⟨rfl,S7 _ _ D.e,D.pl.same S7,D.of,D.ln,D.fr,D.best⟩;have ai:Got H0 H7 qs ts k r.2.2 (.ref l1) l1 z1:=⟨rfl,S7 _ _ U.e,U.pl.same S7,U.of,U.ln,U.fr,U.best⟩;exact fin _ _ _ S7 (ZcH T n hk ah ai ec (pc.same ((s5.trans s6).trans s7)) (λz Z=>⟨Y (nc z Z).1,Y (nc z Z).2⟩) pm so (Y ac) e7)
theorem Zdl {L:LI}(D:DcOk (GotV H0 N qs ts k) kvs (L.take i))(O:Same N q)(B:q d=some (.dK kvs))(U:L[i]?=some c)(h2:2<=c)(G:Got H0 q qs ts k c (.ref j) j zs):DcOk (GotV H0 (upd q d (.dK (JH kvs (.inl c) (.ref j)))) qs ts k) (JH kvs (.inl c) (.ref j)) (L.take (i+1)):=by
 have kp:∀{c' v},GotV H0 q qs ts k c' v->GotV H0 (upd q d (.dK (JH kvs (.inl c) (.ref j)))) qs ts k c' v:=λg=>g.kp (λb ys e=>Gj e (λz=>by rw [z,B] at e;cases e)) (λb ys e=>Gj e (λz=>by rw [z,B] at e;cases e));exact D.snoc (λc' v g=>kp (g.kp (λb ys e=>O _ _ e) (λb ys e=>O _ _ e))) U h2 (kp ⟨_,_,G⟩)
section
variable {P:PP}{w:Ab}{K:FG}{mg:Str->Option Aa}{base:Heap}
noncomputable def Zgq (tb:AD):Sp:=λvs H Q _=>∃(l pr:AD)(xs:List V)(ts:List Tri)(qs:LI)(k:Nat),vs=[.ref l,.ref pr,.int (k:Int)]/\H l=some (.lst xs)/\Trs H xs ts/\TabOk ts/\ts.length<=900/\H pr=some (.lst (qs.map V.int))/\(∀r∈ts,r.1<(qs.length:Int))/\k<=100/\LS tb H /\
 ∀(d:AD)(kvs:List (Key×V))(os:LI)(H':Hp),SameL tb H H'->LS tb H'->H' d=some (.dK kvs)->DcOk (GotV H H' qs ts k) kvs os->Fall ts os->Q (.ref d) H'
theorem scChb:Go ["nodes", "prices", "k", "cheapest", "number", "road", "low", "high", "chosen"] ["nodes", "prices", "k"] (Gf ZeD):=⟨rfl,rfl,rfl,by decide +kernel,rfl,by decide +kernel,by decide +kernel⟩
theorem Zgr (F:Fun K "cheapest_below" "cheapest_below" ZeD f fd)(ap:Fun K "from_below" "from_below" ZgS Y B)(aq:Binds K B ["nodes"] [])(ar:mg "from_below" = some (.ref Y))(as:GG P w K mg base CX0 1 Y B ["nodes"] (Zgm tb))(ac:mg "sorted" = none) :
  GG P w K mg base CX0 2 f fd ["nodes", "prices", "k"] (Zgq tb):=by
 refine F.ok scChb (λvs H Q E h=>?_) (λad A au s H vs Q E hr h=>?_)
 ·obtain ⟨_,_,_,_,_,_,rfl,_⟩:=h
  rfl
 ·obtain ⟨l,pr,xs,ts,qs,k,rfl,el,tr,T,ae,av,aw,hk,st,q⟩:=h;have aA:=Ybd.symm;have aa:(A.deeper (PyProof.Rows.envOfC "cheapest_below" (Gf ZeD) s.heap.objs.size f ad)).units+1<cLine:=by have:=hr.un;lia
  have af:(A.deeper (PyProof.Rows.envOfC "cheapest_below" (Gf ZeD) s.heap.objs.size f ad)).units+71<cLine:=by have:=hr.un;lia
  refine ⟨_,@Gc _ _ _ _ _ (@Zv _ _ 3 _ _ _ _ scChb.nd rfl (Or.inl rfl) (@UR _ _ _ _ _ (Jk Gd (Gx Ge) (Jk Gd (Gx (Ga (GC (Ga Gd (Ga (Gx Ge) Ge))) Ge)) UQ)) rfl rfl (by decide) (by decide)) rfl (by first | exact .inl rfl | exact .inr rfl))
    (Gc (Js Ycg rfl (Om K (gCa as ar ap.kp aq GH (Ga (pv 0) Ge))) (gNm 4 scChb.nd)
    (Gc (OC (gIx (Of K) (pv 0) (Gm JZ (pv 4) Gd)) (Xc K (n:=3) rfl (Gk (gNm 5 scChb.nd) (Gk (gNm 6 scChb.nd) (Gk (gNm 7 scChb.nd) G9)))))
    (Gc (Ov (i:=8) scChb.nd rfl (Or.inl rfl) (own:=["price", "roads"]) rfl (gSc [("prices", 1),("road", 5)]) (Om K (gDg aa (pv 3) (pv 7))) (λ_ _ _ _=>Xc K (n:=2) rfl (Gk (gNm 0 (show List.Nodup (["price", "roads", "prices", "road"]:List Str) by decide +kernel)) (Gk (gNm 1 (show List.Nodup (["price", "roads", "prices", "road"]:List Str) by decide +kernel)) G9))) (λ_ _ _ _=>GY) (λ_ _ _ _=>GC (Ga (Gm GT (pv 0) (gIx (Of K) (pv 2) (pv 3))) (Ga (Gm WC (Gx (Ga (pv 3) Ge)) (pv 1)) Ge))))
    (Gg (Ow aa (pv 3) (pv 4) (Jt (kSl K) (gB1 (Za9 K af) ac Yfa (Gm WC (gDg aa (pv 3) (pv 6)) (pv 8))) JO (JW (pv 2))) rfl)))))
    (Gg (Gq (pv 3)))),?_⟩
  refine lT3 ?_;intro Z R3 R2;refine Gn (λσ' H'=>∃(d:AD)(kvs:List (Key×V)),σ'=[some (.ref l),some (.ref pr),some (.int (k:Int)),some (.ref d),none,none,none,none,none]/\Same H H'/\H d=none/\H' d=some (.dK kvs)/\DcOk (GotV H H' qs ts k) kvs []/\kvs.length<=2) ?N ?f1
  case f1=>
   exact λab=>Yy qs ts k λd kvs H' h1 h2 h3 h4 h5=>ab _ _ ⟨d,kvs,rfl,h1,h2,h3,h4,h5⟩
  rintro σ' H1 ⟨d,ag,rfl,N,hd,ed,D0,ah⟩;have ai:LS tb H1:=st.same N;obtain ⟨ps,eP⟩:=ai.tbl;have aB:=tr.len;refine xe rfl ⟨l,xs,ts,rfl,N _ _ el,tr.same N,ae,ai,λa os H2 sl aj ha ea fa=>?_⟩;have ak:H2 l=some (.lst xs):=sl.lst eP (N _ _ el);have ax:Trs H2 xs ts:=Trs.sameL sl eP (tr.same N);have L:=sl.dK eP ed;have U:H2 pr=some (.lst (qs.map V.int)):=sl.lst eP (N _ _ av);have D2:DcOk (GotV H H2 qs ts k) ag []:=D0.mono λc v g=>g.kp (λb ys e=>sl.lst eP e) (λb ys e=>sl.tup eP e);have nl:∀{b:AD}{ys:List V},H2 b=some (.lst ys)->b≠d:=λe z=>by rw [z,L] at e;cases e
  have nt:∀{b:AD}{ys:List V},H2 b=some (.tup ys)->b≠d:=λe z=>by rw [z,L] at e;cases e
  refine ⟨a,rfl,⟨_,SqL.of ea⟩,?_⟩
  let Pv:FI:=λi σ H'=>∃(kvs:List (Key×V))(v4 v5 v6 v7 v8:Option V),σ=[some (.ref l),some (.ref pr),some (.int (k:Int)),some (.ref d),v4,v5,v6,v7,v8]/\(∀b o,b≠d->H2 b=some o->H' b=some o)/\H' d=some (.dK kvs)/\DcOk (GotV H H' qs ts k) kvs (os.take i)/\kvs.length<=2+i
  refine JV (K:=K) (a:=a) (xs:=os.map V.int) Pv
   ⟨ag,none,none,none,none,none,rfl,λ_ _ _ e=>e,L,by rw [List.take_zero];exact D2,ah⟩ (by rintro i σ H' _ ⟨_,_,_,_,_,_,_,kk,_⟩;exact SqL.of (kk _ _ (nl ea) ea)) ?_ ?_
  ·rintro i x σ H3 ay ⟨kvs,v4,v5,v6,v7,v8,rfl,O,j,D,az⟩;obtain ⟨c,rfl,hc⟩:=JK ay;obtain ⟨r,n⟩:=fa.len hc;obtain ⟨t,a1,a2⟩:=U7 (ax.keep λp ys e=>O _ _ (nt e) e) n;obtain ⟨v0,g0,l0,z0,G0⟩:=D.get fa hc n (T.nd n).2.1;obtain ⟨v1,g1,l1,z1,G1⟩:=D.get fa hc n (T.nd n).2.2;have a3:=G0.v;have a4:=G1.v;subst a3 a4;have aC:os.length<=900:=Ybr fa.ln ae;have hi:i<os.length:=(Yal.mp hc).1;have aD:=(T.nd n).1;have a5:=aw r (Yaz n.2);have al:H3 pr=some (.lst (qs.map V.int)):=O _ _ (nl U) U;dsimp only [Gv];refine xe rfl (xe rfl (xd rfl rfl ⟨l,_,xd rfl rfl ⟨SqL.of (O _ _ (nl ak) ak),a1,t,xe rfl ⟨SqT.of a2,rfl,_,xe rfl ⟨_,xe rfl (xd rfl rfl ?_)⟩⟩⟩⟩));dsimp only;refine Gn (λσ' H'=>∃(cl:AD)(zc:List PL),σ'=[some (.ref l),some (.ref pr),some (.int (k:Int)),some (.ref d),some (.int c),some (.int r.1),some (.int r.2.1),some (.int r.2.2),some (.ref cl)]/\Same H3 H'/\H' cl=some (.lst (RP zc))/\PLs H' zc/\(∀z∈zc,H3 z.1=none/\H3 z.2.1=none)/\vP zc=(vP z1).map (Xd qs r.1)) ?s2 ?f2
   case f2=>
    intro ab;refine xe rfl (xe rfl ⟨d,xe rfl ⟨g1▸DGet.k (k:=.inl r.2.2) j,l1,rfl,⟨_,SqL.of G1.e⟩,λD' hD=>?_⟩⟩);exact chosen T n a5 G1 al hD λzc H' h1 h2 h3 h4 h5=>ab _ _ ⟨D',zc,rfl,h1,h2,h3,h4,h5⟩
   rintro σ' H4 ⟨cl,zc,rfl,s4,a6,pc,nc,ec⟩;have a7:∀{b:AD},H3 b=none->H b=none:=λ{b} e=>by
    cases eb:H b with
    | none=>rfl
    | some o=>
     have h1:=N _ _ eb;by_cases am:b=d
     ·rw [am,j] at e;cases e
     ·by_cases an:b=tb
      ·obtain ⟨aE,e2⟩:=aj.tbl;rw [an,O _ _ (λz=>by rw [z,L] at e2;cases e2) e2] at e;cases e
      ·rw [O _ _ am (sl _ _ an h1)] at e;cases e
   refine W9 T n hk G0 G1 s4 a6 pc nc ec (s4 _ _ j) g0 a7 rfl rfl rfl rfl λa8 aF H7 S7 G=>?_;have ao:=S7 _ _ j;refine xe rfl (xe rfl ⟨d,xe rfl ⟨DPut.k (k:=.inl c) ao (by lia),?_⟩⟩);have a9:=GM kvs (Sum.inl c:Key) (.ref a8);refine ⟨_,_,_,_,_,xe rfl ⟨λb o hb e=>Gj (S7 _ _ (O b o hb e)) hb,Gb,Zdl D S7 ao hc n.1 G,Ybr a9 (by lia)⟩⟩
  ·rintro σ H3 ⟨kvs,v4,v5,v6,v7,v8,rfl,O,j,D,az⟩;rw [Yac,Ybu] at D;exact xe rfl (q d kvs os H3 (λb o hb e=>O b o (λz=>by rw [z,hd] at e;cases e) (sl b o hb (N b o e))) (LamSt.keep aj O L) j D fa)
noncomputable def ToldG (H:Hp)(Q:VK):Prop:=∀(p l:AD)(root:Int)(xs:List V)(us:List Tri)(H':Hp),Same H H'->H p=none->H l=none->TabAt H' p l root xs us->TabOk us->At us root (-1)->us.length<=60->(∀r∈us,r.2.2≠0)->root≠0->Q (.ref p) H'
theorem ToldG.same (h:ToldG H Q)(s:Same H H1):ToldG H1 Q:=λp l root xs us H' s' j q W T a n z r=>h p l root xs us H' (s.trans s') (s.free j) (s.free q) W T a n z r
noncomputable def Xa (rs:LI)(k:Nat):Tri:=(rs.getD k 0,if k+1=rs.length then 1 else (k:Int)+3,if k+1=rs.length then 1 else (k:Int)+3)
theorem Zex {rs:LI}(D:rs.Pairwise (· < ·))(rg:∀x∈rs,0<=x/\x<30):TabOk ((List.range rs.length).map (Xa rs)):=λi r h=>by
 rw [Yay] at h;obtain ⟨j,L,rfl⟩:=Ybt.mp h;obtain ⟨hi,q⟩:=Yal.mp L;rw [Ydg] at hi;rw [List.getElem_range] at q;subst q;have g:∀k,k<rs.length->rs.getD k 0=rs[k]!/\rs[k]?=some (rs.getD k 0):=λk B=>by
  constructor
  ·simp [Yca,B]
  ·simp [Yca,B]
 have a:At ((List.range rs.length).map (Xa rs)) (Xa rs i).2.1 (Xa rs i).1:=by
  show At _ (if i+1=rs.length then 1 else (i:Int)+3) (rs.getD i 0);by_cases c:i+1=rs.length
  ·rw [if_pos c];exact .inr (.inl rfl)
  ·rw [if_neg c];refine .inr (.inr ⟨Xa rs (i+1),⟨by lia,?_⟩,?_⟩)
   ·rw [show ((i:Int)+3-2).toNat=i+1 by lia,Yay,List.getElem?_range (by lia)];rfl
   ·show rs.getD i 0<rs.getD (i+1) 0;have h1:=(g i (by lia)).2;have h2:=(g (i+1) (by lia)).2;obtain ⟨N,O⟩:=Yal.mp h1;obtain ⟨U,Y⟩:=Yal.mp h2;rw [<-O,<-Y];exact Yec.mp D i (i+1) N U (by lia)
 exact ⟨rg _ (Yaz (g i hi).2),a,a⟩
theorem Zbu (T:TabOk ks)(L:Said ks fs us fs.length)(N:us.length=fs.length)(hz:∀r∈ks,r.2.2≠0):∀r∈us,r.2.2≠0:=λq O=>by
 obtain ⟨j,U,rfl⟩:=Yck O;have B:j<fs.length:=by lia
 obtain ⟨r,a,b,n,ha,D,e⟩:=L j fs[j] B (Yaw B);rw [(Yal.mp e).2];show b≠0;have h0:=hz r (Yaz n.2);have N:=(T.nd n).2.2.lt.1;by_cases c:1<r.2.2
 ·have:=(OP D c).1
  lia
 ·have:r.2.2=1:=by lia
  rw [this,OQ] at D;have:=Ybk D
  lia
noncomputable def Zgs:Sp:=λvs H Q _=>∃(j:AD)(rs:LI),vs=[.ref j]/\H j=some (.lst (rs.map V.int))/\rs.Pairwise (· < ·)/\(∀x∈rs,0<=x/\x<30)/\rs.length<=30/\rs≠[]/\ToldG H Q
theorem scAll:Go ["roads", "nodes", "k", "below"] ["roads"] (Gf Zg1):=⟨rfl,rfl,rfl,by decide +kernel,rfl,by decide +kernel,by decide +kernel⟩
theorem Zgt (F:Fun K "_law_all_sets" "_law_all_sets" Zg1 f fd)(j:mg "range" = none)(B:mg "len" = none):GG P w K mg base CX0 1 f fd ["roads"] Zgs:=by
 refine F.ok scAll (λvs H Q E h=>?_) (λae A aa s H vs Q E hr h=>?_)
 ·obtain ⟨_,_,rfl,_⟩:=h
  rfl
 ·obtain ⟨U,rs,rfl,L,pw,rg,af,ab,q⟩:=h;have ag:=Ybd.symm;refine ⟨_,Gc (gSt 1 scAll.nd (Gx Ge))
    (Gc (Js Ycg rfl (Jy rfl j (Ga (gB1 (Ur K) B Ybq (pv 0)) Ge)) (gNm 2 scAll.nd)
    (Gc (gSt 3 scAll.nd (Gm GT (pv 2) Gd))
    (Gc (GS (gCm Ou (pv 2) (Gm JZ (gB1 (Ur K) B Ybq (pv 0)) Gd)) (Gg (gSt 3 scAll.nd Gd)) Gp)
    (Gg (G8 (kBm K Ycf Yct Ycu GB (pv 1) (Ga (GC (Ga (gIx (Of K) (pv 0) (pv 2)) (Ga (pv 3) (Ga (pv 3) Ge)))) Ge)))))))
    (Gg (Gq (GC (Ga Gd (Ga (pv 1) Ge)))))),?_⟩
  refine lT3 ?_;intro Z R3 R2;refine ⟨Yax _,λnl N=>?_⟩;obtain ⟨H1,q_,s1,ac⟩:=nwU (o:=.lst []) N;rw [q_];dsimp only [Gv];refine xe rfl ⟨U,xe rfl ⟨.inl (SqL.of (s1 _ _ L)),xe rfl ⟨by lia,by rw [Yac];lia,?_⟩⟩⟩;rw [Yac,Ydf]
  let Pv:FI:=λi σ H'=>∃(xs:List V)(v2 v3:Option V),σ=[some (.ref U),some (.ref nl),v2,v3]/\Same H H'/\H' nl=some (.lst xs)/\Trs H' xs ((List.range i).map (Xa rs))
  refine J2 (lo:=0) (n:=rs.length) Pv ⟨[],none,none,rfl,s1,ac,.nil⟩ ?_ ?_
  ·rintro i σ H2 hi ⟨xs,v2,v3,rfl,O,el,tr⟩;rw [Int.zero_add];dsimp only [Gv];have ad:=tr.len;rw [Yac,Ydg] at ad;refine xe rfl (xd rfl rfl ?_);dsimp only [Gv];refine Gn (λσ' H'=>σ'=[some (.ref U),some (.ref nl),some (.int (i:Int)),some (.int (Xa rs i).2.1)]/\H2=H') ?s1 ?f1
   case f1=>
    intro hk;refine xe rfl (xe rfl ⟨U,xe rfl ⟨.inl (SqL.of (O _ _ L)),xd rfl rfl ⟨rfl,xe rfl ?_⟩⟩⟩);rw [Yac];by_cases c:i+1=rs.length
    ·refine J1 (λ_=>hk _ _ ⟨by show _=[_,_,_,some (V.int (if i+1=rs.length then 1 else (i:Int)+3))];rw [if_pos c];rfl,rfl⟩) (λz=>absurd (Yau (by show V.int (i:Int)=V.int ((rs.length:Int)-1);rw [show (rs.length:Int)-1=(i:Int) by lia])) z)
    ·refine J1 (λz=>absurd (V.int.inj (Ybv z)) (by lia)) (λ_=>hk _ _ ⟨by show _=[_,_,_,some (V.int (if i+1=rs.length then 1 else (i:Int)+3))];rw [if_neg c];rfl,rfl⟩)
   rintro σ' H' ⟨rfl,rfl⟩;refine xe rfl ⟨.inl ⟨rfl,_,SqL.of el⟩,xe rfl (xe rfl ⟨U,_,xd rfl rfl ⟨SqL.of (O _ _ L),Oa (i:=(i:Int)) (by lia) (by lia),xe rfl (xe rfl ⟨(by show 3<=sizeLine;decide),λt ht=>?_⟩)⟩⟩)⟩;have D:Same H2 (upd H2 t (.tup [.int (rs.getD i 0),.int (Xa rs i).2.1,.int (Xa rs i).2.1])):=Same.new ht;have et:upd H2 t (.tup [.int (rs.getD i 0),.int (Xa rs i).2.1,.int (Xa rs i).2.1]) t=some (.tup [.int (rs.getD i 0),.int (Xa rs i).2.1,.int (Xa rs i).2.1]):=Gb;rw [Ydf];generalize upd H2 t (.tup [.int (rs.getD i 0),.int (Xa rs i).2.1,.int (Xa rs i).2.1])=H3 at D et ⊢;have Y:=D _ _ el;refine ⟨nl,xd rfl rfl ⟨Y,by lia,?_⟩⟩;have t4:=GR (o:=.lst (xs++[.ref t])) Y;refine ⟨xs++[.ref t],_,xe rfl ⟨(O.trans D).put N,Gb,?_⟩⟩;rw [List.range_succ,Yao];exact ((tr.same D).keep t4).snoc (t4 _ _ et)
  ·rintro σ H2 ⟨xs,v2,v3,rfl,O,el,tr⟩;refine xe rfl ⟨GW,λp hp=>?_⟩;have D:Same H2 (upd H2 p (.tup [.int 2,.ref nl])):=Same.new hp;have T:=Zex pw rg;have h0:0<rs.length:=List.length_pos_iff.mpr ab;refine q p nl 2 xs _ _ (O.trans D) (O.free hp) N ⟨Gb,D _ _ el,tr.same D⟩ T (.inr (.inr ⟨Xa rs 0,⟨by decide,?_⟩,?_⟩)) (by rw [Yac,Ydg];lia) (λr hr=>?_) (by decide)
   ·rw [Yay,List.getElem?_range (by simpa using h0)];rfl
   ·have:=(T 0 (Xa rs 0) (by rw [Yay,List.getElem?_range h0];rfl)).1.1
    lia
   ·obtain ⟨k,_,rfl⟩:=Yai.mp hr;show (if k+1=rs.length then (1:Int) else (k:Int)+3)≠0;split <;> lia
noncomputable def Zgu (K:FG):Sp:=λvs H Q _=>∃(a:AD)(ns:LI)(st:Nat),vs=[.ref a,.int (st:Int)]/\SqL K H a (ns.map V.int)/\ToldG H Q
theorem scGrt:Go ["script", "start", "head", "cell", "number", "roads", "nodes", "a", "b", "road", "some", "draw", "at", "other"] ["script", "start"] (Gf Zg2):=⟨rfl,rfl,rfl,by decide +kernel,rfl,by decide +kernel,by decide +kernel⟩
structure Smo (H:Hp)(sm:AD)(ws:List (AD×Int×Int))(ts:List Tri)(road:Int):Prop where
 e:H sm=some (.lst (ws.map λw=>V.ref w.1))
 w:∀w∈ws,H w.1=some (.tup [.int w.2.1,.int w.2.2])/\At ts w.2.1 road/\At ts w.2.2 road/\w.2.2≠0
 n:ws.length=2\/ws.length=4
theorem Smo.same (h:Smo H q B ts j)(s:Same H H'):Smo H' q B ts j:=⟨s _ _ h.e,λw D=>⟨s _ _ (h.w w D).1,(h.w w D).2⟩,h.n⟩
theorem Smo.get (h:Smo H D q ts j)(h0:0<=i)(h1:i<(q.length:Int)):∃(t:AD)(x y:Int),atI (q.map λw=>V.ref w.1) i=some (.ref t)/\H t=some (.tup [.int x,.int y])/\At ts x j/\At ts y j/\y≠0:=by
 obtain ⟨k,rfl⟩:=Int.eq_ofNat_of_zero_le h0;have B:k<q.length:=by lia
 have L:=List.getElem_mem B;exact ⟨q[k].1,q[k].2.1,q[k].2.2,Gr (by rw [Yay,Yaw B];rfl),h.w _ L⟩
theorem Zgv (F:Fun K "_law_great_table" "_law_great_table" Zg2 f fd)(FA:Fun K "_law_cell_at" "_law_cell_at" ZeG fA aC)(bA:Binds K aC ["script", "k"] [])(mA:mg "_law_cell_at" = some (.ref fA))(GA:GG P w K mg base CX0 1 fA aC ["script", "k"] (Zcy K))(bd:Fun K "_law_bits" "_law_bits" ZfE a9 ag)(be:Binds K ag ["number", "width"] [])(bf:mg "_law_bits" = some (.ref a9))(bg:GG P w K mg base CX0 1 a9 ag ["number", "width"] Zer)(aO:Fun K "_law_stir" "_law_stir" ZeH aA ah)(aP:Binds K ah ["cell", "k"] [])(aQ:mg "_law_stir" = some (.ref aA))(aR:GG P w K mg base CX0 1 aA ah ["cell", "k"] ZcD)(bh:Fun K "_law_all_sets" "_law_all_sets" Zg1 aB aj)(bj:Binds K aj ["roads"] [])(bl:mg "_law_all_sets" = some (.ref aB))(bm:GG P w K mg base CX0 1 aB aj ["roads"] Zgs)(FO:Fun K "_law_in_order" "_law_in_order" ZfG fO aD)(bO:Binds K aD ["root", "nodes"] [])(mO:mg "_law_in_order" = some (.ref fO))(GO:GG P w K mg base CX0 1 fO aD ["root", "nodes"] Zem)(ab:mg "len" = none):GG P w K mg base CX0 2 f fd ["script", "start"] (Zgu K):=by
 refine F.ok scGrt (λvs H Q E h=>?_) (λbB A bn s H vs Q E hr h=>?_)
 ·obtain ⟨_,_,_,rfl,_⟩:=h
  rfl
 ·obtain ⟨a,ns,st,rfl,hS,q⟩:=h;have bC:=Ybd.symm;have hu:=hr.units;refine ⟨_,Gc (gSt 2 scGrt.nd (gCa GA mA FA.kp bA GH (Ga (pv 0) (Ga Gd Ge))))
    (Gc (gSt 3 scGrt.nd (gCa GA mA FA.kp bA GH (Ga (pv 0) (Ga (pv 1) Ge))))
    (Gc (gSt 4 scGrt.nd (gIx (Of K) (Gx (Ga (Gm GQ (pv 3) Gd) (Ga (gCa aR aQ aO.kp aP GH (Ga (pv 3) (Ga Gd Ge))) Ge))) (Gm GQ (Gm GD (pv 2) Gd) Gd)))
    (Gc (GS (gCm Ou (Gm GQ (Gm GD (pv 2) Gd) Gd) Gd) (Gg (gSt 4 scGrt.nd Gd)) Gp)
    (Gc (gSt 5 scGrt.nd (gCa bg bf bd.kp be GH (Ga (pv 4) (Ga Gd Ge))))
    (Gc (GS (gCm (Zfa K hu) (pv 5) (Gx Ge)) (Gg (Gq (GC (Ga Gd (Ga (Gx Ge) Ge))))) Gp)
    (Gc (GS (gCm Ou (Gm GQ (Gm GD (pv 2) Gd) Gd) Gd) (Gg (Gq (gCa bm bl bh.kp bj GH (Ga (pv 5) Ge)))) Gp)
    (Gc (gSt 6 scGrt.nd (Gx Ge))
    (Gc (OC (GC (Ga Gd (Ga Gd Ge))) (Xc K (n:=2) rfl (Gk (gNm 7 scGrt.nd) (Gk (gNm 8 scGrt.nd) G9))))
    (Gc (Js Ycg rfl (Om K (Zab K (pv 5) JO (ZeU Z3 Gd))) (gNm 9 scGrt.nd)
    (Gc (gSt 10 scGrt.nd (Gx (Ga (GC (Ga (pv 7) (Ga (pv 8) Ge))) (Ga (GC (Ga (pv 8) (Ga (pv 7) Ge))) (Ga (GC (Ga (pv 7) (Ga (pv 7) Ge))) (Ga (GC (Ga (pv 8) (Ga (pv 8) Ge))) Ge))))))
    (Gc (GS (gCm Ou (pv 7) Gd) (Gg (gSt 10 scGrt.nd (Gx (Ga (GC (Ga Gd (Ga Gd Ge))) (Ga (GC (Ga Gd (Ga Gd Ge))) Ge))))) Gp)
    (Gc (gSt 11 scGrt.nd (gCa aR aQ aO.kp aP GH (Ga (pv 3) (Ga (Gm GT Gd (pv 9)) Ge))))
    (Gc (gSt 12 scGrt.nd (Gm GQ (pv 11) (gB1 (Ur K) ab Ybq (pv 10))))
    (Gc (G8 (kBm K Ycf Yct Ycu GB (pv 6) (Ga (Gm ZR (GC (Ga (pv 9) Ge)) (gIx (Of K) (pv 10) (pv 12))) Ge)))
    (Gc (gSt 13 scGrt.nd (Gm GQ (Gm GT (Gm GT (pv 12) Gd) (Gm GQ (Gm GD (pv 11) Gd) (Gm JZ (gB1 (Ur K) ab Ybq (pv 10)) Gd))) (gB1 (Ur K) ab Ybq (pv 10))))
    (Gc (G8 (kBm K Ycf Yct Ycu GB (pv 6) (Ga (Gm ZR (GC (Ga (pv 9) Ge)) (gIx (Of K) (pv 10) (pv 13))) Ge)))
    (Gg (ZeQ (i:=7) (j:=8) rfl scGrt.nd rfl rfl (by decide) rfl rfl (Ga (gB1 (Ur K) ab Ybq (pv 6)) (Ga (Gm GT (gB1 (Ur K) ab Ybq (pv 6)) Gd) Ge)) rfl))))))))))
    (Gg (Gq (gCa GO mO FO.kp bO GH (Ga (gIx (Of K) (Gx (Ga (pv 7) (Ga (pv 8) Ge))) (Gm GQ (Gm GD (pv 2) Gd) Gd)) (Ga (pv 6) Ge)))))))))))))),?_⟩
  refine Ziu ?_;intro Z bD bE R9 R8 R7 R6 R5 R4 R3 R2;refine xe rfl ⟨a,ns,0,rfl,hS,λhd=>?_⟩;dsimp only [Gv];refine xe rfl (xe rfl ⟨a,ns,st,rfl,hS,λc=>?_⟩);dsimp only [Gv];refine Gn (λσ' H'=>∃n:Int,σ'=[some (.ref a),some (.int (st:Int)),some (.int hd),some (.int c),some (.int n),none,none,none,none,none,none,none,none,none]/\Same H H') ?s1 ?f1
  case f1=>
   intro hk;refine ⟨_,rfl,_,_,rfl,rfl,(by show (0:Int)<1073741824;decide),_,rfl,c,33,rfl,by decide,λz z0 z1=>⟨GW,λp hp=>⟨_,rfl,_,_,rfl,rfl,⟨by decide,GN⟩,_,_,rfl,rfl,(by show (0:Int)<2;decide),p,[.int (c % 1073741824),.int z],hd / 960 % 2,?_⟩⟩⟩;have s1:Same H (upd H p (.lst [.int (c % 1073741824),.int z])):=Same.new hp;have j0:0<=hd / 960 % 2:=Ycm _ (by decide);have j1:hd / 960 % 2<2:=Ycn _ (by decide);have j:hd / 960 % 2=0\/hd / 960 % 2=1:=by lia
   rcases j with h | h
   ·exact ⟨.int (c % 1073741824),rfl,rfl,SqL.of Gb,by rw [h];exact Gr (j:=0) rfl,hk _ _ ⟨_,rfl,s1⟩⟩
   ·exact ⟨.int z,rfl,rfl,SqL.of Gb,by rw [h];exact Gr (j:=1) rfl,hk _ _ ⟨_,rfl,s1⟩⟩
  rintro σ' H1 ⟨n1,rfl,s1⟩;refine Gn (λσ' H'=>∃n:Int,σ'=[some (.ref a),some (.int (st:Int)),some (.int hd),some (.int c),some (.int n),none,none,none,none,none,none,none,none,none]/\H1=H') ?s2 ?f2
  case f2=>exact λhk=>⟨_,rfl,_,_,rfl,rfl,⟨by decide,GN⟩,_,_,rfl,rfl,(by show (0:Int)<3;decide),rfl,_,rfl,J1 (λ_=>hk _ _ ⟨_,rfl,rfl⟩) (λ_=>hk _ _ ⟨n1,rfl,rfl⟩)⟩
  rintro σ' H' ⟨n,rfl,rfl⟩;refine xe rfl ⟨n,30,rfl,by decide,λrl ak H2 s2 bF au aE aF=>?_⟩;dsimp only [Gv];have pw:(ak.map λk:Nat=>(k:Int)).Pairwise (· < ·):=Ybp.mpr (aE.imp λh=>by lia);have rg:∀x∈ak.map λk:Nat=>(k:Int),0<=x/\x<30:=λx hx=>by
   obtain ⟨k,hk,rfl⟩:=Yai.mp hx;have:=aF k hk
   lia
  have al:(ak.map λk:Nat=>(k:Int)).length<=30:=by
   have:=Ydb (l₁:=ak) (l₂:=List.range 30) (aE.imp λh=>by lia) λk hk=>Ycc.mpr (aF k hk);rw [Ydg] at this;rw [Yac];exact this
  clear aE aF;generalize (ak.map λk:Nat=>(k:Int))=rs at au pw rg al;have S2:=s1.trans s2;refine xe rfl ⟨Yax _,λe1 bo=>?_⟩;obtain ⟨H3,L,s3,v3⟩:=nwU (o:=.lst []) bo;rw [L];have S3:=S2.trans s3;refine ⟨.list (rs.map PyData.int),.list (([]:LI).map PyData.int),.lst (SqL.of (s3 _ _ au)) (GV _),.lst (SqL.of v3) .nil,JY _,JY _,xe rfl ?_⟩;rw [OI];by_cases av:rs=[]
  ·rw [Yau av];refine JX ?_;refine ⟨Yax _,λe2 aS=>⟨GW,λp hp=>?_⟩⟩;have s4:Same H3 (upd H3 e2 (.lst [])):=Same.new aS;have v4:upd H3 e2 (.lst []) e2=some (.lst []):=Gb;generalize upd H3 e2 (.lst [])=H4 at s4 v4 hp ⊢;have s5:Same H4 (upd H4 p (.tup [.int 1,.ref e2])):=Same.new hp;have S4:=S3.trans s4;exact q p e2 1 [] [] _ (S4.trans s5) (S4.free hp) (S3.free aS) ⟨Gb,s5 _ _ v4,.nil⟩ TabOk.nil (.inr (.inl rfl)) (by decide) (λr hr=>by cases hr) (by decide)
  rw [Ybl av];refine O5 ?_;dsimp only [JN];refine xe rfl (xd rfl rfl ⟨⟨by decide,GN⟩,xd rfl rfl ⟨(by show (0:Int)<2;decide),rfl,xe rfl (J1 (λ_=>?_) (λ_=>?_))⟩⟩)
  ·exact xe rfl ⟨rl,rs,rfl,s3 _ _ au,pw,rg,al,av,q.same S3⟩
  dsimp only [JN];refine ⟨Yax _,λnl aT=>?_⟩;obtain ⟨H4,L,s4,v4⟩:=nwU (o:=.lst []) aT;have a2:H nl=none:=S3.free aT;rw [L];have S4:=S3.trans s4;dsimp only [Gv];refine ⟨GW,λt0 bp=>?_⟩;obtain ⟨H5,L,s5,v5⟩:=nwU (o:=.tup [.int 0,.int 1]) bp;rw [L];have S5:=S4.trans s5;refine ⟨t0,xe rfl ⟨SqT.of v5,rfl,_,xe rfl (xd rfl rfl ?_)⟩⟩;dsimp only;have aU:=s5 _ _ (s4 _ _ (s3 _ _ au));refine Gn (λσ' H'=>∃(D N:Int)(xs:List V)(ts:List Tri)(v9 ac U Y aa:Option V),σ'=[some (.ref a),some (.int (st:Int)),some (.int hd),some (.int c),some (.int n),some (.ref rl),some (.ref nl),some (.int D),some (.int N),v9,ac,U,Y,aa]/\Same H H'/\H' nl=some (.lst xs)/\Trs H' xs ts/\TabOk ts/\(∀r∈ts,r.2.2≠0)/\ts.length<=60/\2<=ts.length/\D=(ts.length:Int)/\N=(ts.length:Int)+1) ?s3 ?f3
  case f3=>
   intro hk;refine ⟨_,rfl,rl,_,rfl,SqL.of aU,.inl rfl,λrv aV=>⟨rv,rfl,⟨_,SqL.of Gb⟩,?_⟩⟩;have s6:Same H5 (upd H5 rv (.lst (ZgO none (rs.map V.int)))):=Same.new aV;have aG:upd H5 rv (.lst (ZgO none (rs.map V.int))) rv=some (.lst (rs.reverse.map V.int)):=by rw [Gb,List.map_reverse];rfl
   have aW:nl≠rv:=Gh (s5 _ _ v4) aV;have a3:ZgO none (rs.map V.int)=rs.reverse.map V.int:=by rw [List.map_reverse];rfl
   rw [a3];rw [a3] at s6 aG;generalize upd H5 rv (.lst (rs.reverse.map V.int))=H6 at s6 aG ⊢;have bq:rs.reverse.Pairwise (λx y=>y<x):=List.pairwise_reverse.mpr pw
   let Pv:FI:=λi σ H'=>∃(D N:Int)(xs:List V)(ts:List Tri)(v9 ac U Y aa:Option V),σ=[some (.ref a),some (.int (st:Int)),some (.int hd),some (.int c),some (.int n),some (.ref rl),some (.ref nl),some (.int D),some (.int N),v9,ac,U,Y,aa]/\Same H H'/\H' rv=some (.lst (rs.reverse.map V.int))/\H' nl=some (.lst xs)/\Trs H' xs ts/\TabOk ts/\(∀r∈ts,r.2.2≠0)/\ts.length=2 * i/\(∀r∈ts,r.1∈rs.reverse.take i)/\((i=0/\D=0/\N=1)\/(0<i/\D=(ts.length:Int)/\N=(ts.length:Int)+1))
   refine JV (K:=K) (a:=rv) (xs:=rs.reverse.map V.int) Pv
    ⟨0,1,[],[],none,none,none,none,none,rfl,S5.trans s6,aG,s6 _ _ (s5 _ _ v4),.nil,TabOk.nil,(λr hr=>by cases hr),rfl,(λr hr=>by cases hr),.inl ⟨rfl,rfl,rfl⟩⟩ (by rintro i σ H' _ ⟨_,_,_,_,_,_,_,_,_,_,_,e,_⟩;exact SqL.of e) ?_ ?_
   ·rintro i x σ H7 br ⟨D,N,xs,ts,v9,ac,U,Y,aa,rfl,s7,a4,am,tr,T,hz,aH,aI,aw⟩;obtain ⟨B,rfl,hc⟩:=JK br;obtain ⟨hi,bt⟩:=Yal.mp hc;have bG:i<rs.length:=by rw [List.length_reverse] at hi;exact hi
    have aJ:0<=B/\B<30:=rg B (List.mem_reverse.mp (Yaz hc));have aK:∀r∈ts,B<r.1:=λr hr=>by
     obtain ⟨j,hj,ej⟩:=List.mem_take_iff_getElem.mp (aI r hr);have:=Yec.mp bq j i (by lia) hi (by lia);rw [ej,bt] at this;exact this
    have bH:=tr.len;have ad:∀x:Int,2<=x->x<(ts.length:Int)+2->At ts x B:=λx h1 h2=>by
     have hk:(x-2).toNat<ts.length:=by lia
     exact .inr (.inr ⟨ts[(x-2).toNat],⟨h1,Yaw hk⟩,aK _ (List.getElem_mem hk)⟩)
    dsimp only [Gv];refine Gn (λσ' H'=>∃(sm:AD)(O:List (AD×Int×Int)),σ'=[some (.ref a),some (.int (st:Int)),some (.int hd),some (.int c),some (.int n),some (.ref rl),some (.ref nl),some (.int D),some (.int N),some (.int B),some (.ref sm),U,Y,aa]/\Same H7 H'/\H7 sm=none/\(D≠0->Smo H' sm O ts B)) ?t1 ?g1
    case g1=>
     intro ax;refine xe rfl (xe rfl ⟨GW,λw1 h1=>?_⟩);obtain ⟨Ha,L,u1,x1⟩:=nwU (o:=.tup [.int D,.int N]) h1;rw [L];refine xe rfl (xe rfl ⟨GW,λw2 h2=>?_⟩);obtain ⟨Hb,L,u2,x2⟩:=nwU (o:=.tup [.int N,.int D]) h2;rw [L];refine xe rfl (xe rfl ⟨GW,λw3 h3=>?_⟩);obtain ⟨Hc,L,u3,x3⟩:=nwU (o:=.tup [.int D,.int D]) h3;rw [L];refine xe rfl (xe rfl ⟨GW,λw4 h4=>?_⟩);obtain ⟨Hd,L,u4,x4⟩:=nwU (o:=.tup [.int N,.int N]) h4;rw [L];refine ⟨(by show 4<=sizeLine;decide),λsm an=>?_⟩;obtain ⟨He,L,u5,x5⟩:=nwU (o:=.lst [.ref w1,.ref w2,.ref w3,.ref w4]) an;rw [L];refine ax _ _ ⟨sm,[(w1,D,N),(w2,N,D),(w3,D,D),(w4,N,N)],rfl,u1.trans (u2.trans (u3.trans (u4.trans u5))),(u1.trans (u2.trans (u3.trans u4))).free an,λae=>?_⟩;have b8:0<i/\D=(ts.length:Int)/\N=(ts.length:Int)+1:=aw.resolve_left λz=>ae z.2.1;have A1:=ad D (by lia) (by lia);have A2:=ad N (by lia) (by lia);refine ⟨x5,λw hw=>?_,.inr rfl⟩;simp only [Yav,List.not_mem_nil,or_false] at hw;rcases hw with rfl | rfl | rfl | rfl
     ·exact ⟨u5 _ _ (u4 _ _ (u3 _ _ (u2 _ _ x1))),A1,A2,by lia⟩
     ·exact ⟨u5 _ _ (u4 _ _ (u3 _ _ x2)),A2,A1,by lia⟩
     ·exact ⟨u5 _ _ (u4 _ _ x3),A1,A1,by lia⟩
     ·exact ⟨u5 _ _ x4,A2,A2,by lia⟩
    rintro σ' H8 ⟨bu,bv,rfl,s8,aX,S0⟩;refine Gn (λσ' H'=>∃(sm:AD)(O:List (AD×Int×Int)),σ'=[some (.ref a),some (.int (st:Int)),some (.int hd),some (.int c),some (.int n),some (.ref rl),some (.ref nl),some (.int D),some (.int N),some (.int B),some (.ref sm),U,Y,aa]/\Same H7 H'/\H7 sm=none/\Smo H' sm O ts B) ?t2 ?g2
    case g2=>
     intro ax;refine xe rfl ⟨rfl,xe rfl ?_⟩;by_cases ae:D=0;rotate_left
     ·exact J1 (λz=>absurd (V.int.inj (Ybv z)) ae) (λ_=>ax _ _ ⟨bu,bv,rfl,s8,aX,S0 ae⟩)
     refine J1 (λ_=>?_) (λz=>absurd (Yau (by rw [ae])) z);refine ⟨GW,λw1 h1=>?_⟩;obtain ⟨Ha,L,u1,x1⟩:=nwU (o:=.tup [.int 0,.int 1]) h1;rw [L];refine ⟨GW,λw2 h2=>?_⟩;obtain ⟨Hb,L,u2,x2⟩:=nwU (o:=.tup [.int 1,.int 1]) h2;rw [L];refine ⟨GW,λsm an=>?_⟩;have u5:Same Hb (upd Hb sm (.lst [.ref w1,.ref w2])):=Same.new an;refine ax _ _ ⟨sm,[(w1,0,1),(w2,1,1)],rfl,s8.trans (u1.trans (u2.trans u5)),(s8.trans (u1.trans u2)).free an,Gb,λw hw=>?_,.inl rfl⟩;simp only [Yav,List.not_mem_nil,or_false] at hw;rcases hw with rfl | rfl
     ·exact ⟨u5 _ _ (u2 _ _ x1),.inl rfl,.inr (.inl rfl),(by show (1:Int)≠0;decide)⟩
     ·exact ⟨u5 _ _ x2,.inr (.inl rfl),.inr (.inl rfl),(by show (1:Int)≠0;decide)⟩
    clear S0 s8 aX;rintro σ' H8 ⟨sm,O,rfl,s8,bw,S⟩;obtain ⟨rn,bx⟩:=Int.eq_ofNat_of_zero_le aJ.1;refine xe rfl (xe rfl (xd rfl rfl ⟨c,50+rn,(by show [V.int c,V.int (50+B)]=_;rw [bx];rfl),by lia,λdr d0 d1=>?_⟩));dsimp only [Gv];have wl:(0:Int)<(O.length:Int)/\(0:Int)<(O.length:Int)-1/\(O.length:Int)-1<10:=by have:=S.n;lia
    refine xe rfl (xe rfl ⟨sm,xe rfl ⟨.inl (SqL.of S.e),xd rfl rfl ⟨(by show (0:Int)<((O.map λw=>V.ref w.1).length:Int);rw [Yac];exact wl.1),?_⟩⟩⟩);dsimp only [Gv];rw [Yac];have a0:0<=dr % (O.length:Int):=Ycm _ (by lia);have a1:dr % (O.length:Int)<(O.length:Int):=Ycn _ wl.1;generalize dr % (O.length:Int)=ai at a0 a1 ⊢;obtain ⟨t1,x1,y1,g1,e1,A1,B1,z1⟩:=S.get a0 a1;refine xe rfl ⟨.inl ⟨rfl,_,SqL.of (s8 _ _ am)⟩,xe rfl ⟨(by show 1<=sizeLine;decide),λp1 bz=>?_⟩⟩;obtain ⟨H9,L,u1,w1⟩:=nwU (o:=.tup [.int B]) bz;rw [L];refine xe rfl (xe rfl ⟨sm,_,xd rfl rfl ⟨SqL.of (u1 _ _ S.e),g1,p1,t1,xd rfl rfl ⟨SqT.of w1,SqT.of (u1 _ _ e1),by simp,(by show 3<=sizeLine;decide),(λz=>by cases z),λ_ p2 b2=>?_⟩⟩⟩);obtain ⟨af,L,u2,w2⟩:=nwU (o:=.tup ([.int B]++[.int x1,.int y1])) b2;have w2:af p2=some (.tup [.int B,.int x1,.int y1]):=w2;rw [L];have U2:=(s8.trans u1).trans u2;have a5:=U2 _ _ am;refine ⟨nl,xd rfl rfl ⟨a5,by lia,?_⟩⟩;dsimp only [JN];have aL:=GR (o:=.lst (xs++[.ref p2])) a5;have aM:upd af nl (.lst (xs++[.ref p2])) nl=some (.lst (xs++[.ref p2])):=Gb;have a6:=((tr.same U2).keep aL).snoc (aL _ _ w2);have aY:Same H (upd af nl (.lst (xs++[.ref p2]))):=(s7.trans U2).put a2;have ao:upd af nl (.lst (xs++[.ref p2])) rv=some (.lst (rs.reverse.map V.int)):=Gj (U2 _ _ a4) (Ne.symm aW);have ap:Smo (upd af nl (.lst (xs++[.ref p2]))) sm O ts B:=by
     have ay:=(S.same u1).same u2;exact ⟨Gj ay.e (Ne.symm (Gh am bw)),λw hw=>⟨aL _ _ (ay.w w hw).1,(ay.w w hw).2⟩,ay.n⟩
    generalize upd af nl (.lst (xs++[.ref p2]))=bI at aM a6 aY ao ap ⊢;have f0:0<=dr / 4 % ((O.length:Int)-1):=Ycm _ (by lia);have f1:dr / 4 % ((O.length:Int)-1)<(O.length:Int)-1:=Ycn _ wl.2.1;refine xe rfl (xd rfl rfl (xe rfl (xd rfl rfl ⟨⟨by decide,GN⟩,xe rfl ⟨sm,xe rfl ⟨.inl (SqL.of ap.e),xd rfl rfl (xd rfl rfl ⟨(by show (0:Int)<((O.map λw=>V.ref w.1).length:Int)-1;rw [Yac];exact wl.2.1),xd rfl rfl (xe rfl ⟨sm,xe rfl ⟨.inl (SqL.of ap.e),xd rfl rfl ⟨(by show (0:Int)<((O.map λw=>V.ref w.1).length:Int);rw [Yac];exact wl.1),?_⟩⟩⟩)⟩)⟩⟩⟩)));dsimp only [Gv];rw [Yac];have b0:0<=(ai+1+dr / 4 % ((O.length:Int)-1)) % (O.length:Int):=Ycm _ (by lia);have b1:(ai+1+dr / 4 % ((O.length:Int)-1)) % (O.length:Int)<(O.length:Int):=Ycn _ wl.1;generalize (ai+1+dr / 4 % ((O.length:Int)-1)) % (O.length:Int)=bi at b0 b1 ⊢;obtain ⟨t2,x2,y2,g2,e2,A2,B2,z2⟩:=ap.get b0 b1;refine xe rfl ⟨.inl ⟨rfl,_,SqL.of aM⟩,xe rfl ⟨(by show 1<=sizeLine;decide),λp3 b3=>?_⟩⟩;obtain ⟨bJ,L,u3,w3⟩:=nwU (o:=.tup [.int B]) b3;rw [L];refine xe rfl (xe rfl ⟨sm,_,xd rfl rfl ⟨SqL.of (u3 _ _ ap.e),g2,p3,t2,xd rfl rfl ⟨SqT.of w3,SqT.of (u3 _ _ e2),by simp,(by show 3<=sizeLine;decide),(λz=>by cases z),λ_ p4 b4=>?_⟩⟩⟩);obtain ⟨aq,L,u4,w4⟩:=nwU (o:=.tup ([.int B]++[.int x2,.int y2])) b4;have w4:aq p4=some (.tup [.int B,.int x2,.int y2]):=w4;rw [L];have U4:=u3.trans u4;have a7:=U4 _ _ aM;refine ⟨nl,xd rfl rfl ⟨a7,by rw [Yam,Ybc];lia,?_⟩⟩;dsimp only [JN];have aZ:=GR (o:=.lst (xs++[.ref p2]++[.ref p4])) a7;have az:upd aq nl (.lst (xs++[.ref p2]++[.ref p4])) nl=some (.lst (xs++[.ref p2]++[.ref p4])):=Gb;have a8:=((a6.same U4).keep aZ).snoc (aZ _ _ w4);have ba:Same H (upd aq nl (.lst (xs++[.ref p2]++[.ref p4]))):=(aY.trans U4).put a2;have as:upd aq nl (.lst (xs++[.ref p2]++[.ref p4])) rv=some (.lst (rs.reverse.map V.int)):=Gj (U4 _ _ ao) (Ne.symm aW);generalize upd aq nl (.lst (xs++[.ref p2]++[.ref p4]))=bK at az a8 ba as ⊢;have T1:=TabOk.snoc (r:=(B,x1,y1)) T aJ A1 B1;have T2:=TabOk.snoc (r:=(B,x2,y2)) T1 aJ (A2.app _) (B2.app _);have bb:(xs++[V.ref p2]++[V.ref p4]).length=2 * i+2:=by rw [Yam,Yam,Ybc,Ybc];lia
    refine xe rfl ⟨nl,xe rfl ⟨.inl (SqL.of az),xe rfl ⟨nl,xe rfl ⟨.inl (SqL.of az),xd rfl rfl ⟨_,xe rfl ?_⟩⟩⟩⟩⟩;rw [bb];have aN:(ts++[(B,x1,y1)]++[(B,x2,y2)]).length=2 * i+2:=by rw [Yam,Yam,Ybc,Ybc];lia
    have tk:rs.reverse.take (i+1)=rs.reverse.take i++[B]:=by rw [Ybx,hc];rfl
    refine ⟨_,_,_,_,_,_,_,_,xe rfl ⟨ba,as,az,a8,T2,λr hr=>?_,by rw [aN];lia,λr hr=>?_,.inr ⟨by lia,by rw [aN],by rw [aN]⟩⟩⟩
    ·rcases Yak.mp hr with h | h
     ·rcases Yak.mp h with h | h
      ·exact hz r h
      ·rw [Yaj.mp h];exact z1
     ·rw [Yaj.mp h];exact z2
    ·rw [tk];rcases Yak.mp hr with h | h
     ·rcases Yak.mp h with h | h
      ·exact Ydr _ (aI r h)
      ·rw [Yaj.mp h];exact Yby _ (by simp)
     ·rw [Yaj.mp h];exact Yby _ (by simp)
   ·rintro σ H7 ⟨D,N,xs,ts,v9,ac,U,Y,aa,rfl,s7,a4,am,tr,T,hz,aH,aI,aw⟩;rw [Yac,List.length_reverse] at aH aw;have h0:0<rs.length:=List.length_pos_iff.mpr av;obtain ⟨_,h1,h2⟩:=aw.resolve_left λz=>by lia
    exact hk _ _ ⟨D,N,xs,ts,v9,ac,U,Y,aa,rfl,s7,am,tr,T,hz,by lia,by lia,h1,h2⟩
  rintro σ' H6 ⟨D,N,xs,ts,v9,ac,U,Y,aa,rfl,s6,b5,tr,T,hz,aH,b9,ae,bL⟩;refine ⟨_,rfl,_,rfl,GW,λp hp=>⟨_,rfl,_,_,rfl,rfl,⟨by decide,GN⟩,_,_,rfl,rfl,(by show (0:Int)<2;decide),p,[.int D,.int N],hd / 11520 % 2,?_⟩⟩;have s7:Same H6 (upd H6 p (.lst [.int D,.int N])):=Same.new hp;have j0:0<=hd / 11520 % 2:=Ycm _ (by decide);have j1:hd / 11520 % 2<2:=Ycn _ (by decide);have j:hd / 11520 % 2=0\/hd / 11520 % 2=1:=by lia
  have fin:∀root:Int,2<=root->root<(ts.length:Int)+2->Zem [.int root,.ref nl] (upd H6 p (.lst [.int D,.int N])) Q (λ_ _ _=>False):=λroot h1 h2=>by
   have hk:(root-2).toNat<ts.length:=by lia
   have ar:At ts root (-1):=.inr (.inr ⟨ts[(root-2).toNat],⟨h1,Yaw hk⟩,by have:=(T _ _ (Yaw hk)).1.1;lia⟩);refine ⟨nl,root,xs,ts,rfl,s7 _ _ b5,tr.same s7,T,by lia,ar,λpt lt a0 ys us fs H8 s8 b6 b7 W R Fi nd bM Sd bc bN h0=>?_⟩;have S7:=s6.trans s7;refine q pt lt a0 ys us H8 (S7.trans s8) (S7.free b6) (S7.free b7) W (Sd.tab T bc) (Sd.at ar h0) (by lia) (Zbu T Sd bc hz) ?_;have:=(OP h0 (by lia)).1
   lia
  rcases j with h | h
  ·exact ⟨.int D,rfl,rfl,SqL.of Gb,by rw [h];exact Gr (j:=0) rfl,xe rfl (fin D (by lia) (by lia))⟩
  ·exact ⟨.int N,rfl,rfl,SqL.of Gb,by rw [h];exact Gr (j:=1) rfl,xe rfl (fin N (by lia) (by lia))⟩
noncomputable def ngp (ts:List Tri)(i:Nat):LI:=[0-(ts.getD i (0,0,0)).1,(i:Int)]
theorem Zdm (h:ts[i]?=some r):ngp ts i=[0-r.1,(i:Int)]:=by
 unfold ngp;rw [Yca,h]
 rfl
theorem ZcI {zs B:List (AD×LI)}(pm:B.Perm zs)(U:zs.map (·.2)=(List.range ts.length).map (ngp ts))(Y:(B.map (·.2)).Pairwise λa b=>GE b a=false) :
  Fall ts (B.map λz=>z.2.getD 1 0+2)/\∀z∈B,∃(i:Nat)(r:Tri),z.2=[0-r.1,(i:Int)]/\ts[i]?=some r:=by
 have A:∀z∈B,∃(i:Nat)(r:Tri),z.2=[0-r.1,(i:Int)]/\ts[i]?=some r:=λz L=>by
  have h1:z.2∈zs.map (·.2):=Yai.mpr ⟨z,pm.mem_iff.mp L,rfl⟩;rw [U] at h1;obtain ⟨i,hi,e⟩:=Yai.mp h1;have hi:=Ycc.mp hi;have O:ts[i]?=some ts[i]:=Yaw hi;exact ⟨i,ts[i],by rw [<-e,Zdm O],O⟩
 have N:∀z∈B,∃r,Nd ts (z.2.getD 1 0+2) r/\∃i:Nat,z.2=[0-r.1,(i:Int)]:=λz L=>by
  obtain ⟨i,r,e,O⟩:=A z L;refine ⟨r,?_,i,e⟩;rw [e];show Nd ts ((i:Int)+2) r;exact ⟨by lia,by rw [show ((i:Int)+2-2).toNat=i by lia];exact O⟩
 refine ⟨⟨λc r n=>?_,λc Z=>?_,?_,?_⟩,A⟩
 ·have hi:(c-2).toNat<ts.length:=(Yal.mp n.2).1;have h1:ngp ts (c-2).toNat∈zs.map (·.2):=by
   rw [U];exact Yai.mpr ⟨_,Ycc.mpr hi,rfl⟩
  obtain ⟨z,L,e⟩:=Yai.mp h1;refine Yai.mpr ⟨z,pm.mem_iff.mpr L,?_⟩;have e:z.2=ngp ts (c-2).toNat:=e;rw [e];show (((c-2).toNat:Nat):Int)+2=c;have:=n.1
  lia
 ·obtain ⟨z,L,rfl⟩:=Yai.mp Z;obtain ⟨r,n,_⟩:=N z L;exact ⟨r,n⟩
 ·rw [Ybp] at Y ⊢;refine Y.imp_of_mem λ{a b} ha hb D r q n m=>?_;obtain ⟨r1,n1,i,e1⟩:=N a ha;obtain ⟨r2,n2,j,e2⟩:=N b hb;rw [n.one n1,m.one n2];rw [e1,e2] at D;unfold GE at D;by_cases z:0-r2.1=0-r1.1
  ·lia
  ·rw [if_neg z] at D;have:=Yez D
   lia
 ·rw [Yac,pm.length_eq];have:=Ybg List.length U;rw [Yac,Yac,Ydg] at this
  lia
noncomputable def Zgw:Sp:=λvs H Q _=>∃(tp l pr:AD)(root:Int)(xs:List V)(ts:List Tri)(qs:LI)(k:Nat),vs=[.ref tp,.ref pr,.int (k:Int)]/\TabAt H tp l root xs ts/\TabOk ts/\At ts root (-1)/\ts.length<=900/\H pr=some (.lst (qs.map V.int))/\(∀r∈ts,r.1<(qs.length:Int))/\k<=100 /\
 ∀(a:AD)(zs:List PL)(H':Hp),Same H H'->Got H H' qs ts k root (.ref a) a zs->Q (.ref a) H'
theorem scLch:Go ["table", "prices", "many", "nodes", "rows", "k", "road", "low", "high", "more"] ["table", "prices", "many"] (Gf ZeI):=⟨rfl,rfl,rfl,by decide +kernel,rfl,by decide +kernel,by decide +kernel⟩
theorem Zgx (F:Fun K "_law_cheapest" "_law_cheapest" ZeI f fd)(ac:mg "sorted" = none)(aa:mg "range" = none)(ai:mg "len" = none):GG P w K mg base CX0 1 f fd ["table", "prices", "many"] Zgw:=by
 refine F.ok scLch (λvs H Q E h=>?_) (λaj A ay s H vs Q E hr h=>?_)
 ·obtain ⟨_,_,_,_,_,_,_,_,rfl,_⟩:=h
  rfl
 ·obtain ⟨tp,l,pr,root,xs,ts,qs,k,rfl,W,T,ar,aD,a1,a2,hk,q⟩:=h;have aE:=Ybd.symm;have ab:(A.deeper (PyProof.Rows.envOfC "_law_cheapest" (Gf ZeI) s.heap.objs.size f aj)).units+1<cLine:=by have:=hr.un;lia
  have ak:(A.deeper (PyProof.Rows.envOfC "_law_cheapest" (Gf ZeI) s.heap.objs.size f aj)).units+71<cLine:=by have:=hr.un;lia
  have a3:=W.t.len;refine ⟨_,Gc (gSt 3 scLch.nd (gIx (YT K) (pv 0) Gd))
    (@Gc _ _ _ _ _ (@Zv _ _ 4 _ _ _ _ scLch.nd rfl (Or.inl rfl) (@UR _ _ _ _ _ (Jk Gd (Gx Ge) (Jk Gd (Gx (Ga (GC (Ga Gd (Ga (Gx Ge) Ge))) Ge)) UQ)) rfl rfl (by decide) (by decide)) rfl (by first | exact .inl rfl | exact .inr rfl))
    (Gc (Js Ycg rfl (Om K (gB1 (Zed K) ac Yfa (Jz (own:=["k"]) rfl (gSc [("nodes", 3)]) (Jy rfl aa (Ga (gB1 (Ur K) ai Ybq (pv 3)) Ge)) (λ_ _ _ _=>gNm 0 (show List.Nodup (["k", "nodes"]:List Str) by decide +kernel)) (λ_ _ _ _=>GY) (λ_ _ _ _=>GC (Ga (Gm JZ Gd (gIx (YT K) (gIx (Of K) (pv 1) (pv 0)) Gd)) (Ga (pv 0) Ge)))))) (Xc K (n:=2) rfl (Gk (gNm 6 scLch.nd) (Gk (gNm 5 scLch.nd) G9)))
    (Gc (OC (gIx (Of K) (pv 3) (pv 5)) (Xc K (n:=3) rfl (Gk (gNm 6 scLch.nd) (Gk (gNm 7 scLch.nd) (Gk (gNm 8 scLch.nd) G9)))))
    (Gc (Ov (i:=9) scLch.nd rfl (Or.inl rfl) (own:=["price", "one"]) rfl (gSc [("prices", 1),("road", 6)]) (Om K (gDg ab (pv 4) (pv 8))) (λ_ _ _ _=>Xc K (n:=2) rfl (Gk (gNm 0 (show List.Nodup (["price", "one", "prices", "road"]:List Str) by decide +kernel)) (Gk (gNm 1 (show List.Nodup (["price", "one", "prices", "road"]:List Str) by decide +kernel)) G9))) (λ_ _ _ _=>GY) (λ_ _ _ _=>GC (Ga (Gm GT (pv 0) (gIx (Of K) (pv 2) (pv 3))) (Ga (Gm WC (Gx (Ga (pv 3) Ge)) (pv 1)) Ge))))
    (Gg (Ow ab (pv 4) (Gm GT (pv 5) Gd) (Jt (kSl K) (gB1 (Za9 K ak) ac Yfa (Gm WC (gDg ab (pv 4) (pv 7)) (pv 9))) JO (JW (pv 2))) rfl)))))
    (Gg (Gq (gDg ab (pv 4) (gIx (YT K) (pv 0) Gd)))))),?_⟩
  refine lT4 ?_;intro Z R4 R3 R2;refine xe rfl ⟨tp,_,xd rfl rfl ⟨SqT.of W.w,Gr (j:=1) rfl,?_⟩⟩;dsimp only [Gv];refine Gn (λσ' H'=>∃(d:AD)(kvs:List (Key×V)),σ'=[some (.ref tp),some (.ref pr),some (.int (k:Int)),some (.ref l),some (.ref d),none,none,none,none,none]/\Same H H'/\H d=none/\H' d=some (.dK kvs)/\DcOk (GotV H H' qs ts k) kvs []/\kvs.length<=2) ?s1 ?f1
  case f1=>
   exact λae=>Yy qs ts k λd kvs H' h1 h2 h3 h4 h5=>ae _ _ ⟨d,kvs,rfl,h1,h2,h3,h4,h5⟩
  rintro σ' H1 ⟨d,al,rfl,s1,hd,ed,D0,am⟩;refine xe rfl ⟨l,xs,rfl,.inl (SqL.of (s1 _ _ W.l)),xe rfl ⟨by lia,by lia,λD hD=>?_⟩⟩;rw [Ydf]
  let Pv:CI:=λj ys H2=>Same H1 H2/\H2 D=some (.lst ys)/\∃zs:List (AD×LI),ys=zs.map (λz=>V.ref z.1)/\zs.length=j/\zs.map (·.2)=(List.range j).map (ngp ts)/\∀z∈zs,H2 z.1=some (.tup (z.2.map V.int))
  refine Od (lo:=0) (n:=xs.length) Pv
   ⟨Same.new hD,Gb,[],rfl,rfl,rfl,λz L=>by cases L⟩ ?_ ?_
  ·rintro j ys H2 hj ⟨s2,eD,zs,rfl,an,N,tz⟩;rw [show (0:Int)+(j:Int)=(j:Int) by lia];have ao:j<ts.length:=by lia
   obtain ⟨t,af,ag⟩:=((W.t.same s1).same s2).at (Yaw ao);refine ⟨⟨rfl,trivial⟩,?_⟩;unfold XN;refine JX ?_;refine xe rfl (xe rfl ⟨l,_,xd rfl rfl ⟨SqL.of (s2 _ _ (s1 _ _ W.l)),Gr af,t,_,xd rfl rfl ⟨SqT.of ag,Gr (j:=0) rfl,xd rfl rfl (xe rfl ⟨GW,λp hp=>?_⟩)⟩⟩⟩);have s3:Same H2 (upd H2 p (.tup [.int (0-ts[j].1),.int (j:Int)])):=Same.new hp;have e3:upd H2 p (.tup [.int (0-ts[j].1),.int (j:Int)]) p=some (.tup ((ngp ts j).map V.int)):=by rw [Gb,Zdm (Yaw ao)];rfl
   generalize upd H2 p (.tup [.int (0-ts[j].1),.int (j:Int)])=H3 at s3 e3 ⊢;have ap:=s3 _ _ eD;have k4:=GR (o:=.lst ((zs.map λz=>V.ref z.1)++[.ref p])) ap;refine ⟨ap,by rw [Yac];lia,(s2.trans s3).put hD,Gb,zs++[(p,ngp ts j)],by rw [Yao];rfl,by rw [Yam,Ybc,an],by rw [List.range_succ,Yao,Yao,N];rfl,λz L=>?_⟩;rcases Yak.mp L with L | L
   ·exact k4 _ _ (s3 _ _ (tz z L))
   ·rw [Yaj.mp L];exact k4 _ _ e3
  ·rintro ys H2 ⟨s2,eD,zs,rfl,an,N,tz⟩;rw [a3] at N;refine ⟨D,zs,rfl,SqL.of eD,λz L=>⟨SqT.of (tz z L),λe=>?_⟩,λb B hb pm so=>?_⟩
   ·have h1:z.2∈zs.map (·.2):=Yai.mpr ⟨z,L,rfl⟩;rw [N] at h1;obtain ⟨i,_,e1⟩:=Yai.mp h1;rw [e] at e1;cases e1
   obtain ⟨fa,az⟩:=ZcI pm N so;obtain ⟨O,q_,s3,eb⟩:=nwU (o:=.lst (B.map λz=>V.ref z.1)) hb;rw [q_];have S3:=s2.trans s3;have ah:=S3 _ _ ed;have aq:=S3 _ _ (s1 _ _ W.l);have ad:=S3 _ _ (s1 _ _ a1);have a4:=(W.t.same s1).same S3;have D2:DcOk (GotV H O qs ts k) al []:=D0.mono λc v g=>g.kp (λb ys e=>S3 _ _ e) (λb ys e=>S3 _ _ e);have nl:∀{b:AD}{ys:List V},O b=some (.lst ys)->b≠d:=λe z=>by rw [z,ah] at e;cases e
   have nt:∀{b:AD}{ys:List V},O b=some (.tup ys)->b≠d:=λe z=>by rw [z,ah] at e;cases e
   have as:∀z∈B,O z.1=some (.tup (z.2.map V.int)):=λz L=>s3 _ _ (tz z (pm.mem_iff.mp L));refine ⟨b,rfl,⟨_,SqL.of eb⟩,?_⟩
   let Pv:FI:=λi σ H'=>∃(kvs:List (Key×V))(v5 v6 v7 v8 v9:Option V),σ=[some (.ref tp),some (.ref pr),some (.int (k:Int)),some (.ref l),some (.ref d),v5,v6,v7,v8,v9]/\(∀b o,b≠d->O b=some o->H' b=some o)/\H' d=some (.dK kvs)/\DcOk (GotV H H' qs ts k) kvs ((B.map λz=>z.2.getD 1 0+2).take i)/\kvs.length<=2+i
   refine JV (K:=K) (a:=b) (xs:=B.map λz=>V.ref z.1) Pv
    ⟨al,none,none,none,none,none,rfl,λ_ _ _ e=>e,ah,by rw [List.take_zero];exact D2,am⟩ (by rintro i σ H' _ ⟨_,_,_,_,_,_,_,kq,_⟩;exact SqL.of (kq _ _ (nl eb) eb)) ?_ ?_
   ·rintro i x σ H3 au ⟨kvs,v5,v6,v7,v8,v9,rfl,k3,U,Dc,a5⟩;rw [Yay] at au;obtain ⟨z,L,rfl⟩:=Ybt.mp au;have Y:z∈B:=Yaz L;have hi:i<B.length:=(Yal.mp L).1;obtain ⟨kk,r,e2,av⟩:=az z Y;have hc:(B.map λz=>z.2.getD 1 0+2)[i]?=some ((kk:Int)+2):=by
     rw [Yay,L];show some (z.2.getD 1 0+2)=_;rw [e2]
     rfl
    have n:Nd ts ((kk:Int)+2) r:=⟨by lia,by rw [show ((kk:Int)+2-2).toNat=kk by lia];exact av⟩;have ez:=k3 _ _ (nt (as z Y)) (as z Y);rw [e2] at ez;obtain ⟨t,af,ag⟩:=(a4.keep λp ys e=>k3 _ _ (nt e) e).at av;obtain ⟨v0,g0,l0,z0,G0⟩:=Dc.get fa hc n (T.nd n).2.1;obtain ⟨v1,g1,l1,z1,G1⟩:=Dc.get fa hc n (T.nd n).2.2;have a6:=G0.v;have a7:=G1.v;subst a6 a7;have aF:B.length<=900:=by have:=fa.ln;rw [Yac] at this;lia
    have aG:=(T.nd n).1;have a8:=a2 r (Yaz n.2);have aw:H3 pr=some (.lst (qs.map V.int)):=k3 _ _ (nl ad) ad;refine ⟨z.1,xe rfl ⟨SqT.of ez,rfl,_,xe rfl (xd rfl rfl ?_)⟩⟩;refine xe rfl (xe rfl ⟨l,_,xd rfl rfl ⟨SqL.of (k3 _ _ (nl aq) aq),Gr af,t,xe rfl ⟨SqT.of ag,rfl,_,xe rfl ⟨_,xe rfl (xd rfl rfl ?_)⟩⟩⟩⟩);dsimp only;refine Gn (λσ' H'=>∃(cl:AD)(zc:List PL),σ'=[some (.ref tp),some (.ref pr),some (.int (k:Int)),some (.ref l),some (.ref d),some (.int (kk:Int)),some (.int r.1),some (.int r.2.1),some (.int r.2.2),some (.ref cl)]/\Same H3 H'/\H' cl=some (.lst (RP zc))/\PLs H' zc/\(∀z∈zc,H3 z.1=none/\H3 z.2.1=none)/\vP zc=(vP z1).map (Xd qs r.1)) ?s2 ?f2
    case f2=>
     intro ae;refine xe rfl (xe rfl ⟨d,xe rfl ⟨g1▸DGet.k (k:=.inl r.2.2) U,l1,rfl,⟨_,SqL.of G1.e⟩,λD' hD=>?_⟩⟩);exact chosen T n a8 G1 aw hD λzc H' h1 h2 h3 h4 h5=>ae _ _ ⟨D',zc,rfl,h1,h2,h3,h4,h5⟩
    rintro σ' H4 ⟨cl,zc,rfl,s4,a9,pc,nc,ec⟩;have aA:∀{b:AD},H3 b=none->H b=none:=λ{b} e=>by
     cases eb:H b with
     | none=>rfl
     | some o=>
      have h1:=S3 _ _ (s1 _ _ eb);rw [k3 _ _ (λz=>by rw [z,hd] at eb;cases eb) h1] at e;cases e
    refine W9 T n hk G0 G1 s4 a9 pc nc ec (s4 _ _ U) g0 aA rfl rfl rfl rfl λaB aH H7 S7 G=>?_;have ax:=S7 _ _ U;refine xe rfl (xe rfl (xd rfl rfl ⟨d,xe rfl ⟨DPut.k (k:=.inl ((kk:Int)+2)) ax (by lia),?_⟩⟩));have aC:=GM kvs (Sum.inl ((kk:Int)+2):Key) (.ref aB);refine ⟨_,_,_,_,_,xe rfl ⟨λb o hb e=>Gj (S7 _ _ (k3 b o hb e)) hb,Gb,Zdl Dc S7 ax hc n.1 G,Ybr aC (by lia)⟩⟩
   ·rintro σ H3 ⟨kvs,v5,v6,v7,v8,v9,rfl,k3,U,Dc,a5⟩;rw [Yac,<-Yac (f:=λz:AD×LI=>z.2.getD 1 0+2),Ybu] at Dc;have SH:Same H H3:=λb o e=>k3 b o (λz=>by rw [z,hd] at e;cases e) (S3 _ _ (s1 _ _ e));obtain ⟨v,g,a,zf,G⟩:=Dc.fin fa ar;have hv:=G.v;subst hv;exact xe rfl (xe rfl ⟨tp,_,xd rfl rfl ⟨SqT.of (SH _ _ W.w),Gr (j:=0) rfl,d,xe rfl ⟨g▸DGet.k (k:=.inl root) U,q a zf H3 SH G⟩⟩⟩)
noncomputable def MinC (qs:LI)(ts:List Tri)(c m:Int):Prop:=(∃s,Has ts c s/\cst qs s=m)/\∀s,Has ts c s->m<=cst qs s
theorem MinC.one (h:MinC qs ts c m)(h':MinC qs ts c j):m=j:=by
 obtain ⟨⟨s,a,b⟩,k⟩:=h;obtain ⟨⟨s',q,D⟩,B⟩:=h';have:=k s' q;have:=B s a
 lia
theorem Zbv {ts:List Tri}(T:TabOk ts)(hz:∀r∈ts,r.2.2≠0):∀(m:Nat){c lo:Int},At ts c lo->c≠0->30-lo<=(m:Int)->∃s,Has ts c s
 | 0,c,lo,a,h0,hm=>by
  rcases a with rfl | rfl | ⟨r,n,g⟩
  ·exact absurd rfl h0
  ·exact ⟨[],.one⟩
  ·have:=(T.nd n).1
   lia
 | m+1,c,lo,a,h0,hm=>by
  rcases a with rfl | rfl | ⟨r,n,g⟩
  ·exact absurd rfl h0
  ·exact ⟨[],.one⟩
  ·obtain ⟨s,j⟩:=Zbv T hz m (T.nd n).2.2 (hz r (Yaz n.2)) (by lia);exact ⟨r.1::s,.high n j⟩
theorem Yz (B:Best qs (Has ts c) 1 l)(h:∃s,Has ts c s):∃x,l=[x]/\Has ts c x.2/\x.1=cst qs x.2/\MinC qs ts c x.1:=by
 obtain ⟨s,j⟩:=h;have q:l.length=1:=by
  have:=B.le;rcases B.all s j with h | h
  ·have:=List.length_pos_of_mem h
   lia
  ·exact h.1
 obtain ⟨x,rfl⟩:=List.length_eq_one_iff.mp q;obtain ⟨h1,h2⟩:=B.of x (Yaj.mpr rfl);refine ⟨x,rfl,h1,h2,⟨x.2,h1,h2.symm⟩,λt D=>?_⟩;rcases B.all t D with h | ⟨_,h⟩
 ·rw [<-Yaj.mp h];exact Int.le_refl _
 ·rcases plt_iff.mp (h x (Yaj.mpr rfl)) with h | h
  ·exact Int.le_of_lt h
  ·exact Int.le_of_eq h.1
theorem Zey (qs:LI)(ts:List Tri):MinC qs ts 1 0:=⟨⟨[],.one,rfl⟩,λs j=>by rw [Has.at1.mp j];exact Int.le_refl _⟩
theorem Zgy (T:TabOk ts)(h:Has ts c s):∀x∈s,0<=x/\x<30:=by
 induction h with
 | one=>exact λx j=>by cases j
 | low _ _ ih=>exact ih
 | high n _ ih=>
  intro x j;rcases Yav.mp j with rfl | j
  ·exact (T.nd n).1
  ·exact ih x j
structure Papr (qs:LI)(ts:List Tri)(ps:LI):Prop where
 len:ps.length=ts.length
 mn:∀i,i<ts.length->MinC qs ts ((i:Int)+2) (ps.getD i 0)
theorem Papr.shn {qs:LI}{ts:List Tri}{ps:LI}(h:Papr qs ts ps){c:Int}(h0:1<=c)(h1:c<(ts.length:Int)+2):MinC qs ts c (shn ps c):=by
 unfold M.shn;by_cases j:c<2
 ·rw [if_pos j,show c=1 by lia];exact Zey qs ts
 ·rw [if_neg j];have:=h.mn (c-2).toNat (by lia)
  rwa [show (((c-2).toNat:Nat):Int)+2=c by lia] at this
theorem YA (T:TabOk ts)(hz:∀r∈ts,r.2.2≠0)(h:Papr qs ts ps)(h0:root≠0)(O:At ts root (-1))(U:MinC qs ts root j)(q:Int):Jr ts root qs ps q=decide (q=j):=by
 have Y:=O.lt;have Z:shn ps root=j:=(h.shn (by lia) Y.2).one U;have all:((List.range ts.length).all λi=>GX ps qs i (ts.getD i (0,0,0)))=true:=List.all_eq_true.mpr λi hi=>by
  have hi:=Ycc.mp hi;have er:ts.getD i (0,0,0)=ts[i]:=by rw [Yca,Yaw hi];rfl
  have n:Nd ts ((i:Int)+2) ts[i]:=⟨by lia,by rw [show ((i:Int)+2-2).toNat=i by lia];exact Yaw hi⟩;obtain ⟨_,a1,a2⟩:=T.nd n;have b1:=a1.lt;have b2:=a2.lt;have hh:=hz _ (List.getElem_mem hi);have N:=h.mn i hi;obtain ⟨⟨s2,B,D⟩,_⟩:=h.shn (c:=ts[i].2.2) (by lia) b2.2;have l2:=N.2 _ (Has.high n B);rw [UE,D] at l2;rw [er];unfold GX;rw [Yau (p:=ps.getD i 0<=qs.getD ts[i].1.toNat 0+shn ps ts[i].2.2) (by lia),Bool.and_true];by_cases c0:ts[i].2.1=0
  ·simp [c0]
  ·obtain ⟨⟨s1,B,D⟩,_⟩:=h.shn (c:=ts[i].2.1) (by lia) b1.2;have l1:=N.2 _ (Has.low n B);rw [D] at l1;rw [Ybl (p:=shn ps ts[i].2.1<ps.getD i 0) (by lia),Bool.and_false]
   rfl
 unfold Jr;rw [all,Ybl h0,Yau h.len,Z];by_cases L:q=j
 ·simp [L]
 ·have:¬ j=q:=λz=>L z.symm;simp [L,this]
noncomputable def Zez (j tb:AD):Sp:=λvs H Q E=>∃(tp l pr:AD)(root:Int)(xs:List V)(ts:List Tri)(qs:LI),vs=[.ref tp,.ref pr]/\TabAt H tp l root xs ts/\TabOk ts/\ts.length<=900/\H pr=some (.lst (qs.map V.int))/\(∀r∈ts,r.1<(qs.length:Int))/\(∀r∈ts,r.2.2≠0)/\LS tb H /\
 (root≠0->∀(a:AD)(ps:LI)(H':Hp),SameL tb H H'->LS tb H'->H a=none->H' a=some (.lst (ps.map V.int))->Papr qs ts ps->Q (.ref a) H')/\(root=0->E (.ref j) none H)
theorem scPpa:Go ["table", "prices", "root", "nodes", "cheapest"] ["table", "prices"] (Gf ZeE):=⟨rfl,rfl,rfl,by decide +kernel,rfl,by decide +kernel,by decide +kernel⟩
theorem Zgz (F:Fun K "price_paper" "price_paper" ZeE f fd)(ab:Fun K "cheapest_below" "cheapest_below" ZeD N q)(ad:Binds K q ["nodes", "prices", "k"] [])(ae:mg "cheapest_below" = some (.ref N))(af:GG P w K mg base CX0 2 N q ["nodes", "prices", "k"] (Zgq tb))(ag:mg "NoWay" = some (.ref nw))(ah:ExcC K nw)(B:mg "range" = none)(Y:mg "len" = none) :
  GG P w K mg base (CXr P w) 3 f fd ["table", "prices"] (Zez nw tb):=by
 refine F.okR scPpa (λvs H Q E h=>?_) (λai A aj s H vs Q E hr h=>?_)
 ·obtain ⟨_,_,_,_,_,_,_,rfl,_⟩:=h
  rfl
 ·obtain ⟨tp,l,pr,root,xs,ts,qs,rfl,W,T,ak,al,am,hz,st,q1,q0⟩:=h;have ar:=Ybd.symm;have an:(A.deeper (PyProof.Rows.envOfC "price_paper" (Gf ZeE) s.heap.objs.size f ai)).units+1<cLine:=by have:=hr.un;lia
  have as:=W.t.len;refine ⟨_,Gc (OC (pv 0) (Xc K (n:=2) rfl (Gk (gNm 2 scPpa.nd) (Gk (gNm 3 scPpa.nd) G9))))
    (Gc (GS (gCm Ou (pv 2) Gd) (Gg (XS (E:=E) rfl Ui rfl ag ah (Ga ZcM Ge))) Gp)
    (Gc (gSt 4 scPpa.nd (gCa af ae ab.kp ad GH (Ga (pv 3) (Ga (pv 1) (Ga Gd Ge)))))
    (Gg (Gq (Jz (own:=["number"]) rfl (gSc [("cheapest", 4)]) (Wt rfl B (Ga Gd (Ga (Gm GT (gB1 (Ur K) Y Ybq (pv 3)) Gd) Ge))) (λ_ _ _ _=>gNm 0 (show List.Nodup (["number", "cheapest"]:List Str) by decide +kernel)) (λ_ _ _ _=>GY) (λ_ _ _ _=>gIx (YT K) (gIx (Of K) (gDg an (pv 1) (pv 0)) Gd) Gd)))))),?_⟩
  refine lT4 ?_;intro Z R4 R3 R2;refine ⟨_,rfl,tp,_,rfl,SqT.of W.w,rfl,_,_,rfl,_,_,rfl,rfl,?_⟩;refine ⟨_,rfl,rfl,_,rfl,?_⟩;by_cases c0:root=0
  ·refine J1 (λ_=>?_) (λz=>absurd (Yau (by rw [c0])) z);exact ⟨Zbt,q0 c0⟩
  refine J1 (λz=>absurd (V.int.inj (Ybv z)) c0) (λ_=>?_);dsimp only [JN];obtain ⟨au,eP⟩:=st.tbl;refine ⟨_,rfl,_,rfl,l,pr,xs,ts,qs,1,rfl,W.l,W.t,T,ak,al,am,by decide,st,λd kvs os H1 sl aa ed D fa=>?_⟩;have ao:H1 l=some (.lst xs):=sl.lst eP W.l;dsimp only [Gv];refine ⟨_,rfl,l,xs,rfl,.inl (SqL.of ao),_,_,rfl,rfl,_,_,rfl,⟨by decide,by decide,by lia,by lia⟩,λD' hD=>?_⟩;rw [show ((xs.length:Int)+2-2).toNat=ts.length by lia];have ap:H D'=none:=sl.free eP ⟨_,(aa.tbl).choose_spec⟩ hD
  let Pv:CI:=λj ys H'=>∃ps:LI,ys=ps.map V.int/\Same H1 H'/\H' D'=some (.lst ys)/\ps.length=j/\∀i,i<j->MinC qs ts ((i:Int)+2) (ps.getD i 0)
  refine Od (lo:=2) (n:=ts.length) Pv ⟨[],rfl,Same.new hD,Gb,rfl,λi hi=>absurd hi (Yda _)⟩ ?_ ?_
  ·rintro j ys H2 hj ⟨ps,rfl,O,eD,L,U⟩;have hN:Nd ts (2+(j:Int)) ts[j]:=⟨by lia,by rw [show (2+(j:Int)-2).toNat=j by lia];exact Yaw hj⟩;have ac:At ts (2+(j:Int)) (-1):=.inr (.inr ⟨ts[j],hN,by have:=(T.nd hN).1.1;lia⟩);obtain ⟨v,g,lc,zc,G⟩:=D.fin fa ac;have hv:=G.v;subst hv;obtain ⟨x,ex,av,aw,aq⟩:=Yz (G.best (Yae _)) (Zbv T hz 31 ac (by lia) (by decide));obtain ⟨z,rfl⟩:∃z,zc=[z]:=by
    have:=Ybg List.length ex;rw [Yac] at this;exact List.length_eq_one_iff.mp this
   have ez:z.2.2=x:=by simpa using ex
   subst ez;obtain ⟨p1,p2⟩:=G.pl z (Yaj.mpr rfl);refine ⟨by first | exact ⟨rfl,rfl,trivial⟩ | exact ⟨rfl,trivial⟩,?_⟩;unfold XN;refine JX ?_;refine ⟨_,rfl,_,rfl,d,_,rfl,g▸DGet.k (k:=.inl (2+(j:Int))) (O _ _ ed),lc,_,_,_,rfl,rfl,SqL.of (O _ _ G.e),Gr (j:=0) rfl,z.1,_,_,_,rfl,rfl,SqT.of (O _ _ p1),Gr (j:=0) rfl,?_⟩;refine ⟨eD,by rw [Yac];lia,ps++[z.2.2.1],by rw [Yao];rfl,O.put hD,Gb,by rw [Yam,Ybc,L],λi hi=>?_⟩;by_cases e:i=j
   ·subst e;rw [show (ps++[z.2.2.1]).getD i 0=z.2.2.1 by rw [Yca,Ydv (by lia),L];simp];rw [Int.add_comm];exact aq
   ·rw [show (ps++[z.2.2.1]).getD i 0=ps.getD i 0 by rw [Yca,Ycx (by lia),Yca]];exact U i (by lia)
  ·rintro ys H2 ⟨ps,rfl,O,eD,L,U⟩;exact q1 c0 D' ps H2 (sl.trans (.of O)) (aa.same O) ap eD ⟨L,U⟩
noncomputable def ZgA:Sp:=λvs H Q _=>∃(a pr:AD)(s qs:LI),vs=[.ref a,.ref pr]/\H a=some (.lst (s.map V.int))/\H pr=some (.lst (qs.map V.int))/\(∀x∈s,0<=x/\x<(qs.length:Int))/\s.length<=1000/\∀H',Same H H'->Q (.int (cst qs s)) H'
theorem ZhS:Go ["roads", "prices"] ["roads", "prices"] (Gf ZgY):=⟨rfl,rfl,rfl,by decide +kernel,rfl,by decide +kernel,by decide +kernel⟩
theorem ZgB (F:Fun K "_law_sum" "_law_sum" ZgY f fd)(B:mg "sum" = none):GG P w K mg base CX0 1 f fd ["roads", "prices"] ZgA:=by
 refine F.ok ZhS (λvs H Q E h=>?_) (λaa A O s H vs Q E hr h=>?_)
 ·obtain ⟨_,_,_,_,rfl,_⟩:=h
  rfl
 ·obtain ⟨a,pr,ss,qs,rfl,ea,U,rg,hl,q⟩:=h;have ab:=Ybd.symm;refine ⟨_,Gg (Gq (gB1 (ZhE K rfl) B PyProof.Rows.boot_sum (Jz (own:=["road"]) rfl (gSc [("prices", 1)]) (Om K (pv 0)) (λ_ _ _ _=>gNm 0 (show List.Nodup (["road", "prices"]:List Str) by decide +kernel)) (λ_ _ _ _=>GY) (λ_ _ _ _=>gIx (Of K) (pv 1) (pv 0))))),?_⟩;refine ⟨_,rfl,a,rfl,⟨_,SqL.of ea⟩,λD hD=>?_⟩
  let Pv:CI:=λj ys H'=>ys=(((ss.take j).map λr=>qs.getD r.toNat 0)).map V.int/\Same H H'/\H' D=some (.lst ys)
  refine Jo (K:=K) (a:=a) (xs:=ss.map V.int) Pv ⟨rfl,Same.new hD,Gb⟩ (by rintro j ys H' _ ⟨_,s,_⟩;exact SqL.of (s _ _ ea)) ?_ ?_
  ·rintro j y ys H2 Y ⟨rfl,L,N⟩;obtain ⟨n,rfl,Z⟩:=JK Y;have hj:=(Yal.mp Z).1;obtain ⟨r0,r1⟩:=rg n (Yaz Z);refine ⟨by first | exact ⟨rfl,trivial⟩ | simp [JJ,JI],?_⟩;unfold XN;refine JX ?_;refine ⟨_,rfl,_,rfl,pr,_,_,_,rfl,rfl,SqL.of (L _ _ U),Oa r0 r1,N,by rw [Yac,Yac,Ybn];lia,?_,L.put hD,Gb⟩;rw [Ybx,Z,Yao,Yao]
   rfl
  ·rintro ys H2 ⟨rfl,L,N⟩;rw [Yac,Ybu] at N;exact ⟨D,_,rfl,SqL.of N,q H2 L⟩
noncomputable def ZgC:Sp:=λvs H Q _=>∃n:Int,vs=[.int n]/\Q (.bl true) H
theorem ZhT:Go ["found"] ["found"] (Gf Zg3):=⟨rfl,rfl,rfl,by decide +kernel,rfl,by decide +kernel,by decide +kernel⟩
theorem ZgD (F:Fun K "_law_whole" "_law_whole" Zg3 f fd)(L:W.kitOne K (.type "int") (.type "bool")=some false)(j:mg "isinstance" = none)(D:mg "int" = none)(B:mg "bool" = none):GG P w K mg base CX0 1 f fd ["found"] ZgC:=by
 refine F.ok ZhT (λvs H Q E h=>?_) (λO A N s H vs Q E U h=>?_)
 ·obtain ⟨_,rfl,_⟩:=h
  rfl
 ·obtain ⟨n,rfl,q⟩:=h;refine ⟨_,Gg (Gq (ZcO (Jb (ZbB K) rfl j Jj (Ga (pv 0) (Ga (UO D XU) Ge))) (ZcN (ZeO (Jb (ZbB K) rfl j Jj (Ga (pv 0) (Ga (UO B Z2) Ge))))))),?_⟩;refine ⟨_,rfl,_,_,true,rfl,⟨_,rfl,JX ?_⟩,.inl ⟨_,.int _,rfl,Oe⟩⟩;exact ⟨_,rfl,_,_,false,rfl,⟨_,rfl,q⟩,.inl ⟨_,.int _,rfl,L⟩⟩
end
theorem LamSt.keepN (h:LamSt P j col qual H)(k:∀b o,(∀xs,o≠HO.lst xs)->H b=some o->H' b=some o):LamSt P j col qual H':=by
 rcases h with h | ⟨c,h1,q,h2,B⟩
 ·exact .inl (k _ _ (λxs z=>by cases z) h)
 ·exact .inr ⟨c,k _ _ (λxs z=>by cases z) h1,q,k _ _ (λxs z=>by cases z) h2,B⟩
theorem LamSt.other (h:LamSt P j col qual H)(sl:SameL q H H')(e:H q=some (.tbl ps))(n:P≠q):LamSt P j col qual H':=by
 rcases h with h | ⟨c,h1,B,h2,D⟩
 ·exact .inl (sl _ _ n h)
 ·exact .inr ⟨c,sl _ _ n h1,B,sl _ _ (λz=>by rw [z,e] at h2;cases h2) h2,D⟩
structure Env2 (tD tF:AD)(H:Hp):Prop where
 ld:LD tD H
 ls:LS tF H
 ne:tD≠tF
structure Kp (K:FG)(H H':Hp):Prop where
 lst:∀a xs,H a=some (.lst xs)->H' a=some (.lst xs)
 tup:∀a xs,H a=some (.tup xs)->H' a=some (.tup xs)
 sq:∀a xs,SqL K H a xs->SqL K H' a xs
section
variable {K:FG}{H H' H'':Hp}{tD tF:AD}
theorem Kp.of (sl:SameL P H H')(e:H P=some (.tbl ps)):Kp K H H':=by
 refine ⟨λa xs h=>sl.lst e h,λa xs h=>sl.tup e h,λa xs h=>?_⟩;rcases h with (h | ⟨o,h⟩) | h
 ·exact .inl (.inl (sl.lst e h))
 ·exact .inl (.inr ⟨o,sl _ _ (λz=>by rw [z,e] at h;cases h) h⟩)
 ·exact .inr h
theorem Env2.same (E:Env2 tD tF H)(s:Same H H'):Env2 tD tF H':=⟨E.ld.same s,E.ls.same s,E.ne⟩
theorem Env2.stepD (E:Env2 tD tF H)(sl:SameL tD H H')(j:LD tD H'):Env2 tD tF H'/\Kp K H H':=by
 obtain ⟨ps,e⟩:=E.ld.tbl;exact ⟨⟨j,LamSt.other E.ls sl e (Ne.symm E.ne),E.ne⟩,Kp.of sl e⟩
theorem Env2.stepF (E:Env2 tD tF H)(sl:SameL tF H H')(j:LS tF H'):Env2 tD tF H'/\Kp K H H':=by
 obtain ⟨ps,e⟩:=E.ls.tbl;exact ⟨⟨LamSt.other E.ld sl e E.ne,j,E.ne⟩,Kp.of sl e⟩
theorem TabAt.kp {tp l:AD}(W:TabAt H tp l root xs ts)(k:Kp K H H'):TabAt H' tp l root xs ts:=⟨k.tup _ _ W.w,k.lst _ _ W.l,W.t.keep k.tup⟩
theorem Lz.kp (h:Lz H zs)(k:Kp K H H'):Lz H' zs:=λz j=>k.lst _ _ (h z j)
end
theorem ZcJ (F:Fam):ndB F=Uo (pfF F):=by
 unfold ndB Uo;cases pfF F <;> rfl
theorem Zbw {zs:List (AD×LI)}(rs:∀z∈zs,RS z.2)(L:Lx (zs.map (·.2)))(Y:lF (zs.map (·.2))<=600):FamOk (zs.map (·.2))/\∃U Un:List Fam,(∀k,Rc pfF (zs.map (·.2)) k->k∈U)/\(∀k,Rc pfF (zs.map (·.2)) k->Uo (pfF k)=true->k∈Un)/\U.length<=10000/\Un.length<=600:=by
 have j:∀s∈zs.map (·.2),RS s:=λs q=>by
  obtain ⟨z,N,rfl⟩:=Yai.mp q;exact rs z N
 have B:FamOk (zs.map (·.2)):=⟨L.imp (λ{a b} z e=>by rw [e,Jg] at z;cases z),λs q=>(j s q).up,λs q=>(j s q).rg⟩;have Z:=nodes_le B;have n2:=XC (wF (zs.map (·.2))) (zs.map (·.2));exact ⟨B,Up (wF (zs.map (·.2))) (zs.map (·.2)),(Up (wF (zs.map (·.2))) (zs.map (·.2))).filter ndB,λk D=>Zdh B D,λk D O=>Yci.mpr ⟨Zdh B D,by rw [ZcJ];exact O⟩,by lia,by lia⟩
theorem Zbx (j:FamOk F):Abv pfF F (-1):=λr a b e=>by
 have:=((Wn j).nd _ _ _ _ .start e).1.1
 lia
theorem TabOk.rg (T:TabOk ts){m:Nat}(B:30<=m):∀r∈ts,(0<=r.1/\r.1<(m:Int))/\(0<=r.2.1/\r.2.1<(ts.length:Int)+2)/\(0<=r.2.2/\r.2.2<(ts.length:Int)+2):=λr j=>by
 obtain ⟨i,hi,rfl⟩:=Yck j;obtain ⟨h1,h2,q⟩:=T i _ (Yaw hi);exact ⟨⟨h1.1,by lia⟩,h2.lt,q.lt⟩
structure ClsN (K:FG)(mg:Str->Option Aa)(no way a1 a2:AD):Prop where
 k:ZgM K no
 mno:mg "NoWay" = some (.ref no)
 mway:mg "WayError" = some (.ref way)
 m1:mg "NoNumber" = some (.ref a1)
 m2:mg "TooMany" = some (.ref a2)
 wbe:W.subIn K (.ref way) (.type "BaseException")=some true
 cw:W.kitOne K (.ref no) (.ref way)=some true
 ne:no≠way
 f1:W.kitOne K (.ref no) (.ref a1)=some false
 f2:W.kitOne K (.ref no) (.ref a2)=some false
 ve:W.kitOne K (.ref no) (.type "ValueError")=some true
 vee:mg "ValueError" = none
theorem ClsN.cls (T:ClsN K mg q j B D):W.kitCls K (.ref q) (.ref j)=some true:=by
 have h:=T.cw;unfold W.kitOne at h;rw [if_neg (by simpa using T.ne)] at h;exact h
theorem Zby :OpR X (compareOp .IsNot) (λx y H Q=>∃a b,x=.bl a/\y=.bl b/\Q (.bl (a != b)) H):=by
 intro qQ s σ H x y v u Q I j B h;obtain ⟨a,b,rfl,rfl,q⟩:=h;cases j;cases B;exact PyProof.Rows.isnot_bool (Gw I q rfl)
section
variable {P:PP}{w:Ab}{K:FG}{mg:Str->Option Aa}{base:Heap}
noncomputable def ZgE (tb:AD):Sp:=λvs H Q _=>∃(pr:AD)(qs:LI),vs=[.ref pr]/\H pr=some (.lst (qs.map V.int))/\LS tb H/\∀H',Same H H'->Q (.bl true) H'
theorem scNop:Go ["prices", "told", "e"] ["prices"] (Gf Zg4):=⟨rfl,rfl,rfl,by decide +kernel,rfl,by decide +kernel,by decide +kernel⟩
theorem ZgF (F:Fun K "_law_no_paper" "_law_no_paper" Zg4 f fd)(T:ClsN K mg D Y a1 a2)(aa:Fun K "price_paper" "price_paper" ZeE L B)(ab:Binds K B ["table", "prices"] [])(ac:mg "price_paper" = some (.ref L))(ad:GG P w K mg base (CXr P w) 3 L B ["table", "prices"] (Zez D tb))(j:mg "isinstance" = none):GG P w K mg base CX0 4 f fd ["prices"] (ZgE tb):=by
 refine F.ok scNop (λvs H Q E h=>?_) (λaj A ae s H vs Q E O h=>?_)
 ·obtain ⟨_,_,rfl,_⟩:=h
  rfl
 ·obtain ⟨pr,qs,rfl,af,st,q⟩:=h;have hu:=O.units;refine ⟨_,Gc (gSt 1 scNop.nd ZcL)
    (Gc (Ze7 (i:=2) ad (O.mono (by decide)) rfl ac aa.kp ab .nil (Ga (GC (Ga Gd (Ga (Gx Ge) Ge))) (Ga (pv 0) Ge)) rfl rfl rfl rfl scNop.nd rfl rfl rfl T.mway T.wbe (λa=>Gg (gSt 1 scNop.nd (GC (Ga (Jb (ZbB K) rfl j Jj (Ga (pv 2) (Ga (Z1 T.mno) Ge))) (Ga (Jb (ZbB K) rfl j Jj (Ga (pv 2) (Ga (UO T.vee ZdJ) Ge))) (Ga (Jb (ZbB K) rfl j Jj (Ga (pv 2) (Ga (Z1 T.m1) Ge))) (Ga (Jb (ZbB K) rfl j Jj (Ga (pv 2) (Ga (Z1 T.m2) Ge))) Ge))))))))
    (Gg (Gq (gCe (Zfa K hu) (pv 1) (GC (Ga JM (Ga JM (Ga JM (Ga JM Ge))))))))),?_⟩
  refine lT3 ?_;intro Z R3 R2;refine Gn (λσ' H'=>σ'=[some (.ref pr),some .non,none]/\H=H') ?s1 ?f1
  case f1=>exact λhk=>hk _ _ ⟨rfl,rfl⟩
  rintro σ' H' ⟨rfl,rfl⟩;refine ⟨Yax _,λe1 ag=>?_⟩;obtain ⟨H1,N,s1,v1⟩:=nwU (o:=.lst []) ag;rw [N];refine ⟨GW,λt ht=>?_⟩;obtain ⟨H2,N,s2,v2⟩:=nwU (o:=.tup [.int 0,.ref e1]) ht;rw [N];have S2:=s1.trans s2;refine ⟨_,rfl,t,e1,pr,0,[],[],qs,rfl,⟨v2,s2 _ _ v1,.nil⟩,TabOk.nil,by decide,S2 _ _ af,(λr O=>by cases O),(λr O=>by cases O),st.same S2,λh=>absurd rfl h,λ_=>⟨D,rfl,T.cls,λa ha=>?_⟩⟩;obtain ⟨H3,N,s3,U⟩:=nwU (o:=ZeC a D) ha;rw [N];refine ⟨_,rfl,_,_,true,rfl,⟨_,rfl,_,_,true,rfl,⟨_,rfl,_,_,false,rfl,⟨_,rfl,_,_,false,rfl,⟨(by show 4<=sizeLine;decide),λt1 ah=>?_⟩,.inr (.inl ⟨a,D,rfl,U,T.k,rfl,T.f2⟩)⟩,.inr (.inl ⟨a,D,rfl,U,T.k,rfl,T.f1⟩)⟩,.inr (.inl ⟨a,D,rfl,U,T.k,rfl,T.ve⟩)⟩,.inr (.inl ⟨a,D,rfl,U,T.k,rfl,Oe⟩)⟩;obtain ⟨H4,N,s4,v4⟩:=nwU (o:=.tup [.bl true,.bl true,.bl false,.bl false]) ah;rw [N];refine ⟨_,rfl,(by show 4<=sizeLine;decide),λt5 ai=>?_⟩;have s5:Same H4 (upd H4 t5 (.tup [.bl true,.bl true,.bl false,.bl false])):=Same.new ai;refine ⟨.tuple [.bool true,.bool true,.bool false,.bool false],.tuple [.bool true,.bool true,.bool false,.bool false],.tup (SqT.of (s5 _ _ v4)) (.cons (.bl _) (.cons (.bl _) (.cons (.bl _) (.cons (.bl _) .nil)))),.tup (SqT.of Gb) (.cons (.bl _) (.cons (.bl _) (.cons (.bl _) (.cons (.bl _) .nil)))),by decide +kernel,by decide +kernel,?_⟩;rw [show PyData.eqv (.tuple [.bool true,.bool true,.bool false,.bool false]) (.tuple [.bool true,.bool true,.bool false,.bool false])=true by decide +kernel];exact q _ (S2.trans (s3.trans (s4.trans s5)))
end
structure TbS (H:Hp)(tp l:AD)(root:Int)(xs:List V)(us:List Tri)(sl:AD)(zs:List (AD×LI))(pr:AD)(qs:LI):Prop where
 W:TabAt H tp l root xs us
 T:TabOk us
 ar:At us root (-1)
 len:us.length<=600
 hz:∀r∈us,r.2.2≠0
 es:H sl=some (.lst (RF zs))
 lz:Lz H zs
 zl:zs.length<=300
 has:∀z∈zs,Has us root z.2
 low:∀s,Has us root s->∃z∈zs,cst qs z.2<=cst qs s
 pr:H pr=some (.lst (qs.map V.int))
 ql:30<=qs.length
section
variable {K:FG}{H H':Hp}{tp l sl pr:AD}{root:Int}{xs:List V}{us:List Tri}{zs:List (AD×LI)}{qs:LI}
theorem TbS.kp (B:TbS H tp l root xs us sl zs pr qs)(k:Kp K H H'):TbS H' tp l root xs us sl zs pr qs:=⟨B.W.kp k,B.T,B.ar,B.len,B.hz,k.lst _ _ B.es,B.lz.kp k,B.zl,B.has,B.low,k.lst _ _ B.pr,B.ql⟩
theorem TbS.same (B:TbS H tp l root xs us sl zs pr qs)(s:Same H H'):TbS H' tp l root xs us sl zs pr qs:=⟨B.W.same s,B.T,B.ar,B.len,B.hz,s _ _ B.es,B.lz.same s,B.zl,B.has,B.low,s _ _ B.pr,B.ql⟩
theorem TbS.rq (B:TbS H tp l root xs us sl zs pr qs):∀r∈us,r.1<(qs.length:Int):=λr j=>(TabOk.rg B.T B.ql r j).1.2
theorem TbS.nz (B:TbS H tp l root xs us sl zs pr qs)(h:zs≠[]):root≠0:=λz=>by
 obtain ⟨y,j⟩:=List.exists_mem_of_ne_nil _ h;have:=B.has y j;rw [z] at this;exact Has.zero this
theorem TbS.rg (B:TbS H tp l root xs us sl zs pr qs)(hz:z∈zs):(∀x∈z.2,0<=x/\x<(qs.length:Int))/\z.2.length<=30:=by
 refine ⟨λx j=>?_,W8 B.T B.ar (by decide) (B.has z hz)⟩;have:=Zgy B.T (B.has z hz) x j;have:=B.ql
 lia
theorem TbS.min (B:TbS H tp l root xs us sl zs pr qs)(h1:m∈zs.map λz=>cst qs z.2)(h2:∀n∈zs.map λz=>cst qs z.2,m<=n):MinC qs us root m:=by
 obtain ⟨z,j,rfl⟩:=Yai.mp h1;refine ⟨⟨z.2,B.has z j,rfl⟩,λs q=>?_⟩;obtain ⟨y,D,L⟩:=B.low s q;have:=h2 _ (Yai.mpr ⟨y,D,rfl⟩)
 lia
end
theorem Xb (ts:List Tri)(qs:LI):SeqAt.shaped (.list [.list (ts.map trD),.list (qs.map PyData.int)])=true:=by
 unfold SeqAt.shaped;rw [Ycl];have:=WQ ts;have:=Jw qs;refine ⟨by simp [PyData.canLay0,PyData.canLayAll0,Zaq,OH],Yau ?_⟩;simp only [PyData.depth,PyData.depthAll]
 lia
theorem ZgG (ts:List Tri)(qs:LI):PyData.eqv (.list [.list (ts.map trD),.list (qs.map PyData.int)]) (.list [.list (ts.map trD),.list (qs.map PyData.int)])=true:=by
 have h1:=OI qs qs;simp only [PyData.eqv] at h1;simp only [PyData.eqv,PyData.eqvAll,Zap,h1];simp
theorem Zbz (j:FamOk (zs.map (·.2)))(W:TabAt H tp l a0 xs us)(L:LeT pfF (zs.map (·.2)) a0 us ts root fs)(D:ts.length<=600)(es:H sl=some (.lst (RF zs)))(N:Lz H zs)(O:zs.length<=300)(q:H pr=some (.lst (qs.map V.int)))(U:30<=qs.length):TbS H tp l a0 xs us sl zs pr qs:=by
 have mem:∀s,Has us a0 s↔s∈zs.map (·.2):=λs=>(L.has (Zbx j) s).trans (Zep _ _ (Yae _) j.nd s);refine ⟨W,L.tab,L.at_ (Zbx j),by have:=L.len;have:=L.le;lia,Zbu L.grw.sh.ok L.said L.len L.grw.sh.hi,es,N,O,λz B=>(mem _).mpr (Yai.mpr ⟨z,B,rfl⟩),λs Y=>?_,q,U⟩;obtain ⟨z,B,rfl⟩:=Yai.mp ((mem s).mp Y);exact ⟨z,B,Int.le_refl _⟩
section
variable {P:PP}{w:Ab}{K:FG}{mg:Str->Option Aa}{base:Heap}
noncomputable def ZcK (K:FG)(tD tF:AD):Sp:=λvs H Q _=>∃(a:AD)(ns:LI),vs=[.ref a]/\SqL K H a (ns.map V.int)/\ns.length<=63/\H tD=some (.tbl #[])/\H tF=some (.tbl #[])/\tD≠tF/\∀H',Q (.bl true) H'
theorem scLaw:Go ["script", "sets", "cell", "prices", "table", "least", "handed", "paper", "off", "again"] ["script"] (Gf Zct):=⟨rfl,rfl,rfl,by decide +kernel,rfl,by decide +kernel,by decide +kernel⟩
theorem ZgH (F:Fun K "law" "law" Zct f fd)(FA:Fun K "_law_cell_at" "_law_cell_at" ZeG fA aU)(bA:Binds K aU ["script", "k"] [])(mA:mg "_law_cell_at" = some (.ref fA))(GA:GG P w K mg base CX0 1 fA aU ["script", "k"] (Zcy K))(bJ:Fun K "_law_family" "_law_family" ZfF aJ am)(bK:Binds K am ["script", "start"] [])(bL:mg "_law_family" = some (.ref aJ))(bM:GG P w K mg base CX0 2 aJ am ["script", "start"] (Zgk K))(bN:Fun K "_law_prices" "_law_prices" ZgX aK an)(bO:Binds K an ["cell", "many"] [])(bP:mg "_law_prices" = some (.ref aK))(GPr:GG P w K mg base CX0 2 aK an ["cell", "many"] Zge)(bQ:Fun K "table_of" "table_of" ZgW aL ao)(bR:Binds K ao ["sets"] [])(bS:mg "table_of" = some (.ref aL))(bT:GG P w K mg base (CXr P w) 5 aL ao ["sets"] (Zf6 fP TM tD))(bU:Fun K "_law_great_table" "_law_great_table" Zg2 aM ap)(bV:Binds K ap ["script", "start"] [])(bW:mg "_law_great_table" = some (.ref aM))(bX:GG P w K mg base CX0 2 aM ap ["script", "start"] (Zgu K))(bY:Fun K "_law_cheapest" "_law_cheapest" ZeI aN aq)(bZ:Binds K aq ["table", "prices", "many"] [])(cc:mg "_law_cheapest" = some (.ref aN))(cd:GG P w K mg base CX0 1 aN aq ["table", "prices", "many"] Zgw)(bg:Fun K "_law_no_paper" "_law_no_paper" Zg4 aO as)(bh:Binds K as ["prices"] [])(bi:mg "_law_no_paper" = some (.ref aO))(bj:GG P w K mg base CX0 4 aO as ["prices"] (ZgE tF))(ce:Fun K "_law_sum" "_law_sum" ZgY aP au)(cf:Binds K au ["roads", "prices"] [])(cg:mg "_law_sum" = some (.ref aP))(ci:GG P w K mg base CX0 1 aP au ["roads", "prices"] ZgA)(bl:Fun K "price_paper" "price_paper" ZeE aQ av)(bm:Binds K av ["table", "prices"] [])(bn:mg "price_paper" = some (.ref aQ))(bo:GG P w K mg base (CXr P w) 3 aQ av ["table", "prices"] (Zez no tF))(cj:Fun K "_law_whole" "_law_whole" Zg3 aR aw)(ck:Binds K aw ["found"] [])(cm:mg "_law_whole" = some (.ref aR))(cn:GG P w K mg base CX0 1 aR aw ["found"] ZgC)(bp:Fun K "_law_shows" "_law_shows" Zg0 aS ax)(bq:Binds K ax ["table", "prices", "paper", "price"] [])(br:mg "_law_shows" = some (.ref aS))(bt:GG P w K mg base CX0 2 aS ax ["table", "prices", "paper", "price"] Zgg)(bu:Fun K "paper_shows" "paper_shows" ZgU aT ay)(bv:Binds K ay ["table", "prices", "paper", "price"] [])(bw:mg "paper_shows" = some (.ref aT))(bx:GG P w K mg base CX0 2 aT ay ["table", "prices", "paper", "price"] Zgi)(ac:mg "list" = none)(bz:mg "min" = none)(b0:mg "isinstance" = none)(aA:mg "len" = none):GG P w K mg base CX0 6 f fd ["script"] (ZcK K tD tF):=by
 refine F.ok scLaw (λvs H Q E h=>?_) (λcQ A co s H vs Q E hr h=>?_)
 ·obtain ⟨_,_,rfl,_⟩:=h
  rfl
 ·obtain ⟨a,ns,rfl,hS,cq,cr,cu,cv,q⟩:=h;have cR:=Ybd.symm;have hu:=hr.units;have E0:Env2 tD tF H:=⟨.inl cr,.inl cu,cv⟩;refine ⟨_,Gc (gSt 1 scLaw.nd (gCa bM bL bJ.kp bK GH (Ga (pv 0) (Ga Gd Ge))))
    (Gc (gSt 2 scLaw.nd (gCa GA mA FA.kp bA GH (Ga (pv 0) (Ga Gd Ge))))
    (Gc (gSt 3 scLaw.nd (gCa GPr bP bN.kp bO GH (Ga (pv 2) (Ga (Gm GT Gd (Gm GQ (Gm GD (pv 2) Gd) Gd)) Ge))))
    (Gc (gSt 4 scLaw.nd (gCa bT bS bQ.kp bR ZdI (Ga (pv 1) Ge)))
    (Gc (GS (gCm Ou (Gm GQ (Gm GD (gCa GA mA FA.kp bA GH (Ga (pv 0) (Ga Gd Ge))) Gd) Gd) Gd) (Gc (gSt 4 scLaw.nd (gCa bX bW bU.kp bV GH (Ga (pv 0) (Ga Gd Ge))))
    (Gg (Ov (i:=1) scLaw.nd rfl (Or.inl rfl) (own:=["price", "one"]) rfl gSp (Om K (gCa cd cc bY.kp bZ GH (Ga (pv 4) (Ga (pv 3) (Ga Gd Ge))))) (λ_ _ _ _=>Xc K (n:=2) rfl (Gk (gNm 0 (show List.Nodup (["price", "one"]:List Str) by decide +kernel)) (Gk (gNm 1 (show List.Nodup (["price", "one"]:List Str) by decide +kernel)) G9))) (λ_ _ _ _=>GY) (λ_ _ _ _=>pv 1)))) Gp)
    (Gc (GS (gCm (Zfa K hu) (pv 1) (Gx Ge)) (Gg (Gq (gCa bj bi bg.kp bh GH (Ga (pv 3) Ge)))) Gp)
    (Gc (gSt 5 scLaw.nd (gB1 (Zip K rfl) bz VR (Jz (own:=["one"]) rfl (gSc [("prices", 3)]) (Om K (pv 1)) (λ_ _ _ _=>gNm 0 (show List.Nodup (["one", "prices"]:List Str) by decide +kernel)) (λ_ _ _ _=>GY) (λ_ _ _ _=>gCa ci cg ce.kp cf GH (Ga (pv 0) (Ga (pv 1) Ge))))))
    (Gc (gSt 6 scLaw.nd (Gx (Ga (gT1 (VQ K) ac J3 (gIx (YT K) (pv 4) Gd)) (Ga (gT1 (VQ K) ac J3 (pv 3)) Ge))))
    (Gc (gSt 7 scLaw.nd (gCa bo bn bl.kp bm ZdI (Ga (GC (Ga (gIx (YT K) (pv 4) Gd) (Ga (gIx (Of K) (pv 6) Gd) Ge))) (Ga (gIx (Of K) (pv 6) Gd) Ge))))
    (Gc (GS (PW.pt (ZbF (XH (UF (Jb (ZbB K) rfl b0 Jj (Ga (pv 7) (Ga (UO ac J3) Ge))))) (XF (gCm (Zh3 K hu) (pv 6) (Gx (Ga (gIx (YT K) (pv 4) Gd) (Ga (pv 3) Ge))))))) (Gg (Gq JM)) Gp)
    (Gc (GS (gCm ZbH (gB1 (Ur K) aA Ybq (Jz (own:=["number"]) rfl gSp (Om K (pv 7)) (λ_ _ _ _=>gNm 0 (show List.Nodup (["number"]:List Str) by decide +kernel)) (λ_ _ _ _=>OE (UF (gCa cn cm cj.kp ck GH (Ga (pv 0) Ge)))) (λ_ _ _ _=>pv 0))) (gB1 (Ur K) aA Ybq (gIx (YT K) (pv 4) Gd))) (Gg (Gq JM)) Gp)
    (Gc (GS (PW.pt (ZbF (XH (UF (gCa bt br bp.kp bq GH (Ga (pv 4) (Ga (pv 3) (Ga (pv 7) (Ga (pv 5) Ge))))))) (XF (gCm Zby (gCa bx bw bu.kp bv GH (Ga (pv 4) (Ga (pv 3) (Ga (gT1 (VQ K) ac J3 (pv 7)) (Ga (pv 5) Ge))))) JM)))) (Gg (Gq JM)) Gp)
    (Gc (Js Ycg rfl (Zar K (GC (Ga Gd (Ga (ZeU Z3 Gd) Ge)))) (gNm 8 scLaw.nd)
    (Gg (GS (gCm Zby (gCa bx bw bu.kp bv GH (Ga (pv 4) (Ga (pv 3) (Ga (gT1 (VQ K) ac J3 (pv 7)) (Ga (Gm GT (pv 5) (pv 8)) Ge))))) JM) (Gg (Gq JM)) Gp)))
    (Gc (G8 (kBm K Ycf Yct Ycu GB (pv 7) (Ga Gd Ge)))
    (Gc (gSt 9 scLaw.nd (gCa bo bn bl.kp bm ZdI (Ga (pv 4) (Ga (pv 3) Ge))))
    (Gg (Gq (ZcO (gCa bt br bp.kp bq GH (Ga (pv 4) (Ga (pv 3) (Ga (pv 9) (Ga (pv 5) Ge))))) (ZcN (gCa bj bi bg.kp bh GH (Ga (pv 3) Ge)))))))))))))))))))),?_⟩
  refine Ziv ?_;intro Z cS cT cU cV cW cX cY R9 R8 R7 R6 R5 R4 R3 R2;refine ⟨_,rfl,a,ns,2,rfl,hS,cq,by decide,λsl zs H1 s1 cZ es lz nz cw rs so b1=>?_⟩;dsimp only [Gv];refine ⟨_,rfl,a,ns,1,rfl,s1.seq hS,λc=>?_⟩;dsimp only [Gv];have p0:0<=c / 11 % 3:=Ycm _ (by decide);have p1:c / 11 % 3<3:=Ycn _ (by decide);obtain ⟨m,hm⟩:∃m:Nat,30+c / 11 % 3=(m:Int):=⟨(30+c / 11 % 3).toNat,by lia⟩;refine ⟨_,rfl,_,rfl,_,_,rfl,rfl,⟨by decide,GN⟩,_,_,rfl,rfl,(by show (0:Int)<3;decide),_,_,rfl,rfl,c,m,(by show [V.int c,V.int (30+c / 11 % 3)]=_;rw [hm]),by lia,λpr qs H2 s2 da cx db=>?_⟩;dsimp only [Gv];have S2:=s1.trans s2;have E2:=E0.same S2;obtain ⟨FO,U,Un,hU,b2,b3,b4⟩:=Zbw rs so b1;refine ⟨_,rfl,sl,zs,_,U,Un,rfl,s2 _ _ es,lz.same s2,by lia,so,λs=>Iff.rfl,FO,hU,b2,b3,E2.ld,λtp l a0 root xs us ts fs H3 cy cz hp hl W L c0 h8=>?_,λts H3 _ _ _ h8 c0=>absurd h8 (by lia)⟩;obtain ⟨E3,k3⟩:=E2.stepD (K:=K) cy cz;have aV:=k3.sq _ _ (S2.seq hS);have B0:=Zbz (sl:=sl) (pr:=pr) (qs:=qs) FO W L (by lia) (k3.lst _ _ (s2 _ _ es)) ((lz.same s2).kp k3) (by lia) (k3.lst _ _ cx) (by lia);clear W L E0 E2 k3;dsimp only [Gv];refine Gn (λσ' H'=>∃(sl tp l:AD)(root:Int)(xs:List V)(us:List Tri)(zs:List (AD×LI)),σ'=[some (.ref a),some (.ref sl),some (.int c),some (.ref pr),some (.ref tp),none,none,none,none,none]/\Env2 tD tF H'/\TbS H' tp l root xs us sl zs pr qs) ?s1 ?f1
  case f1=>
   intro hk;refine ⟨_,rfl,a,ns,0,rfl,aV,λz0=>⟨_,_,rfl,rfl,⟨by decide,GN⟩,_,_,rfl,rfl,(by show (0:Int)<8;decide),rfl,_,rfl,J1 (λ_=>?_) (λ_=>hk _ _ ⟨sl,tp,l,a0,xs,us,zs,rfl,E3,B0⟩)⟩⟩;refine ⟨_,rfl,a,ns,2,rfl,aV,λtp l root xs us H4 s4 dc hl W T ar qV hz O=>?_⟩;dsimp only [Gv];have b5:=s4 _ _ B0.pr;have rq:∀r∈us,r.1<(qs.length:Int):=λr hr=>(TabOk.rg T B0.ql r hr).1.2;refine ⟨_,rfl,_,rfl,tp,l,pr,root,xs,us,qs,1,rfl,W,T,ar,by lia,b5,rq,by decide,λga zg H5 s5 G=>⟨ga,rfl,⟨_,SqL.of G.e⟩,λD hD=>?_⟩⟩
   let Pv:CI:=λj ys H'=>ys=RF ((zg.map λz=>(z.2.1,z.2.2.2)).take j)/\Same H5 H'/\H' D=some (.lst ys)
   refine Jo (K:=K) (a:=ga) (xs:=RP zg) Pv ⟨rfl,Same.new hD,Gb⟩ (by rintro j ys H' _ ⟨_,s,_⟩;exact SqL.of (s _ _ G.e)) ?_ ?_
   ·rintro j y ys H6 ag ⟨rfl,s6,eD⟩;rw [RP,Yay] at ag;obtain ⟨z,ah,rfl⟩:=Ybt.mp ag;have hj:j<zg.length:=(Yal.mp ah).1;have dd:=G.ln;obtain ⟨p1,p2⟩:=G.pl z (Yaz ah);refine ⟨z.1,_,rfl,SqT.of (s6 _ _ p1),rfl,_,_,rfl,_,_,rfl,rfl,trivial,?_⟩;unfold XN;refine JX ?_;refine ⟨_,rfl,eD,by rw [RF,Yac,Ybn];lia,?_,s6.put hD,Gb⟩;rw [Ybx,Yay,ah,RF,RF,Yao]
    rfl
   ·rintro ys H6 ⟨rfl,s6,eD⟩;rw [RP,Yac,<-Yac (f:=λz:PL=>(z.2.1,z.2.2.2)),Ybu] at eD;obtain ⟨x,ex,c1,c2,c3⟩:=Yz (G.best (Yae _)) (Zbv T hz 31 ar O (by decide));obtain ⟨z,rfl⟩:∃z,zg=[z]:=by
     have:=Ybg List.length ex;rw [Yac] at this;exact List.length_eq_one_iff.mp this
    have ez:z.2.2=x:=by simpa using ex
    subst ez;have S6:=s4.trans (s5.trans s6);refine hk _ _ ⟨D,tp,l,root,xs,us,[(z.2.1,z.2.2.2)],rfl,E3.same S6,W.same (s5.trans s6),T,ar,by lia,hz,eD,λy hy=>?_,(by show 1<=300;decide),λy hy=>?_,λs hs=>⟨_,Yaj.mpr rfl,?_⟩,S6 _ _ B0.pr,B0.ql⟩
    ·rw [Yaj.mp hy];exact s6 _ _ (G.pl z (Yaj.mpr rfl)).2
    ·rw [Yaj.mp hy];exact c1
    ·have:=c3.2 s hs
     rwa [c2] at this
  clear B0 E3 aV rs so b1 FO hU b2 b3 b4 lz nz es;rintro σ' H3 ⟨sl,tp,l,root,xs,us,zs,rfl,E3,B⟩;refine ⟨_,rfl,Yax _,λe1 c4=>?_⟩;obtain ⟨H4,q_,s4,v4⟩:=nwU (o:=.lst []) c4;rw [q_];have B4:=B.same s4;have E4:=E3.same s4;refine ⟨.list (Vb (zs.map (·.2))),.list (Vb []),.lst (SqL.of B4.es) (XD B4.lz),.lst (SqL.of v4) .nil,W6 _,W6 _,_,rfl,?_⟩;rw [ZhQ];by_cases ak:zs=[]
  ·subst ak;refine JX ?_;exact ⟨_,rfl,pr,qs,rfl,B4.pr,E4.ls,λH5 _=>q _⟩
  rw [Ybl (p:=zs.map (·.2)=[]) (by simpa using ak)];refine O5 ?_;dsimp only [JN];have O:=B.nz ak;clear B E3 s4 v4;refine Gn (λσ' H'=>∃N:Int,σ'=[some (.ref a),some (.ref sl),some (.int c),some (.ref pr),some (.ref tp),some (.int N),none,none,none,none]/\Same H4 H'/\MinC qs us root N) ?s2 ?f2
  case f2=>
   intro hk;refine ⟨_,rfl,sl,rfl,⟨_,SqL.of B4.es⟩,λD hD=>?_⟩
   let Pv:CI:=λj ys H'=>ys=((zs.take j).map λz=>cst qs z.2).map V.int/\Same H4 H'/\H' D=some (.lst ys)
   refine Jo (K:=K) (a:=sl) (xs:=RF zs) Pv ⟨rfl,Same.new hD,Gb⟩ (by rintro j ys H' _ ⟨_,s,_⟩;exact SqL.of (s _ _ B4.es)) ?_ ?_
   ·rintro j y ys H6 ag ⟨rfl,s6,eD⟩;rw [RF,Yay] at ag;obtain ⟨z,ah,rfl⟩:=Ybt.mp ag;have hj:j<zs.length:=(Yal.mp ah).1;have b6:=Yaz ah;obtain ⟨g1,g2⟩:=B4.rg b6;have cw:=B4.zl;refine ⟨by first | exact ⟨rfl,trivial⟩ | simp [JJ,JI],?_⟩;unfold XN;refine JX ?_;refine ⟨_,rfl,_,rfl,z.1,pr,z.2,qs,rfl,s6 _ _ (B4.lz z b6),s6 _ _ B4.pr,g1,by lia,λH7 s7=>⟨s7 _ _ eD,by rw [Yac,Yac,Ybn];lia,?_,(s6.trans s7).put hD,Gb⟩⟩;rw [Ybx,ah,Yao,Yao]
    rfl
   ·rintro ys H6 ⟨rfl,s6,eD⟩;rw [RF,Yac,Ybu] at eD;exact ⟨D,_,rfl,SqL.of eD,by simpa using ak,λm h1 h2=>hk _ _ ⟨m,rfl,s6,B4.min h1 h2⟩⟩
  rintro σ' H5 ⟨N,rfl,s5,aB⟩;have B5:=B4.same s5;have E5:=E4.same s5;clear B4 E4 s5;refine Gn (λσ' H'=>∃hd h0 h1:AD,σ'=[some (.ref a),some (.ref sl),some (.int c),some (.ref pr),some (.ref tp),some (.int N),some (.ref hd),none,none,none]/\Same H5 H'/\H' hd=some (.lst [.ref h0,.ref h1])/\H' h0=some (.lst xs)/\H' h1=some (.lst (qs.map V.int))) ?s3 ?f3
  case f3=>
   intro hk;refine ⟨_,rfl,tp,_,_,_,rfl,rfl,SqT.of B5.W.w,Gr (j:=1) rfl,l,xs,rfl,.inl (SqL.of B5.W.l),λh0 c5=>?_⟩;obtain ⟨H7,q_,t1,e1⟩:=nwU (o:=.lst xs) c5;rw [q_];refine ⟨_,rfl,pr,_,rfl,.inl (SqL.of (t1 _ _ B5.pr)),λh1 c6=>?_⟩;obtain ⟨H8,q_,t2,e2⟩:=nwU (o:=.lst (qs.map V.int)) c6;rw [q_];refine ⟨GW,λhd c7=>?_⟩;have t4:Same H8 (upd H8 hd (.lst [.ref h0,.ref h1])):=Same.new c7;exact hk _ _ ⟨hd,h0,h1,rfl,t1.trans (t2.trans t4),Gb,t4 _ _ (t2 _ _ e1),t4 _ _ e2⟩
  rintro σ' H6 ⟨hd,h0,h1,rfl,s6,a2,aW,aX⟩;have B6:=B5.same s6;have E6:=E5.same s6;clear B5 E5 s6;refine ⟨_,rfl,tp,_,_,_,rfl,rfl,SqT.of B6.W.w,Gr (j:=0) rfl,_,rfl,hd,_,_,_,rfl,rfl,SqL.of a2,Gr (j:=0) rfl,GW,λt ht=>?_⟩;obtain ⟨H7,q_,s7,et⟩:=nwU (o:=.tup [.int root,.ref h0]) ht;rw [q_];have B7:=B6.same s7;have E7:=E6.same s7;have rq:=B7.rq;have len:=B7.len;refine ⟨_,rfl,hd,_,_,_,rfl,rfl,SqL.of (s7 _ _ a2),Gr (j:=1) rfl,t,h0,h1,root,xs,us,qs,rfl,⟨et,s7 _ _ aW,B7.W.t⟩,B7.T,by lia,s7 _ _ aX,rq,B7.hz,E7.ls,λ_ pa ps H8 c8 c9 b7 aY b8=>?_,λz=>absurd z O⟩;obtain ⟨E8,k8⟩:=E7.stepF (K:=K) c8 c9;have B8:=B7.kp k8;have aC:=k8.lst _ _ (s7 _ _ a2);have aD:=k8.lst _ _ (s7 _ _ aW);have aE:=k8.lst _ _ (s7 _ _ aX);have cA:l≠pa:=Gh B7.W.l b7;have b9:pr≠pa:=Gh B7.pr b7;clear B6 E6 B7 E7 k8 s7 a2 aW aX;have rg:=TabOk.rg B8.T B8.ql;have aZ:=b8.len;have ba:∀price,Jr us root qs ps price=decide (price=N):=λprice=>YA B8.T B8.hz b8 O B8.ar aB price;dsimp only [Gv];refine ⟨_,rfl,_,_,true,rfl,⟨_,rfl,?_⟩,.inl ⟨_,.lst aY,rfl,Oe⟩⟩;refine J1 (λz=>by cases z) (λ_=>?_);refine ⟨_,rfl,_,rfl,tp,_,_,_,rfl,rfl,SqT.of B8.W.w,Gr (j:=1) rfl,_,rfl,GW,λcp cB=>?_⟩;have s9:Same H8 (upd H8 cp (.lst [.ref l,.ref pr])):=Same.new cB;have B9:=B8.same s9;refine ⟨.list [.list (us.map trD),.list (qs.map PyData.int)],.list [.list (us.map trD),.list (qs.map PyData.int)],.lst (SqL.of (s9 _ _ aC)) (.cons (.lst (SqL.of (s9 _ _ aD)) B9.W.t.dats) (.cons (.lst (SqL.of (s9 _ _ aE)) (GV _)) .nil)),.lst (SqL.of Gb) (.cons (.lst (SqL.of B9.W.l) B9.W.t.dats) (.cons (.lst (SqL.of B9.pr) (GV _)) .nil)),Xb _ _,Xb _ _,_,rfl,?_⟩;rw [ZgG];refine O5 ?_;dsimp only [JN];have E9:=E8.same s9;have ad:=s9 _ _ aY;generalize upd H8 cp (.lst [.ref l,.ref pr])=H9 at s9 B9 E9 ad ⊢;clear B8 E8 aY s9 aC aD aE;refine ⟨_,rfl,pa,rfl,⟨_,SqL.of ad⟩,λD hD=>?_⟩
  let Pv:CI:=λj ys H'=>ys=(ps.take j).map V.int/\Same H9 H'/\H' D=some (.lst ys)
  refine Jo (K:=K) (a:=pa) (xs:=ps.map V.int) Pv ⟨rfl,Same.new hD,Gb⟩ (by rintro j ys H' _ ⟨_,s,_⟩;exact SqL.of (s _ _ ad)) ?_ ?_
  ·rintro j y ys cC ag ⟨rfl,al,eD⟩;obtain ⟨n,rfl,hn⟩:=JK ag;have hj:=(Yal.mp hn).1;refine ⟨trivial,?_⟩;refine ⟨_,rfl,n,rfl,_,rfl,?_⟩;refine JX ?_;refine ⟨_,rfl,eD,by rw [Yac,Ybn];lia,?_,al.put hD,Gb⟩;rw [Ybx,hn,Yao]
   rfl
  rintro ys cC ⟨rfl,al,eD⟩;rw [Yac,Ybu] at eD;have ae:=B9.same al;have bB:=E9.same al;have aa:=al _ _ ad;clear B9 E9 ad al;refine ⟨D,_,rfl,.inl (SqL.of eD),_,rfl,tp,_,_,_,rfl,rfl,SqT.of ae.W.w,Gr (j:=1) rfl,l,_,rfl,.inl (SqL.of ae.W.l),rfl,_,rfl,?_⟩;refine J1 (λz=>absurd z (by rw [Yac,ae.W.t.len,aZ];simp)) (λ_=>?_);dsimp only [JN];refine ⟨_,rfl,_,rfl,_,rfl,_,rfl,tp,l,pr,pa,root,N,xs,us,qs,ps,rfl,ae.W,ae.pr,aa,by lia,ae.ar.lt,rg,_,rfl,?_⟩;rw [ba,Yau rfl];refine J1 (λz=>by cases z) (λ_=>?_);refine ⟨_,rfl,_,rfl,_,rfl,pa,_,rfl,.inl (SqL.of aa),λpc bb=>?_⟩;obtain ⟨de,q_,a3,a4⟩:=nwU (o:=.lst (ps.map V.int)) bb;rw [q_];have az:=ae.same a3;refine ⟨_,rfl,tp,l,pr,pc,root,N,xs,us,qs,ps,rfl,az.W,az.pr,a4,by lia,az.ar.lt,rg,λcD a5=>⟨_,_,rfl,rfl,_,rfl,?_⟩⟩;rw [ba,Yau rfl];refine O5 ?_;dsimp only [JN];have bc:=az.same a5;have bC:=bB.same (a3.trans a5);have ai:=a5 _ _ (a3 _ _ aa);clear ae az bB aa a3 a5 a4;refine Gn (λσ' H'=>∃v8:Option V,σ'=[some (.ref a),some (.ref sl),some (.int c),some (.ref pr),some (.ref tp),some (.int N),some (.ref hd),some (.ref pa),v8,none]/\Same cD H') ?s4 ?f4
  case f4=>
   intro hk;refine ⟨_,rfl,GW,λt2 cE=>?_⟩;obtain ⟨Y,q_,u1,v1⟩:=nwU (o:=.tup [.int 1,.int (-1)]) cE;rw [q_];refine ⟨t2,rfl,⟨_,SqT.of v1⟩,?_⟩
   let Pv:FI:=λi σ H'=>∃v8:Option V,σ=[some (.ref a),some (.ref sl),some (.int c),some (.ref pr),some (.ref tp),some (.int N),some (.ref hd),some (.ref pa),v8,none]/\Same Y H'
   refine Zy (K:=K) (a:=t2) (xs:=[.int 1,.int (-1)]) Pv ⟨none,rfl,Same.refl _⟩ (by rintro i σ H' _ ⟨_,_,s⟩;exact SqT.of (s _ _ v1)) ?_ ?_
   ·rintro i x σ bD cF ⟨v8,rfl,a6⟩;have bE:=u1.trans a6;have cG:=bc.same bE;obtain ⟨a7,rfl,cO⟩:∃a7:Int,x=.int a7/\a7≠0:=by
     match i,cF with
     | 0,h=>exact ⟨1,(Ybk h).symm,by decide⟩
     | 1,h=>exact ⟨-1,(Ybk h).symm,by decide⟩
    dsimp only [Gv];refine ⟨_,rfl,_,rfl,_,rfl,pa,_,rfl,.inl (SqL.of (bE _ _ ai)),λpc bb=>?_⟩;obtain ⟨cH,q_,bF,a4⟩:=nwU (o:=.lst (ps.map V.int)) bb;rw [q_];have bd:=cG.same bF;refine ⟨_,rfl,_,rfl,_,_,rfl,rfl,tp,l,pr,pc,root,N+a7,xs,us,qs,ps,rfl,bd.W,bd.pr,a4,by lia,bd.ar.lt,rg,λcI cJ=>⟨_,_,rfl,rfl,_,rfl,?_⟩⟩;rw [ba,Ybl (by lia)];refine O5 ?_;exact ⟨_,rfl,a6.trans (bF.trans cJ)⟩
   ·rintro σ bD ⟨v8,rfl,a6⟩;exact hk _ _ ⟨v8,rfl,u1.trans a6⟩
  rintro σ' Y ⟨v8,rfl,a8⟩;have af:=bc.same a8;have a9:=bC.same a8;have ab:=a8 _ _ ai;clear bc bC a8 ai;refine ⟨_,rfl,.inl ⟨rfl,_,SqL.of ab⟩,pa,_,_,rfl,rfl,ab,by rw [Yac];lia,?_⟩;dsimp only [JN];have kL:∀b ys,b≠pa->Y b=some (.lst ys)->upd Y pa (.lst (ps.map V.int++[.int 0])) b=some (.lst ys):=λb ys hb e=>Gj e hb;have kT:∀b ys,Y b=some (.tup ys)->upd Y pa (.lst (ps.map V.int++[.int 0])) b=some (.tup ys):=GR ab;have be:TabAt (upd Y pa (.lst (ps.map V.int++[.int 0]))) tp l root xs us:=⟨kT _ _ af.W.w,kL _ _ cA af.W.l,af.W.t.keep kT⟩;have aj:=kL _ _ b9 af.pr;have bf:Env2 tD tF (upd Y pa (.lst (ps.map V.int++[.int 0]))):=by
   have kN:∀b o,(∀ys,o≠HO.lst ys)->Y b=some o->upd Y pa (.lst (ps.map V.int++[.int 0])) b=some o:=λb o hn e=>Gj e (λz=>by rw [z,ab] at e;exact hn _ (Ybk e).symm);exact ⟨LamSt.keepN a9.ld kN,LamSt.keepN a9.ls kN,a9.ne⟩
  have aF:=af.T;have aG:=af.hz;have aH:=af.ar;generalize upd Y pa (.lst (ps.map V.int++[.int 0]))=bD at be aj bf ⊢;clear af a9 kL kT;refine ⟨_,rfl,_,rfl,tp,l,pr,root,xs,us,qs,rfl,be,aF,by lia,aj,rq,aG,bf.ls,λ_ pb cK cH bG bH df cL aI=>?_,λz=>absurd z O⟩;obtain ⟨cM,bI⟩:=bf.stepF (K:=K) bG bH;have cN:=be.kp bI;have a1:=bI.lst _ _ aj;have cP:=aI.len;dsimp only [Gv];refine ⟨_,rfl,_,rfl,_,rfl,_,rfl,tp,l,pr,pb,root,N,xs,us,qs,cK,rfl,cN,a1,cL,by lia,aH.lt,rg,_,rfl,?_⟩;rw [YA aF aG aI O aH aB N,Yau rfl];refine JX ?_;exact ⟨_,rfl,pr,qs,rfl,a1,cM.ls,λcI _=>q _⟩
end
end M
section
open PySem PySem.W PyProof.Rows
noncomputable def M.rowP:PP:=PySem.Challenge.rw_onceways_k58_papers_told.prog
noncomputable def M.seenP:PP:={ M.rowP with main:={ M.rowP.main with body:=[1,2,3,4,6,8,9,11,12,14,15,16,17,18,19,20,22,23,25,26,27,28,29,30,31,32,33,34,35,36,37,38,39].filterMap (λi=>M.rowP.main.body[i]?) } }
noncomputable def M.loosely:List Str:=[]
noncomputable def M.hookX (s:SS):Bool:=xlAt M.seenP [] s && recOk (RowW.records (OpenRow.toRowW PySem.Challenge.rw_onceways_k58_papers_told.row)) s
noncomputable def M.atBoot (w:Ab)(j:OsState):SS:=⟨boot_heap w.params,Array.mk [],boot_drawn,boot_toks,j⟩
noncomputable def M.topOf (p:PP)(N:Nat)(w:Ab)(j:OsState):Option SS:=topRun treeTable p w (M.atBoot w j).heap.objs.size ((M.atBoot w j).heap.nsMap mainGlobals "__annotations__") N (M.atBoot w j) (topStub p)
theorem M.top_run (h:topFrom treeTable p w N (M.atBoot w j)=some s):M.topOf p N w j=some s:=by
 unfold topFrom at h;split at h
 ·obtain ⟨q,h1,h2⟩:=Option.bind_eq_some_iff.mp h;split at h2
  ·cases h2;exact h1
  ·cases h2
 ·cases h
theorem M.left_boot {p q:PP}{j:List Str}{B:SS->Bool}{α:Type}{D:SS->α}{L:Ab->α}{N:Nat}(e:opening p=plainProg p.main.scope.names)(U:Nat.ble 600 N=true)(f:∀s,fenceModules? p s=some s)(Y:∀(w:Ab)(os:OsState),(topFrom treeTable p w N (M.atBoot w os)).isSome=true)(ha:∀(w:Ab)(os:OsState),(M.topOf p N w os).map (openSeen q j (importedModules p.main.body) B true)=some (openGood q j))(Z:∀(w:Ab)(os:OsState),(M.topOf p N w os).map D=some (L w)) :
  LeftO p q j B D L N:=λw=>by
 obtain ⟨⟨a,b,c,d,os⟩,e1,e2⟩:=Ybt.mp (boot_open e U f w);obtain ⟨rfl,rfl,rfl,rfl⟩:a=boot_heap w.params/\b=Array.mk []/\c=boot_drawn/\d=boot_toks:=by simpa using e2
 obtain ⟨s,O⟩:=Yeh.mp (Y w os);have h1:=ha w os;have h2:=Z w os;rw [M.top_run O] at h1 h2;unfold openEnds;rw [e1];show (topFrom treeTable p w N (M.atBoot w os)).map _=_;rw [O];simp only [Option.map_some,Option.some.injEq] at h1 h2 ⊢;rw [h1,h2]
set_option maxHeartbeats 0 in
theorem M.topA (w:Ab)(j:OsState):(M.topOf M.rowP 4074 w j).map (openSeen M.seenP M.loosely (importedModules M.rowP.main.body) M.hookX true)=some (openGood M.seenP M.loosely):=by
 unfold M.topOf;rw [W.Fast.te14082659384304107361,W.Fast.te14364793385576792824,W.Fast.te4187177175401517315];kernel_rfl
set_option maxHeartbeats 0 in
theorem M.topC (w:Ab)(j:OsState):(topFrom treeTable M.rowP w 4074 (M.atBoot w j)).isSome=true:=by
 unfold topFrom;rw [W.Fast.te14082659384304107361,W.Fast.te14364793385576792824];kernel_rfl
end
namespace M
open PySem L2
theorem Ziy {α:Type}{l:List α}(h:l.length=0):l=[]:=List.length_eq_zero_iff.mp h
theorem ZeA {α:Type}{l:List α}(h:l.length=n+1):∃a t,l=a::t/\t.length=n:=by
 cases l with
 | nil=>cases h
 | cons a t=>exact ⟨a,t,rfl,by simpa using h⟩
theorem ZeB {α:Type}{l:List α}(h:l.length=1):∃a,l=[a]:=by
 obtain ⟨a,t,rfl,g⟩:=ZeA h;exact ⟨a,by rw [Ziy g]⟩
theorem YB {α:Type}{l:List α}(h:l.length=2):∃q j,l=[q,j]:=by
 obtain ⟨a,t,rfl,g⟩:=ZeA h;obtain ⟨j,rfl⟩:=ZeB g;exact ⟨a,j,rfl⟩
theorem ZgI {α:Type}{l:List α}(h:l.length=3):∃B j q,l=[B,j,q]:=by
 obtain ⟨a,t,rfl,g⟩:=ZeA h;obtain ⟨j,q,rfl⟩:=YB g;exact ⟨a,j,q,rfl⟩
theorem ZgJ {α:Type}{l:List α}(h:l.length=4):∃D j q B,l=[D,j,q,B]:=by
 obtain ⟨a,t,rfl,g⟩:=ZeA h;obtain ⟨j,q,B,rfl⟩:=ZgI g;exact ⟨a,j,q,B,rfl⟩
theorem Ziz {α:Type}{l:List α}(h:l.length=5):∃L j q B D,l=[L,j,q,B,D]:=by
 obtain ⟨a,t,rfl,g⟩:=ZeA h;obtain ⟨j,q,B,D,rfl⟩:=ZgJ g;exact ⟨a,j,q,B,D,rfl⟩
theorem ZiA {α:Type}{l:List α}(h:l.length=6):∃N j q B D L,l=[N,j,q,B,D,L]:=by
 obtain ⟨a,t,rfl,g⟩:=ZeA h;obtain ⟨j,q,B,D,L,rfl⟩:=Ziz g;exact ⟨a,j,q,B,D,L,rfl⟩
theorem ZiC {α:Type}{l:List α}(h:l.length=7):∃O j q B D L N,l=[O,j,q,B,D,L,N]:=by
 obtain ⟨a,t,rfl,g⟩:=ZeA h;obtain ⟨j,q,B,D,L,N,rfl⟩:=ZiA g;exact ⟨a,j,q,B,D,L,N,rfl⟩
structure DefIs (K:FG)(x:Str)(st:Stmt)(f:AD)(cd:Aa):Prop where
 a:W.nsIn K mainGlobals x=some (some (.ref f))
 l:∃(oc:Aa)(od:Option AD)(kV dc pm:Aa)(an:Option AD)(ct:Aa)(sl:Array (Option Aa)),K.lookup f=some ⟨oc,od,.func (W.fnOf x x (Ji st) (GP st) (Gf st) .none kV dc pm an cd ct),sl⟩
 c:W.codeIn K cd x=true
 k:W.keepIn K (.ref f)=true
theorem DefIs.fn (d:DefIs K x st f j):∃fd,Fun K x x st f fd/\fd.code=j:=by
 obtain ⟨_,_,_,_,_,_,_,_,q⟩:=d.l;exact ⟨_,ZX (st:=st) q d.c d.k,rfl⟩
theorem all_mk {l:W.OpenLaw}{w:Ab}{K:FG}{h:Heap}{mg:Str->Option Aa}{fa f1 f2 f3 f4 f5 f6 f7 f8 f9 f10 f11 f12 f13 f14 f15 f16 f17 f18 f19 f20 f21 f22 f23 f24 f25 f26 fL no nw way nn C fI fU dT cD tD cT tT:AD}{ocI kVI dcI pmI cdI ctI ocU kVU dcU pmU cdU ctU dtc ocL kVL dcL pmL cdL ctL g1 g3 g4 g5 g6 g7 g9 g10 g11 g12 g13 g14 g15 g16 g17 g18 g19 g20 g21 g22 g23 g24 g25 g26:Aa}{odI anI odU anU dtd odL anL:Option AD}{slI slU dts slL:Array (Option Aa)}{dtn:Nat}{tN:Tok}{occD:Aa}{odcD:Option AD}{vsD:Array Aa}{slcD:Array (Option Aa)}{occT:Aa}{odcT:Option AD}{vsT:Array Aa}{slcT:Array (Option Aa)}(X:K.In h)(G:h.Ns mainGlobals mg)(hfa:mg "law" = some (.ref fa))(d1:DefIs K "parts_below" ZfA f1 g1)(d2:DefIs K "laid_down" ZeF f2 (.ref cD))(d3:DefIs K "found_from" ZfB f3 g3)(d4:DefIs K "numbered" ZfC f4 g4)(d5:DefIs K "least_table" ZfD f5 g5)(d6:DefIs K "family_parts" ZgV f6 g6)(d7:DefIs K "table_of" ZgW f7 g7)(d8:DefIs K "from_below" ZgS f8 (.ref cT))(d9:DefIs K "cheapest_below" ZeD f9 g9)(d10:DefIs K "price_paper" ZeE f10 g10)(d11:DefIs K "is_right" ZgT f11 g11)(d12:DefIs K "paper_shows" ZgU f12 g12)(d13:DefIs K "_law_cell_at" ZeG f13 g13)(d14:DefIs K "_law_stir" ZeH f14 g14)(d15:DefIs K "_law_bits" ZfE f15 g15)(d16:DefIs K "_law_family" ZfF f16 g16)(d17:DefIs K "_law_prices" ZgX f17 g17)(d18:DefIs K "_law_sum" ZgY f18 g18)(d19:DefIs K "_law_number" ZgZ f19 g19)(d20:DefIs K "_law_shows" Zg0 f20 g20)(d21:DefIs K "_law_in_order" ZfG f21 g21)(d22:DefIs K "_law_all_sets" Zg1 f22 g22)(d23:DefIs K "_law_great_table" Zg2 f23 g23)(d24:DefIs K "_law_cheapest" ZeI f24 g24)(d25:DefIs K "_law_whole" Zg3 f25 g25)(d26:DefIs K "_law_no_paper" Zg4 f26 g26)(aL:W.nsIn K mainGlobals "law" = some (some (.ref fL)))(lL:K.lookup fL=some ⟨ocL,odL,.func (W.fnOf "law" "law" (Ji Zct) (GP Zct) (Gf Zct) .none kVL dcL pmL anL cdL ctL),slL⟩)(cL:W.codeIn K cdL "law" = true)(kL:W.keepIn K (.ref fL)=true)(gno:W.nsIn K mainGlobals "TooMany" = some (some (.ref no)))(xex:ExcC K no)(kit:W.kitOne K (.type "int") (.type "tuple")=some false)(kit2:W.kitOne K (.type "tuple") (.type "int")=some false)(gMN:W.nsIn K mainGlobals "MOST_NODES" = some (some (.int 800 tN)))(gnw:W.nsIn K mainGlobals "NoWay" = some (some (.ref nw)))(gway:W.nsIn K mainGlobals "WayError" = some (some (.ref way)))(gnn:W.nsIn K mainGlobals "NoNumber" = some (some (.ref nn)))(xnw:ExcC K nw)(xga:W.findIn K (.ref nw) "__getattribute__" = some (some (.builtin "BaseException.__getattribute__")))(xnga:W.findIn K (.ref nw) "__getattr__" = some none)(xcl:W.findIn K (.ref nw) "__class__" = some (some (.builtin "object.__class__")))(xob:W.mroIn K nw (.type "object")=some true)(xbe:W.subIn K (.ref nw) (.type "BaseException")=some true)(wbe:W.subIn K (.ref way) (.type "BaseException")=some true)(cw:W.kitOne K (.ref nw) (.ref way)=some true)(nnw:nw≠way)(fl1:W.kitOne K (.ref nw) (.ref nn)=some false)(fl2:W.kitOne K (.ref nw) (.ref no)=some false)(ve:W.kitOne K (.ref nw) (.type "ValueError")=some true)(kib:W.kitOne K (.type "int") (.type "bool")=some false)(aC:W.nsIn K mainGlobals "Shelf" = some (some (.ref C)))(aI:W.findIn K (.ref C) "__init__" = some (some (.ref fI)))(iI:W.isFn K (.ref fI)=true)(lI:K.lookup fI=some ⟨ocI,odI,.func (W.fnOf "__init__" "Shelf.__init__" (Ji Zcu) (GP Zcu) (Gf Zcu) (.ref dT) kVI dcI pmI anI cdI ctI),slI⟩)(cI:W.codeIn K cdI "Shelf.__init__" = true)(kI:W.keepIn K (.ref fI)=true)(aU:W.findIn K (.ref C) "put" = some (some (.ref fU)))(iU:W.isFn K (.ref fU)=true)(lU:K.lookup fU=some ⟨ocU,odU,.func (W.fnOf "put" "Shelf.put" (Ji Zej) (GP Zej) (Gf Zej) .none kVU dcU pmU anU cdU ctU),slU⟩)(cU:W.codeIn K cdU "Shelf.put" = true)(kU:W.keepIn K (.ref fU)=true)(dTl:K.lookup dT=some ⟨dtc,dtd,.seq #[.none] dtn,dts⟩)(pg:W.plainGet K C Str.empty=true)(hd:W.hasDictIn K C=true)(po:W.plainOver K C=true)(sa:W.findIn K (.ref C) "__setattr__" = some (some (.builtin "object.__setattr__")))(mk:W.makesIn K C=true)(kc:W.keepIn K (.ref C)=true)(nM:W.findIn K (.ref C) "most" = some none)(nN:W.findIn K (.ref C) "nodes" = some none)(nP:W.findIn K (.ref C) "places" = some none)(lcD:K.lookup cD=some ⟨occD,odcD,.fields vsD,slcD⟩)(v11D:(vsD[11]?:Option Aa)=some (.ref tD))(nTabD:K.lookup tD=none)(lcT:K.lookup cT=some ⟨occT,odcT,.fields vsT,slcT⟩)(v11T:(vsT[11]?:Option Aa)=some (.ref tT))(nTabT:K.lookup tT=none)(nDT:tD≠tT)(nrange:W.nsIn K mainGlobals "range" = some none)(nlist:W.nsIn K mainGlobals "list" = some none)(nlen:W.nsIn K mainGlobals "len" = some none)(nint:W.nsIn K mainGlobals "int" = some none)(nmin:W.nsIn K mainGlobals "min" = some none)(nsorted:W.nsIn K mainGlobals "sorted" = some none)(nbool:W.nsIn K mainGlobals "bool" = some none)(ntuple:W.nsIn K mainGlobals "tuple" = some none)(nisinstance:W.nsIn K mainGlobals "isinstance" = some none)(nset:W.nsIn K mainGlobals "set" = some none)(nenumerate:W.nsIn K mainGlobals "enumerate" = some none)(nall:W.nsIn K mainGlobals "all" = some none)(nsum:W.nsIn K mainGlobals "sum" = some none)(nValueError:W.nsIn K mainGlobals "ValueError" = some none)
  : ∃(fd:FuncData)(c P c2 P2:AD),W.tabIn K "laid_down" = some (c,P)/\K.lookup P=none/\W.tabIn K "from_below" = some (c2,P2)/\K.lookup P2=none/\P≠P2/\(∀(s:SS)(v:Aa),BindsTo s fd ⟨[v],[]⟩ [("script", v)])/\∀base:Heap,K.In base->base.Ns mainGlobals mg->W.CodeHd base c P->base.BuiltinsAt mg P->W.CodeHd base c2 P2->base.BuiltinsAt mg P2->GG l.prog w K mg base CX0 6 fa fd ["script"] (ZcK K P P2):=by
 have e:=hfa.symm.trans (Ybi X G aL);cases e;obtain ⟨_,FPb,_⟩:=d1.fn;have bPb:=FPb.binds (ps:=["start", "parts"]) λ_ _ _ _ _ _ us hl=>by obtain ⟨_,_,rfl⟩:=YB hl;rfl
 have mPb:=Ybi X G d1.a;obtain ⟨_,FLd,cLd⟩:=d2.fn;have bLd:=FLd.binds (ps:=["start", "parts", "shelf"]) λ_ _ _ _ _ _ us hl=>by obtain ⟨_,_,_,rfl⟩:=ZgI hl;rfl
 have mLd:=Ybi X G d2.a;obtain ⟨_,FF,_⟩:=d3.fn;have bF:=FF.binds (ps:=["root", "nodes"]) λ_ _ _ _ _ _ us hl=>by obtain ⟨_,_,rfl⟩:=YB hl;rfl
 have mF:=Ybi X G d3.a;obtain ⟨_,FNu,_⟩:=d4.fn;have bNu:=FNu.binds (ps:=["root", "nodes"]) λ_ _ _ _ _ _ us hl=>by obtain ⟨_,_,rfl⟩:=YB hl;rfl
 have mNu:=Ybi X G d4.a;obtain ⟨_,FLt,_⟩:=d5.fn;have bLt:=FLt.binds (ps:=["start", "parts", "most"]) λ_ _ _ _ _ _ us hl=>by obtain ⟨_,_,_,rfl⟩:=ZgI hl;rfl
 have mLt:=Ybi X G d5.a;obtain ⟨_,FFm,_⟩:=d6.fn;have bFm:=FFm.binds (ps:=["sets"]) λ_ _ _ _ _ _ us hl=>by obtain ⟨_,rfl⟩:=ZeB hl;rfl
 have mFm:=Ybi X G d6.a;obtain ⟨_,FTo,_⟩:=d7.fn;have bTo:=FTo.binds (ps:=["sets"]) λ_ _ _ _ _ _ us hl=>by obtain ⟨_,rfl⟩:=ZeB hl;rfl
 have mTo:=Ybi X G d7.a;obtain ⟨_,FFb,cFb⟩:=d8.fn;have bFb:=FFb.binds (ps:=["nodes"]) λ_ _ _ _ _ _ us hl=>by obtain ⟨_,rfl⟩:=ZeB hl;rfl
 have mFb:=Ybi X G d8.a;obtain ⟨_,FCb,_⟩:=d9.fn;have bCb:=FCb.binds (ps:=["nodes", "prices", "k"]) λ_ _ _ _ _ _ us hl=>by obtain ⟨_,_,_,rfl⟩:=ZgI hl;rfl
 have mCb:=Ybi X G d9.a;obtain ⟨_,FPp,_⟩:=d10.fn;have bPp:=FPp.binds (ps:=["table", "prices"]) λ_ _ _ _ _ _ us hl=>by obtain ⟨_,_,rfl⟩:=YB hl;rfl
 have mPp:=Ybi X G d10.a;obtain ⟨_,FIr,_⟩:=d11.fn;have bIr:=FIr.binds (ps:=["shown", "number", "node", "prices"]) λ_ _ _ _ _ _ us hl=>by obtain ⟨_,_,_,_,rfl⟩:=ZgJ hl;rfl
 have mIr:=Ybi X G d11.a;obtain ⟨_,FPs,_⟩:=d12.fn;have bPs:=FPs.binds (ps:=["table", "prices", "paper", "price"]) λ_ _ _ _ _ _ us hl=>by obtain ⟨_,_,_,_,rfl⟩:=ZgJ hl;rfl
 have mPs:=Ybi X G d12.a;obtain ⟨_,FA,_⟩:=d13.fn;have bA:=FA.binds (ps:=["script", "k"]) λ_ _ _ _ _ _ us hl=>by obtain ⟨_,_,rfl⟩:=YB hl;rfl
 have mA:=Ybi X G d13.a;obtain ⟨_,FSr,_⟩:=d14.fn;have bSr:=FSr.binds (ps:=["cell", "k"]) λ_ _ _ _ _ _ us hl=>by obtain ⟨_,_,rfl⟩:=YB hl;rfl
 have mSr:=Ybi X G d14.a;obtain ⟨_,FBt,_⟩:=d15.fn;have bBt:=FBt.binds (ps:=["number", "width"]) λ_ _ _ _ _ _ us hl=>by obtain ⟨_,_,rfl⟩:=YB hl;rfl
 have mBt:=Ybi X G d15.a;obtain ⟨_,FFy,_⟩:=d16.fn;have bFy:=FFy.binds (ps:=["script", "start"]) λ_ _ _ _ _ _ us hl=>by obtain ⟨_,_,rfl⟩:=YB hl;rfl
 have mFy:=Ybi X G d16.a;obtain ⟨_,FPr,_⟩:=d17.fn;have bPr:=FPr.binds (ps:=["cell", "many"]) λ_ _ _ _ _ _ us hl=>by obtain ⟨_,_,rfl⟩:=YB hl;rfl
 have mPr:=Ybi X G d17.a;obtain ⟨_,FSu,_⟩:=d18.fn;have bSu:=FSu.binds (ps:=["roads", "prices"]) λ_ _ _ _ _ _ us hl=>by obtain ⟨_,_,rfl⟩:=YB hl;rfl
 have mSu:=Ybi X G d18.a;obtain ⟨_,FNb,_⟩:=d19.fn;have bNb:=FNb.binds (ps:=["paper", "k"]) λ_ _ _ _ _ _ us hl=>by obtain ⟨_,_,rfl⟩:=YB hl;rfl
 have mNb:=Ybi X G d19.a;obtain ⟨_,FSw,_⟩:=d20.fn;have bSw:=FSw.binds (ps:=["table", "prices", "paper", "price"]) λ_ _ _ _ _ _ us hl=>by obtain ⟨_,_,_,_,rfl⟩:=ZgJ hl;rfl
 have mSw:=Ybi X G d20.a;obtain ⟨_,FO,_⟩:=d21.fn;have bO:=FO.binds (ps:=["root", "nodes"]) λ_ _ _ _ _ _ us hl=>by obtain ⟨_,_,rfl⟩:=YB hl;rfl
 have mO:=Ybi X G d21.a;obtain ⟨_,FAl,_⟩:=d22.fn;have bAl:=FAl.binds (ps:=["roads"]) λ_ _ _ _ _ _ us hl=>by obtain ⟨_,rfl⟩:=ZeB hl;rfl
 have mAl:=Ybi X G d22.a;obtain ⟨_,FGt,_⟩:=d23.fn;have bGt:=FGt.binds (ps:=["script", "start"]) λ_ _ _ _ _ _ us hl=>by obtain ⟨_,_,rfl⟩:=YB hl;rfl
 have mGt:=Ybi X G d23.a;obtain ⟨_,FCh,_⟩:=d24.fn;have bCh:=FCh.binds (ps:=["table", "prices", "many"]) λ_ _ _ _ _ _ us hl=>by obtain ⟨_,_,_,rfl⟩:=ZgI hl;rfl
 have mCh:=Ybi X G d24.a;obtain ⟨_,FWh,_⟩:=d25.fn;have bWh:=FWh.binds (ps:=["found"]) λ_ _ _ _ _ _ us hl=>by obtain ⟨_,rfl⟩:=ZeB hl;rfl
 have mWh:=Ybi X G d25.a;obtain ⟨_,FNp,_⟩:=d26.fn;have bNp:=FNp.binds (ps:=["prices"]) λ_ _ _ _ _ _ us hl=>by obtain ⟨_,rfl⟩:=ZeB hl;rfl
 have mNp:=Ybi X G d26.a;have FL:=ZX (st:=Zct) lL cL kL;have tTabD:W.tabIn K "laid_down" = some (cD,tD):=by
  obtain ⟨_,_,_,_,_,_,_,_,hl⟩:=d2.l;unfold W.tabIn;simp only [d2.a,hl,W.fnOf,lcD,v11D]
 have tTabT:W.tabIn K "from_below" = some (cT,tT):=by
  obtain ⟨_,_,_,_,_,_,_,_,hl⟩:=d8.l;unfold W.tabIn;simp only [d8.a,hl,W.fnOf,lcT,v11T]
 refine ⟨W.fnOf "law" "law" (Ji Zct) (GP Zct) (Gf Zct) .none kVL dcL pmL anL cdL ctL,cD,tD,cT,tT,tTabD,nTabD,tTabT,nTabT,nDT,λs v=>.of_eq rfl,λbase _ _ hCD hBlD hC hBl=>?_⟩;have TS:ZfH K mg C no:=⟨⟨pg,hd,po,sa⟩,nM,nN,nP,(Ybi X G aC)⟩;have FI:=ZdR (st:=Zcu) lI cI kI;have bI:Binds K _ ["self", "most"] []:=λs us X' hl=>match us,hl with | [_,_],_=>W.binds_K (fd:=W.fnOf "__init__" "Shelf.__init__" (Ji Zcu) (GP Zcu) (Gf Zcu) (.ref dT) kVI dcI pmI anI cdI ctI) X' rfl dTl rfl rfl rfl
 have FU:=ZX (st:=Zej) lU cU kU;have bU:=FU.binds (ps:=["self", "road", "low", "high"]) λ_ _ _ _ _ _ us hl=>by obtain ⟨_,_,_,_,rfl⟩:=ZgJ hl;rfl
 have GI:=ZfJ (P:=l.prog) (w:=w) (base:=base) FI TS;have GU:=ZfL (P:=l.prog) (w:=w) (base:=base) FU TS (Ybi X G gno) xex (Yat X G nlen);have TN:ClsN K mg nw way nn no:=⟨⟨xnw,xga,xnga,xcl,xob,xbe⟩,(Ybi X G gnw),(Ybi X G gway),(Ybi X G gnn),(Ybi X G gno),wbe,cw,nnw,fl1,fl2,ve,(Yat X G nValueError)⟩;have GFm:=Zf5 (P:=l.prog) (w:=w) (base:=base) FFm (Yat X G nmin) (Yat X G ntuple);have GPb:=ZfN (P:=l.prog) (w:=w) (base:=base) (G:=gkF l.prog w) (pf:=pfF) (Dom:=DmF) FPb FFm bFm GFm (λs k r d=>Zf4 r d) kit (Yat X G nisinstance) (Yat X G ntuple);have GLd:=ZfX (P:=l.prog) (w:=w) (base:=base) FLd cLd hCD hBlD FPb bPb mPb GPb Zeo TS ⟨aU,iU,kU⟩ bU GU kit kit2 (Yat X G nisinstance) (Yat X G ntuple) (Yat X G nint) (Yat X G nsorted);have GF:=ZfT (mg:=mg) (P:=l.prog) (w:=w) (base:=base) FF;have GNu:=ZfV (P:=l.prog) (w:=w) (base:=base) FNu FF bF mF GF (Yat X G nenumerate);have GLt:=ZfZ (P:=l.prog) (w:=w) (base:=base) FLt TS ⟨mk,aI,iI,kc⟩ bI GI FLd bLd mLd GLd FNu bNu mNu GNu;have GTo:=Zf7 (P:=l.prog) (w:=w) (base:=base) FTo mFm (Ybi X G gMN) FLt bLt mLt GLt (Yat X G ntuple) (Yat X G nsorted) (Yat X G nset);have GFb:=Zgn (P:=l.prog) (w:=w) (base:=base) FFb cFb hC hBl (Yat X G nsorted) (Yat X G nrange) (Yat X G nlen);have GCb:=Zgr (P:=l.prog) (w:=w) (base:=base) FCb FFb bFb mFb GFb (Yat X G nsorted);have GPp:=Zgz (P:=l.prog) (w:=w) (base:=base) FPp FCb bCb mCb GCb (Ybi X G gnw) xnw (Yat X G nrange) (Yat X G nlen);have GA:=ZfP (P:=l.prog) (w:=w) (base:=base) FA (Yat X G nlen);have GSr:=Zgd (mg:=mg) (P:=l.prog) (w:=w) (base:=base) FSr;have GBt:=Zf8 (P:=l.prog) (w:=w) (base:=base) FBt (Yat X G nrange);have GFy:=Zgl (P:=l.prog) (w:=w) (base:=base) FFy FA bA mA GA FBt bBt mBt GBt FSr bSr mSr GSr (Yat X G nrange) (Yat X G nlen) (Yat X G nmin) (Yat X G nsorted);have GPr:=Zgf (P:=l.prog) (w:=w) (base:=base) FPr FSr bSr mSr GSr (Yat X G nrange);have GSu:=ZgB (P:=l.prog) (w:=w) (base:=base) FSu (Yat X G nsum);have GNb:=Zgc (mg:=mg) (P:=l.prog) (w:=w) (base:=base) FNb;have GSw:=Zgh (P:=l.prog) (w:=w) (base:=base) FSw FNb bNb mNb GNb (Yat X G nlen) (Yat X G nrange);have GIr:=Zga (mg:=mg) (P:=l.prog) (w:=w) (base:=base) FIr;have GPs:=Zgj (P:=l.prog) (w:=w) (base:=base) FPs FIr bIr mIr GIr (Yat X G nlen) (Yat X G nall) (Yat X G nenumerate);have GO:=ZfR (P:=l.prog) (w:=w) (base:=base) FO (Yat X G nlen);have GAl:=Zgt (P:=l.prog) (w:=w) (base:=base) FAl (Yat X G nrange) (Yat X G nlen);have GGt:=Zgv (P:=l.prog) (w:=w) (base:=base) FGt FA bA mA GA FBt bBt mBt GBt FSr bSr mSr GSr FAl bAl mAl GAl FO bO mO GO (Yat X G nlen);have GCh:=Zgx (P:=l.prog) (w:=w) (base:=base) FCh (Yat X G nsorted) (Yat X G nrange) (Yat X G nlen);have GWh:=ZgD (P:=l.prog) (w:=w) (base:=base) FWh kib (Yat X G nisinstance) (Yat X G nint) (Yat X G nbool);have GNp:=ZgF (P:=l.prog) (w:=w) (base:=base) FNp TN FPp bPp mPp GPp (Yat X G nisinstance);exact ZgH FL FA bA mA GA FFy bFy mFy GFy FPr bPr mPr GPr FTo bTo mTo GTo FGt bGt mGt GGt FCh bCh mCh GCh FNp bNp mNp GNp FSu bSu mSu GSu FPp bPp mPp GPp FWh bWh mWh GWh FSw bSw mSw GSw FPs bPs mPs GPs (Yat X G nlist) (Yat X G nmin) (Yat X G nisinstance) (Yat X G nlen)
theorem walk {l:W.OpenLaw}{K:Params->FG}(hn:l.most=some 63)(L:d.params.defaults=[])(hY:∀(w:Ab)(h:Heap),U w h->(K w.params).In h)(D:(PyProof.Rows.recsOf q).find? (λe=>e.name == Str.ofString "laid_down")=some dd)(B:(PyProof.Rows.recsOf q).find? (λe=>e.name == Str.ofString "from_below")=some Z)(F:∀(w:Ab)(mg:Str->Option Aa)(fa:AD)(h:Heap),(K w.params).In h->h.Ns mainGlobals mg->mg d.name=some (.ref fa)->∃(fd:FuncData)(c P c2 P2:AD),W.tabIn (K w.params) "laid_down" = some (c,P)/\(K w.params).lookup P=none/\W.tabIn (K w.params) "from_below" = some (c2,P2)/\(K w.params).lookup P2=none/\P≠P2/\(∀(s:SS)(v:Aa),BindsTo s fd ⟨[v],[]⟩ [("script", v)])/\∀base:Heap,(K w.params).In base->base.Ns mainGlobals mg->W.CodeHd base c P->base.BuiltinsAt mg P->W.CodeHd base c2 P2->base.BuiltinsAt mg P2->GG l.prog w (K w.params) mg base CX0 6 fa fd ["script"] (ZcK (K w.params) P P2)) :
  W.WalkO q j Y U l.row.toRowW d [] (λf vs=>PySem.call f vs):=
 L2.walk_of2 (n:=63) (k:=6) (x := "script") (tn:=Str.ofString "laid_down") (tm:=Str.ofString "from_below") (CX:=λ_=>CX0) (sp:=λw P P2=>ZcK (K w.params) P P2) hn (by decide) L ⟨rfl,by decide,by decide⟩ hY D B F (λ_ P P2 _ a ns hl hP N O hS=>⟨a,ns,rfl,hS,hl,hP,N,O,λ_=>rfl⟩) λ_ _ _ _ _ z=>z
end M
open PySem PySem.W PyProof.Rows
local macro_rules
 | `(tactic| o_head $H)=>`(tactic| (
  refine @holds_open _ M.seenP M.loosely M.hookX (XL M.seenP []) _ (Hook.obs $H) (Hook.val $H) (Hook.says $H) _ _ 4074
   (@M.left_boot M.rowP M.seenP M.loosely M.hookX _ (Hook.obs $H) (Hook.val $H) 4074 ?b1 ?b2 ?b3 M.topC M.topA ?hl)
   (Hook.of $H) (Hook.keeps $H) ?h1 XL.keeps (by rfl) (by rfl) (by rfl) ?h5 ?h6 ?h7 ?h8 ?h9 ?hw ?hc
  (case h1=>exact λs e=>xl_of s (Bool.and_eq_true_iff.mp e).1)
  (case h5=>exact λs e=>recFacts_of (Bool.and_eq_true_iff.mp e).2)
  (case h6=>rfl)
  (case h7=>first | assumption | decide +kernel)
  (case h8=>decide +kernel)
  (case h9=>exact ⟨rfl,rfl,rfl,rfl,rfl,by decide +kernel⟩)
  (case b1=>kernel_rfl)
  (case b2=>decide)
  (case b3=>(intro s;kernel_rfl))
  (case hl=>(intro w os;unfold M.topOf;rw [W.Fast.te14082659384304107361,W.Fast.te14364793385576792824];kernel_rfl))))
set_option maxRecDepth 100000 in
set_option maxHeartbeats 0 in
theorem PySem.Challenge.cw_onceways_k58_papers_told_holds : PySem.Challenge.rw_onceways_k58_papers_told.Holds := by
 w_on;o_law;k_head;(case hw=>w_witness2)
 k_fill
 refine M.walk (l:=PySem.Challenge.rw_onceways_k58_papers_told) rfl rfl (λw h Y=>W.km_in_of Y) (by rfl) (by rfl) ?F
 case F=>
  intro w mg fa h KX G hmg
  refine' M.all_mk KX G hmg ?d1 ?d2 ?d3 ?d4 ?d5 ?d6 ?d7 ?d8 ?d9 ?d10 ?d11 ?d12 ?d13 ?d14 ?d15 ?d16 ?d17 ?d18 ?d19 ?d20 ?d21 ?d22 ?d23 ?d24 ?d25 ?d26 ?aL ?lL ?cL ?kL ?gno ?xex ?kit ?kit2 ?gMN ?gnw ?gway ?gnn ?xnw ?xga ?xnga ?xcl ?xob ?xbe ?wbe ?cw ?nnw ?fl1 ?fl2 ?ve ?kib ?aC ?aI ?iI ?lI ?cI ?kI ?aU ?iU ?lU ?cU ?kU ?dTl ?pg ?hd ?po ?sa ?mk ?kc ?nM ?nN ?nP ?lcD ?v11D ?nTabD ?lcT ?v11T ?nTabT ?nDT ?nrange ?nlist ?nlen ?nint ?nmin ?nsorted ?nbool ?ntuple ?nisinstance ?nset ?nenumerate ?nall ?nsum ?nValueError
  (case d1 | d2 | d3 | d4 | d5 | d6 | d7 | d8 | d9 | d10 | d11 | d12 | d13 | d14 | d15 | d16 | d17 | d18 | d19 | d20 | d21 | d22 | d23 | d24 | d25 | d26=>exact ⟨by k_is,⟨_,_,_,_,_,_,_,_,by k_is⟩,by k_is,by k_is⟩)
  (case aL | lL | cL | kL | gno=>k_is)
  (case xex=>(unfold L2.ExcC;k_exc))
  (case kit | kit2=>kit_is)
  (case gMN | gnw | gway | gnn=>k_is)
  (case xnw=>(unfold L2.ExcC;k_exc))
  (case xga | xnga | xcl | xob | xbe | wbe=>k_is)
  (case cw=>kit_is)
  (case nnw=>decide)
  (case fl1 | fl2 | ve | kib=>kit_is)
  (case aC | aI | iI | lI | cI | kI | aU | iU | lU | cU | kU | dTl | pg | hd | po | sa | mk | kc | nM | nN | nP | lcD=>k_is)
  (case v11D=>exact rfl)
  (case nTabD=>kernel_rfl)
  (case lcT=>k_is)
  (case v11T=>exact rfl)
  (case nTabT=>kernel_rfl)
  (case nDT=>decide)
  (case nrange | nlist | nlen | nint | nmin | nsorted | nbool | ntuple | nisinstance | nset | nenumerate | nall | nsum | nValueError=>k_is)
#print axioms PySem.Challenge.cw_onceways_k58_papers_told_holds
