import PyProof.Rows.All
import Wide.All
import OpenK.AllK
import Wide.FinOn
import Lean
import PyProof.EqAt
import PyProof.EqKinds
import PyProof.TupleCall
import PyProof.SumAny
import PySem.Challenge.RW_onceways_k62_papers_together
set_option Elab.async false
set_option linter.all false
set_option maxRecDepth 100000
set_option maxHeartbeats 4000000
noncomputable abbrev LI:=List Int
noncomputable abbrev LW:=List PySem.Value
noncomputable abbrev Aa:=PySem.Value
noncomputable abbrev SS:=PySem.Shared
noncomputable abbrev PP:=PySem.Program
noncomputable abbrev Ab:=PySem.World
abbrev FG:=PySem.W.Frag
abbrev AD:=PySem.Addr
abbrev EX:=PySem.Value->PySem.Shared->Prop
section
open PySem PySem.Spec PyProof.Rows
theorem Yaa:type_of% @wpAny_bind:=@wpAny_bind
theorem Yab:type_of% @wpAny_pure:=@wpAny_pure
theorem Yac:type_of% @List.length_map:=@List.length_map
theorem Yad:type_of% @wpS_bind:=@wpS_bind
theorem Yae:type_of% @Heap.get?_push_of_some:=@Heap.get?_push_of_some
theorem Yaf:type_of% @Nat.le_refl:=@Nat.le_refl
theorem Yag:type_of% @wpS_pure:=@wpS_pure
theorem Yah:type_of% @Heap.lt_size:=@Heap.lt_size
theorem Yai:type_of% @List.mem_singleton:=@List.mem_singleton
theorem Yaj:type_of% @List.mem_append:=@List.mem_append
theorem Yak:type_of% @List.length_append:=@List.length_append
theorem Yal:type_of% @List.mem_map:=@List.mem_map
theorem Yam:type_of% @List.mem_cons:=@List.mem_cons
theorem Yan:type_of% @Array.length_toList:=@Array.length_toList
theorem Yao:type_of% @List.getElem?_eq_some_iff:=@List.getElem?_eq_some_iff
theorem Yap:type_of% @Bool.false_ne_true:=@Bool.false_ne_true
theorem Yaq:type_of% @List.map_cons:=@List.map_cons
theorem Yar:type_of% @Nat.ne_of_lt:=@Nat.ne_of_lt
theorem Yas:type_of% @List.map_append:=@List.map_append
theorem Yat:type_of% @Nat.zero_le:=@Nat.zero_le
theorem Yau:type_of% @List.size_toArray:=@List.size_toArray
theorem Yav:type_of% @sizeLine_eq:=@sizeLine_eq
theorem Yaw:type_of% @Heap.get?_push_size:=@Heap.get?_push_size
theorem Yax:type_of% @Array.getElem?_toList:=@Array.getElem?_toList
theorem Yay:type_of% @decide_eq_true:=@decide_eq_true
theorem Yaz:type_of% @List.getElem?_map:=@List.getElem?_map
theorem Yba:type_of% @List.getElem?_eq_getElem:=@List.getElem?_eq_getElem
theorem Ybb:type_of% @W.mg_none_of:=@W.mg_none_of
theorem Ybc:type_of% @List.length_singleton:=@List.length_singleton
theorem Ybd:type_of% @Array.getElem?_eq_getElem:=@Array.getElem?_eq_getElem
theorem Ybe:type_of% @List.mem_cons_of_mem:=@List.mem_cons_of_mem
theorem Ybf:type_of% @List.mem_of_getElem?:=@List.mem_of_getElem?
theorem Ybg:type_of% @List.mem_cons_self:=@List.mem_cons_self
theorem Ybh:type_of% @congrArg:=@congrArg
theorem Ybi:type_of% @beq_iff_eq:=@beq_iff_eq
theorem Ybj:type_of% @W.mg_of:=@W.mg_of
theorem Ybk:type_of% @Nat.lt_of_lt_of_le:=@Nat.lt_of_lt_of_le
theorem Ybl:type_of% @Option.some.inj:=@Option.some.inj
theorem Ybm:type_of% @List.length_cons:=@List.length_cons
theorem Ybn:type_of% @Heap.size_push:=@Heap.size_push
theorem Ybo:type_of% @List.length_take:=@List.length_take
theorem Ybp:type_of% @decide_eq_false:=@decide_eq_false
theorem Ybq:type_of% @Nat.le_trans:=@Nat.le_trans
theorem Ybr:type_of% @wpAny_mono:=@wpAny_mono
theorem Ybs:type_of% @List.pairwise_map:=@List.pairwise_map
theorem Ybt:type_of% @of_decide_eq_true:=@of_decide_eq_true
theorem Ybu:type_of% @List.append_assoc:=@List.append_assoc
theorem Ybv:type_of% @List.getD_eq_getElem?_getD:=@List.getD_eq_getElem?_getD
theorem Ybw:type_of% @Option.map_eq_some_iff:=@Option.map_eq_some_iff
theorem Ybx:type_of% @PySem.boot_len:=@PySem.boot_len
theorem Yby:type_of% @List.mem_append_right:=@List.mem_append_right
theorem Ybz:type_of% @Bool.and_eq_true:=@Bool.and_eq_true
theorem Yca:type_of% @List.pairwise_append:=@List.pairwise_append
theorem Ycb:type_of% @wpAny_holding:=@wpAny_holding
theorem Ycc:type_of% @wpAny_call_entry:=@wpAny_call_entry
theorem Ycd:type_of% @List.take_length:=@List.take_length
theorem Yce:type_of% @wpS_forRange:=@wpS_forRange
theorem Ycf:type_of% @List.take_add_one:=@List.take_add_one
theorem Ycg:type_of% @List.mem_filter:=@List.mem_filter
theorem Ych:type_of% @PySem.F.plainAttrs_list:=@PySem.F.plainAttrs_list
theorem Yci:type_of% @List.mem_range:=@List.mem_range
theorem Ycj:type_of% @Int.emod_nonneg:=@Int.emod_nonneg
theorem Yck:type_of% @List.getElem_of_mem:=@List.getElem_of_mem
theorem Ycl:type_of% @List.nodup_append:=@List.nodup_append
theorem Ycm:type_of% @Nat.lt_irrefl:=@Nat.lt_irrefl
theorem Ycn:type_of% @Heap.get?_update_other:=@Heap.get?_update_other
theorem Yco:type_of% @Int.emod_lt_of_pos:=@Int.emod_lt_of_pos
theorem Ycp:type_of% @List.Nodup.length_le_of_subset:=@List.Nodup.length_le_of_subset
theorem Ycq:type_of% @Array.size_push:=@Array.size_push
theorem Ycr:type_of% @Heap.SameBut.update:=@Heap.SameBut.update
theorem Ycs:type_of% @wpS_modify:=@wpS_modify
theorem Yct:type_of% @listItems_at:=@listItems_at
theorem Ycu:type_of% @PassesOwn.never:=@PassesOwn.never
theorem Ycv:type_of% @Paired.length:=@Paired.length
theorem Ycw:type_of% @Nat.le_of_lt:=@Nat.le_of_lt
theorem Ycx:type_of% @List.getElem?_append_left:=@List.getElem?_append_left
theorem Ycy:type_of% @if_false:=@if_false
theorem Ycz:type_of% @codeAny_builtin:=@codeAny_builtin
theorem Yda:type_of% @Array.toList_append:=@Array.toList_append
theorem Ydb:type_of% @PySem.F.slot_list_append:=@PySem.F.slot_list_append
theorem Ydc:type_of% @PySem.F.type_list_append:=@PySem.F.type_list_append
theorem Ydd:type_of% @Nat.ne_of_gt:=@Nat.ne_of_gt
theorem Yde:type_of% @W.kia_one:=@W.kia_one
theorem Ydf:type_of% @Nat.not_lt_zero:=@Nat.not_lt_zero
theorem Ydg:type_of% @List.map_map:=@List.map_map
theorem Ydh:type_of% @wpAny_rule:=@wpAny_rule
theorem Ydi:type_of% @List.mem_filterMap:=@List.mem_filterMap
theorem Ydj:type_of% @wpAny_attempt:=@wpAny_attempt
theorem Ydk:type_of% @Around.in1_units:=@Around.in1_units
theorem Ydl:type_of% @List.find?_cons:=@List.find?_cons
theorem Ydm:type_of% @Nat.zero_add:=@Nat.zero_add
theorem Ydn:type_of% @Nat.add_sub_cancel':=@Nat.add_sub_cancel'
theorem Ydo:type_of% @List.length_range:=@List.length_range
theorem Ydp:type_of% @List.take_append_drop:=@List.take_append_drop
theorem Ydq:type_of% @Heap.get?_update_self:=@Heap.get?_update_self
theorem Ydr:type_of% @List.mem_append_left:=@List.mem_append_left
theorem Yds:type_of% @wpAny_newObj_type:=@wpAny_newObj_type
theorem Ydt:type_of% @Nat.le_succ:=@Nat.le_succ
theorem Ydu:type_of% @PySem.mem_of_lookup:=@PySem.mem_of_lookup
theorem Ydv:type_of% @List.getElem?_append_right:=@List.getElem?_append_right
theorem Ydw:type_of% @Int.toNat_natCast:=@Int.toNat_natCast
theorem Ydx:type_of% @wpAny_callSpecial?_slot:=@wpAny_callSpecial?_slot
theorem Ydy:type_of% @List.pairwise_cons:=@List.pairwise_cons
theorem Ydz:type_of% @Around.under_plainId:=@Around.under_plainId
theorem Yea:type_of% @beq_eq_false_iff_ne:=@beq_eq_false_iff_ne
theorem Yeb:type_of% @wpAny_truthy_bool:=@wpAny_truthy_bool
theorem Yec:type_of% @wpAny_typeOf:=@wpAny_typeOf
theorem Yed:type_of% @Bool.eq_false_iff:=@Bool.eq_false_iff
theorem Yee:type_of% @List.nodup_nil:=@List.nodup_nil
theorem Yef:type_of% @List.pairwise_iff_getElem:=@List.pairwise_iff_getElem
theorem Yeg:type_of% @plainId_quiet:=@plainId_quiet
theorem Yeh:type_of% @Sum.inl.inj:=@Sum.inl.inj
theorem Yei:type_of% @List.append_nil:=@List.append_nil
theorem Yej:type_of% @wpAny_Call_Name_kw:=@wpAny_Call_Name_kw
theorem Yek:type_of% @Option.isSome_iff_exists:=@Option.isSome_iff_exists
theorem Yel:type_of% @List.length_drop:=@List.length_drop
theorem Yem:type_of% @Bool.false_eq_true:=@Bool.false_eq_true
theorem Yen:type_of% @Nat.lt_succ_of_lt:=@Nat.lt_succ_of_lt
theorem Yeo:type_of% @Array.toList_push:=@Array.toList_push
theorem Yep:type_of% @wpAny_setState_of:=@wpAny_setState_of
theorem Yeq:type_of% @Array.toList_reverse:=@Array.toList_reverse
theorem Yer:type_of% @List.filter_append:=@List.filter_append
theorem Yes:type_of% @wpAny_passesOwn:=@wpAny_passesOwn
theorem Yet:type_of% @Array.getD_eq_getD_getElem?:=@Array.getD_eq_getD_getElem?
theorem Yeu:type_of% @List.getElem?_take:=@List.getElem?_take
theorem Yev:type_of% @List.getElem?_drop:=@List.getElem?_drop
theorem Yew:type_of% @wpAny_isInstance:=@wpAny_isInstance
theorem Yex:type_of% @F.plain_min_loop:=@F.plain_min_loop
theorem Yey:type_of% @Nat.min_eq_left:=@Nat.min_eq_left
theorem Yez:type_of% @getElem?_mirror_all:=@getElem?_mirror_all
theorem Yfa:type_of% @listUpdate_at:=@listUpdate_at
theorem Yfb:type_of% @wpAny_newList:=@wpAny_newList
theorem Yfc:type_of% @List.length_filter_le:=@List.length_filter_le
theorem Yfd:type_of% @List.filter_cons_of_pos:=@List.filter_cons_of_pos
theorem Yfe:type_of% @PyProof.Rows.callWith_type1:=@PyProof.Rows.callWith_type1
theorem Yff:type_of% @beq_self_eq_true:=@beq_self_eq_true
theorem Yfg:type_of% @Nat.lt_trichotomy:=@Nat.lt_trichotomy
theorem Yfh:type_of% @List.getElem?_cons_succ:=@List.getElem?_cons_succ
theorem Yfi:type_of% @Option.map_eq_none_iff:=@Option.map_eq_none_iff
theorem Yfj:type_of% @Array.toList_extract:=@Array.toList_extract
theorem Yfk:type_of% @List.extract_eq_take_drop:=@List.extract_eq_take_drop
theorem Yfl:type_of% @List.take_of_length_le:=@List.take_of_length_le
theorem Yfm:type_of% @List.mem_iff_getElem?:=@List.mem_iff_getElem?
theorem Yfn:type_of% @Array.size_extract:=@Array.size_extract
theorem Yfo:type_of% @of_decide_eq_false:=@of_decide_eq_false
theorem Yfp:type_of% @List.filter_cons_of_neg:=@List.filter_cons_of_neg
theorem Yfq:type_of% @List.Perm.append_left:=@List.Perm.append_left
theorem Yfr:type_of% @List.drop_eq_getElem_cons:=@List.drop_eq_getElem_cons
theorem Yfs:type_of% @Array.getElem?_eq_none:=@Array.getElem?_eq_none
theorem Yft:type_of% @Array.getElem?_eq_some_iff:=@Array.getElem?_eq_some_iff
theorem Yfu:type_of% @List.mem_of_mem_take:=@List.mem_of_mem_take
theorem Yfv:type_of% @List.drop_of_length_le:=@List.drop_of_length_le
theorem Yfw:type_of% @PyProof.Rows.boot_sorted:=@PyProof.Rows.boot_sorted
theorem Yfx:type_of% @PyProof.Rows.slot_tuple_getitem:=@PyProof.Rows.slot_tuple_getitem
theorem Yfy:type_of% @wpAny_typeNameOfWhole_keyiter:=@wpAny_typeNameOfWhole_keyiter
theorem Yfz:type_of% @F.slot_dict_keyiterator_next:=@F.slot_dict_keyiterator_next
end
namespace L2
open PySem PySem.Spec PyProof.Rows
noncomputable abbrev Key:=Sum Int Str
noncomputable def YH:Key->Aa->Bool
 | .inl k,v=>Value.isInt k v
 | .inr x,v=>Value.isStrOf x v
noncomputable def Zih (w:Ab):Key->Int
 | .inl k=>hashInt k
 | .inr x=>hashStr w x
theorem GM:∀{k:Key}{v:Aa},YH k v=true->(∃i t,k=Sum.inl i/\v=Value.int i t)\/(∃x t,k=Sum.inr x/\v=Value.str x t)
 | .inl i,v,h=>by
  obtain ⟨t,e⟩:=Value.isInt_shape (k:=i) (v:=v) h;exact .inl ⟨i,t,rfl,e⟩
 | .inr x,v,h=>by
  obtain ⟨t,e⟩:=Value.isStrOf_shape (x:=x) (v:=v) h;exact .inr ⟨x,t,rfl,e⟩
theorem Zu (i:Int)(t:Tok):YH (.inl i) (.int i t)=true:=by simp [YH,Value.isInt]
theorem Zv (x:Str)(t:Tok):YH (.inr x) (.str x t)=true:=by simp [YH,Value.isStrOf]
theorem ZeX (a b:Int):decide ((Sum.inl a:Key)=Sum.inl b)=(a == b):=by
 by_cases e:a=b
 ·subst e;simp
 ·have h:¬ (Sum.inl a:Key)=Sum.inl b:=λq=>e (Yeh q);rw [Ybp h];exact (Yea.mpr e).symm
theorem ZeY (a b:Str):decide ((Sum.inr a:Key)=Sum.inr b)=decide (a=b):=by
 by_cases e:a=b
 ·subst e;simp
 ·have h:¬ (Sum.inr a:Key)=Sum.inr b:=λq=>e (Sum.inr.inj q);rw [Ybp h,Ybp e]
theorem ZeZ (a:Int)(b:Str):decide ((Sum.inl a:Key)=Sum.inr b)=false:=Ybp (λq=>nomatch q)
theorem Ze0 (a:Str)(b:Int):decide ((Sum.inr a:Key)=Sum.inl b)=false:=Ybp (λq=>nomatch q)
noncomputable def G5 (prog:PP)(w:Ab):PySem.KeyKind prog w Key where
 is:=YH
 hash:=Zih w
 inj:=λv a b ha hb=>by
  rcases GM ha with ⟨i,t,rfl,rfl⟩ | ⟨x,t,rfl,rfl⟩
  ·rcases GM hb with ⟨j,u,rfl,e⟩ | ⟨y,u,rfl,e⟩
   ·injection e with e1 _;rw [e1]
   ·exact nomatch e
  ·rcases GM hb with ⟨j,u,rfl,e⟩ | ⟨y,u,rfl,e⟩
   ·exact nomatch e
   ·injection e with e1 _;rw [e1]
 byValue:=λk v h=>by
  rcases GM h with ⟨i,t,rfl,rfl⟩ | ⟨x,t,rfl,rfl⟩ <;> rfl
 pyHash:=λhv h=>by
  rcases GM hv with ⟨i,t,rfl,rfl⟩ | ⟨x,t,rfl,rfl⟩
  ·exact wpAny_pyHash_int h
  ·exact wpAny_pyHash_str h
 eqBool:=λhu hv h=>by
  rcases GM hu with ⟨i,t,rfl,rfl⟩ | ⟨x,t,rfl,rfl⟩
  ·rcases GM hv with ⟨j,u,rfl,rfl⟩ | ⟨y,u,rfl,rfl⟩
   ·rw [ZeX] at h;exact wpAny_eqBool_int h
   ·rw [ZeZ] at h;exact SeqAt.EqAt.int_str i t y u _ _ _ _ h
  ·rcases GM hv with ⟨j,u,rfl,rfl⟩ | ⟨y,u,rfl,rfl⟩
   ·rw [Ze0] at h;exact SeqAt.EqAt.str_int x t j u _ _ _ _ h
   ·rw [ZeY] at h;exact wpAny_eqBool_str h
 «strs»:=λk x t v h=>by
  rcases GM h with ⟨i,u,rfl,e⟩ | ⟨y,u,rfl,e⟩
  ·exact nomatch e
  ·injection e with e1 _
   subst e1;cases v <;> rfl
theorem Xc (prog:PP)(w:Ab)(i:Int)(t:Tok):(G5 prog w).is (.inl i) (.int i t)=true:=Zu i t
theorem Xd (prog:PP)(w:Ab)(x:Str)(t:Tok):(G5 prog w).is (.inr x) (.str x t)=true:=Zv x t
inductive V where
 | non | bl (b:Bool) | int (i:Int) | str (x:Str) | byt (b:Array UInt8) | flt (b:UInt64) | ref (a:AD) | ty (n:String)
 deriving DecidableEq
noncomputable def RelV:V->Aa->Prop
 | .non,u=>u=Value.none
 | .bl b,u=>u=Value.bool b
 | .int i,u=>∃t,u=Value.int i t
 | .str x,u=>∃t,u=Value.str x t
 | .byt b,u=>∃t,u=Value.bytes b t
 | .flt b,u=>∃t,u=Value.float b t
 | .ref a,u=>u=Value.ref a
 | .ty n,u=>u=Value.type n
noncomputable abbrev Vals:List V->LW->Prop:=Paired RelV
theorem Vals.length {xs:List V}{us:LW}(r:Vals xs us):xs.length=us.length:=Ycv r
theorem Vals.get:∀{xs:List V}{us:LW}{i:Nat}{x:V},Vals xs us->xs[i]?=some x->∃u,us[i]?=some u/\RelV x u
 | _,_,_,_,.nil,e=>by simp at e
 | _,_,0,_,.cons r _,e=>by simp at e;subst e;exact ⟨_,rfl,r⟩
 | _,_,i+1,x,.cons _ t,e=>by
  obtain ⟨u,h1,h2⟩:=Vals.get (i:=i) (x:=x) t (by simpa using e);exact ⟨u,by simpa using h1,h2⟩
theorem Vals.append (h:Vals xs us)(s:Vals ys j):Vals (xs++ys) (us++j):=by
 induction h with
 | nil=>exact s
 | cons r _ ih=>exact .cons r ih
theorem Vals.take:∀{xs:List V}{us:LW}(n:Nat),Vals xs us->Vals (xs.take n) (us.take n)
 | _,_,0,_=>.nil
 | _,_,_+1,.nil=>.nil
 | _,_,n+1,.cons r t=>.cons r (Vals.take n t)
theorem Vals.drop:∀{xs:List V}{us:LW}(n:Nat),Vals xs us->Vals (xs.drop n) (us.drop n)
 | _,_,0,r=>r
 | _,_,_+1,.nil=>.nil
 | _,_,n+1,.cons _ t=>Vals.drop n t
noncomputable def RelO:Option V->Option Aa->Prop
 | some v,some u=>RelV v u
 | none,none=>True
 | _,_=>False
noncomputable def KV {κ:Type}:List (κ×V)->List (κ×Aa)->Prop:=Paired λ(p:κ×V) (q:κ×Aa)=>p.1=q.1/\RelV p.2 q.2
noncomputable def kV:Key->V
 | .inl i=>.int i
 | .inr x=>.str x
inductive HO where
  | lst (xs:List V)
  | tup (xs:List V)
  | dK (kvs:List (Key×V)) | dT (kvs:List (List Key×V))
  | set (S:Int->Bool) (n:Nat)
  | ins (C dx:AD) (fs:List (Str×V))
  | own (x:AD)
  | xd (fs:List (Str×V))
  | met (f x:AD)
  | rng (lo hi:Int)
  | frz (o:Obj) (u:HO)
  | tbl (ps:Array Aa)
  | ext (φ:Heap->Prop)
noncomputable abbrev Hp:=AD->Option HO
noncomputable def upd (H:Hp)(a:AD)(o:HO):Hp:=λb=>if b=a then some o else H b
theorem Gc :upd H a o a=some o:=by unfold upd;rw [if_pos rfl]
theorem Gj (h:b≠a):upd H a o b=H b:=by unfold upd;rw [if_neg h]
theorem G6 {H:Hp}(h:H a=some o)(h':H b=some u)(d:o≠u):a≠b:=by
 intro e;subst e;rw [h] at h';exact d (Ybl h')
theorem Gg {H:Hp}(h:H a=some o)(h':H b=none):a≠b:=by
 intro e;subst e;rw [h] at h';cases h'
section
variable (P:PP)(w:Ab)
noncomputable def ObjOk (H:Hp)(h:Heap)(a:AD):HO->Prop
 | .lst xs=>xs.length<=sizeLine/\∃(its:LW)(n:Nat),Vals xs its/\h.get? a=some { cls:=.type "list", data:=.seq its.toArray n }
 | .tup xs=>xs.length<=sizeLine/\∃its:LW,Vals xs its/\IsTup h a its.toArray
 | .dK kvs=>kvs.length<=sizeLine/\(a == sysModules)=false/\∃vs,KV kvs vs/\h.DictOf (G5 P w) a vs
 | .dT kvs=>kvs.length<=sizeLine/\(a == sysModules)=false/\∃xs:List (List Key×AD×Aa),
   Paired (λ(p:List Key×V) (q:List Key×AD×Aa)=>p.1=q.1/\H q.2.1=some (.tup (p.1.map kV))/\RelV p.2 q.2.2) kvs xs /\
   ∃o es ep,h.get? a=some o/\o.ExactDict/\o.data=.dict es ep/\es.toList=xs.map (entryOfKey (tupleKind (G5 P w)))/\(xs.map (·.1)).Nodup
 | .set S n=>h.SetOf (intKind P w) a S n
 | .ins C dx fs=>H dx=some (.own a)/\fs.length<=1000/\dx≠a/\h.get? a=some (W.instObj C dx) /\
   ∃mA,h.Ns1 dx mA/\(∀f,RelO (fs.lookup f) (mA f))/\PySem.Within mA (fs.map (·.1))
 | .own _=>∃o,h.get? a=some o
 | .xd fs=>∃mA,h.Ns1 a mA/\∀f,RelO (fs.lookup f) (mA f)
 | .rng lo hi=>∃t u v,h.get? a=some { cls:=.type "range", data:=.fields #[.int lo t,.int hi u,.int 1 v] }
 | .frz o u=>h.get? a=some o/\ObjOk H h a u
 | .tbl ps=>h.get? a=some { cls:=.none,data:=.fields ps }
 | .met f x=>h.get? a=some (W.methodObj (.ref f) (.ref x))
 | .ext φ=>φ h/\(∃o,h.get? a=some o)/\∀h1 h2:Heap,φ h1->(∀o,h1.get? a=some o->h2.get? a=some o)->φ h2
noncomputable def HOk (H:Hp)(h:Heap):Prop:=∀a o,H a=some o->ObjOk P w H h a o
end
section
variable {P:PP}{w:Ab}{H H':Hp}{h h':Heap}{a:AD}{o:HO}
theorem ObjOk.lt (x:ObjOk P w H h a o):a<h.objs.size:=by
 cases o with
 | lst xs=>obtain ⟨_,_,_,_,e⟩:=x;exact Yah e
 | tup xs=>obtain ⟨_,_,_,p⟩:=x;exact p.lt
 | dK kvs=>obtain ⟨_,_,_,_,o,_,_,e,_⟩:=x;exact Yah e
 | dT kvs=>obtain ⟨_,_,_,_,o,_,_,e,_⟩:=x;exact Yah e
 | set S n=>obtain ⟨o,_,_,_,e,_⟩:=x;exact Yah e
 | ins C dx fs=>obtain ⟨_,_,_,e,_⟩:=x;exact Yah e
 | own y=>obtain ⟨_,e⟩:=x;exact Yah e
 | xd fs=>obtain ⟨_,⟨_,_,_,e,_⟩,_⟩:=x;exact Yah e
 | rng lo hi=>obtain ⟨_,_,_,e⟩:=x;exact Yah e
 | frz ob u=>obtain ⟨e,_⟩:=x;exact Yah e
 | tbl ps=>exact Yah (show h.get? a=some _ from x)
 | met f y=>exact Yah (show h.get? a=some _ from x)
 | ext φ=>obtain ⟨_,⟨_,e⟩,_⟩:=x;exact Yah e
theorem Paired.mapP {α β:Type}{F G:α->β->Prop}{l₁:List α}{l₂:List β}(h:Paired F l₁ l₂)(f:∀a b,F a b->G a b):Paired G l₁ l₂:=by
 induction h with
 | nil=>exact .nil
 | cons r _ ih=>exact .cons (f _ _ r) ih
theorem ObjOk.stay (x:ObjOk P w H h a o)(k:∀b u,(b=a\/H b=some (.own a))->h.get? b=some u->h'.get? b=some u)(D:∀b,H b=some (.own a)->H' b=some (.own a))(L:∀b xs,H b=some (.tup xs)->H' b=some (.tup xs)):ObjOk P w H' h' a o:=by
 induction o with
 | lst xs=>obtain ⟨z,its,n,r,e⟩:=x;exact ⟨z,its,n,r,k _ _ (.inl rfl) e⟩
 | tup xs=>obtain ⟨z,its,r,j,e,c⟩:=x;exact ⟨z,its,r,j,k _ _ (.inl rfl) e,c⟩
 | dK kvs=>obtain ⟨z,y,vs,r,j,es,ep,e,c⟩:=x;exact ⟨z,y,vs,r,j,es,ep,k _ _ (.inl rfl) e,c⟩
 | dT kvs=>
  obtain ⟨z,y,xs,r,j,es,ep,e,c⟩:=x;exact ⟨z,y,xs,Paired.mapP r λp q z=>⟨z.1,L _ _ z.2.1,z.2.2⟩,j,es,ep,k _ _ (.inl rfl) e,c⟩
 | set S n=>obtain ⟨j,es,ep,t,e,c⟩:=x;exact ⟨j,es,ep,t,k _ _ (.inl rfl) e,c⟩
 | ins C dx fs=>
  obtain ⟨d,z,N,e,mA,⟨B,es,ep,O,c⟩,r⟩:=x;exact ⟨D _ d,z,N,k _ _ (.inl rfl) e,mA,⟨B,es,ep,k _ _ (.inr d) O,c⟩,r⟩
 | own y=>obtain ⟨j,e⟩:=x;exact ⟨j,k _ _ (.inl rfl) e⟩
 | xd fs=>obtain ⟨mA,⟨B,es,ep,e,c⟩,r⟩:=x;exact ⟨mA,⟨B,es,ep,k _ _ (.inl rfl) e,c⟩,r⟩
 | rng lo hi=>obtain ⟨t,u,v,e⟩:=x;exact ⟨t,u,v,k _ _ (.inl rfl) e⟩
 | frz j u ih=>obtain ⟨e,q⟩:=x;exact ⟨k _ _ (.inl rfl) e,ih q⟩
 | tbl ps=>
  have e:h.get? a=some { cls:=.none,data:=.fields ps }:=x;show h'.get? a=some { cls:=.none,data:=.fields ps };exact k a _ (.inl rfl) e
 | met f y=>
  have e:h.get? a=some (W.methodObj (.ref f) (.ref y)):=x;show h'.get? a=some (W.methodObj (.ref f) (.ref y));exact k a _ (.inl rfl) e
 | ext φ=>obtain ⟨p,⟨o,e⟩,st⟩:=x;exact ⟨st _ _ p λo q=>k _ _ (.inl rfl) q,⟨o,k _ _ (.inl rfl) e⟩,st⟩
theorem HOk.lt (x:HOk P w H h)(e:H a=some o):a<h.objs.size:=(x a o e).lt
theorem HOk.fresh (x:HOk P w H h)(e:h.objs.size<=a):H a=none:=by
 cases q:H a with
 | none=>rfl
 | some u=>exact absurd (Ybk (x.lt q) e) (Ycm _)
theorem HOk.kept (x:HOk P w H h)(k:∀b u,h.get? b=some u->h'.get? b=some u):HOk P w H h':=λa o e=>
 (x a o e).stay (λb u _ q=>k b u q) (λ_ q=>q) λ_ _ q=>q
theorem HOk.laid (x:HOk P w H h)(k:∀b u,h.get? b=some u->h'.get? b=some u)(D:h.objs.size<=a)(new:ObjOk P w (upd H a o) h' a o):HOk P w (upd H a o) h':=λb u e=>by
 have j:=x.fresh D;by_cases B:b=a
 ·subst B;rw [Gc] at e;cases e;exact new
 ·rw [Gj B] at e;exact (x b u e).stay (λc v _ q=>k c v q) (λc q=>by rw [Gj (Gg q j)];exact q) λc xs q=>by rw [Gj (Gg q j)];exact q
end
noncomputable def Rd (H:Hp)(a:AD)(u:HO):Prop:=H a=some u\/∃o,H a=some (.frz o u)
theorem Rd.ok (r:Rd H a u)(x:HOk P w H h):ObjOk P w H h a u:=by
 rcases r with r | ⟨o,r⟩
 ·exact x a u r
 ·obtain ⟨_,q⟩:=x a _ r;exact q
noncomputable def Mut:Option HO->Prop
 | some (.lst _)=>True
 | some (.dK _)=>True
 | some (.dT _)=>True
 | some (.set _ _)=>True
 | some (.ins _ _ _)=>True
 | some (.ext _)=>True
 | _=>False
section
variable {P:PP}{w:Ab}{H:Hp}{h h':Heap}{x e:AD}{o':HO}
theorem HOk.write (ok:HOk P w H h)(L:Mut (H x))(Y:e=x\/H e=some (.own x))(k:∀b u,b≠e->h.get? b=some u->h'.get? b=some u)(U:∃u,h'.get? e=some u)(new:ObjOk P w (upd H x o') h' x o'):HOk P w (upd H x o') h':=λb u q=>by
 have B:∀c y,H c=some (.own y)->c≠x:=λc y r z=>by subst z;rw [r] at L;exact L
 have D:∀c xs,H c=some (.tup xs)->c≠x:=λc xs r z=>by subst z;rw [r] at L;exact L
 by_cases N:b=x
 ·subst N;rw [Gc] at q;cases q;exact new
 ·rw [Gj N] at q;by_cases j:b=e
  ·have Z:H b=some (.own x):=by
    rcases Y with z | z
    ·exact absurd (j.trans z) N
    ·rw [j];exact z
   rw [q] at Z;cases Z;obtain ⟨v,hv⟩:=U;exact ⟨v,by rw [j];exact hv⟩
  ·refine (ok b u q).stay (λc v O r=>k c v ?_ r) (λc r=>by rw [Gj (B c b r)];exact r) λc xs r=>by rw [Gj (D c xs r)];exact r
   rcases O with rfl | O
   ·exact j
   ·rintro rfl;rcases Y with z | z
    ·exact B c b O z
    ·rw [O] at z;cases z;exact N rfl
end
structure Un (fs ex:List AD)(H H':Hp)(h h':Heap):Prop where
 keep:∀b o,h.get? b=some o->H b=none->b ∉ fs->b ∉ ex->h'.get? b=some o
 slot:∀b o,h.get? b=some o->H b=none->b∈fs->b ∉ ex->∃sl,h'.get? b=some { o with slots:=sl }
 free:∀b o,h.get? b=some o->H b=none->b ∉ ex->H' b=none
 there:∀b o,h.get? b=some o->b ∉ ex->∃o',h'.get? b=some o'
 tups:∀b xs,H b=some (.tup xs)->H' b=some (.tup xs)
 frzs:∀b o u,H b=some (.frz o u)->H' b=some (.frz o u)
 tbls:∀b ps,H b=some (.tbl ps)->∃more,H' b=some (.tbl (ps++more))
section
variable {fs fs' ex ex':List AD}{H H1 H2:Hp}{h h1 h2 h':Heap}{a x e:AD}{o:HO}
theorem Un.any (u:Un fs ex H H1 h h1)(q:h.get? b=some j)(n:H b=none)(B:b ∉ ex):∃L,h1.get? b=some { j with slots:=L }:=by
 by_cases D:b∈fs
 ·exact u.slot b j q n D B
 ·exact ⟨j.slots,u.keep b j q n D B⟩
theorem Un.trans (a:Un fs ex H H1 h h1)(b:Un fs ex H1 H2 h1 h2):Un fs ex H H2 h h2 where
 keep:=λc ob q n hc hx=>b.keep c ob (a.keep c ob q n hc hx) (a.free c ob q n hx) hc hx
 slot:=λc ob q n hc hx=>by
  obtain ⟨sl,e1⟩:=a.slot c ob q n hc hx;obtain ⟨sl',e2⟩:=b.slot c _ e1 (a.free c ob q n hx) hc hx;exact ⟨sl',e2⟩
 free:=λc ob q n hx=>by
  obtain ⟨o',e1⟩:=a.there c ob q hx;exact b.free c o' e1 (a.free c ob q n hx) hx
 there:=λc ob q hx=>by
  obtain ⟨o',e1⟩:=a.there c ob q hx;exact b.there c o' e1 hx
 tups:=λc xs q=>b.tups c xs (a.tups c xs q)
 frzs:=λc ob xs q=>b.frzs c ob xs (a.frzs c ob xs q)
 tbls:=λc ps q=>by
  obtain ⟨m1,e1⟩:=a.tbls c ps q;obtain ⟨m2,e2⟩:=b.tbls c _ e1;exact ⟨m1++m2,by rw [e2,Array.append_assoc]⟩
theorem Un.kept (k:∀b u,h.get? b=some u->h'.get? b=some u):Un fs ex H H h h':=
 ⟨λb j q _ _ _=>k b j q,λb j q _ _ _=>⟨j.slots,k b j q⟩,λ_ _ _ n _=>n,λb j q _=>⟨j,k b j q⟩,λ_ _ q=>q,λ_ _ _ q=>q,λ_ ps q=>⟨#[],by rw [q];simp⟩⟩
theorem Un.refl:Un fs ex H H h h:=Un.kept λ_ _ q=>q
theorem Un.laid (k:∀b u,h.get? b=some u->h'.get? b=some u)(hp:h.objs.size<=a)(hn:H a=none):Un fs ex H (upd H a o) h h' where
 keep:=λb u q _ _ _=>k b u q
 slot:=λb u q _ _ _=>⟨u.slots,k b u q⟩
 free:=λb u q n _=>by rw [Gj (Yar (Ybk (Yah q) hp))];exact n
 there:=λb u q _=>⟨u,k b u q⟩
 tups:=λb xs q=>by rw [Gj (Gg q hn)];exact q
 frzs:=λb u xs q=>by rw [Gj (Gg q hn)];exact q
 tbls:=λb ps q=>⟨#[],by rw [Gj (Gg q hn),q];simp⟩
theorem Un.write (B:Mut (H x))(U:e=x\/H e=some (.own x))(k:∀b u,b≠e->h.get? b=some u->h'.get? b=some u)(D:∃u,h'.get? e=some u):Un fs ex H (upd H x o) h h':=by
 have N:∀b,H b=none->b≠x:=λb n z=>by subst z;rw [n] at B;exact B
 have O:∀b,H b=none->b≠e:=λb n z=>by
  subst z;rcases U with r | r
  ·exact N b n r
  ·rw [n] at r;cases r
 have L:∀b u,H b=some u->¬ Mut (some u)->b≠x:=λb u q nm z=>by subst z;rw [q] at B;exact nm B
 refine ⟨λb u q n _ _=>k b u (O b n) q,λb u q n _ _=>⟨u.slots,k b u (O b n) q⟩,λb u q n _=>by rw [Gj (N b n)];exact n,λb u q _=>?_,
  λb xs q=>by rw [Gj (L b _ q λz=>z)];exact q,λb u xs q=>by rw [Gj (L b _ q λz=>z)];exact q,λb ps q=>⟨#[],by rw [Gj (L b _ q λz=>z),q];simp⟩⟩
 by_cases j:b=e
 ·subst j;exact D
 ·exact ⟨u,k b u j q⟩
theorem Un.mono (u:Un fs ex H H1 h h1)(L:∀b∈fs,b∈fs')(D:∀b∈ex,b∈ex'):Un fs' ex' H H1 h h1:=
 ⟨λb B q n N j=>u.keep b B q n (λz=>N (L b z)) λz=>j (D b z),λ_ _ q n _ j=>u.any q n λz=>j (D _ z),λb B q n j=>u.free b B q n λz=>j (D b z),λb B q j=>u.there b B q λz=>j (D b z),u.tups,u.frzs,u.tbls⟩
end
noncomputable def trk (h:Heap)(H:Hp):List AD:=(List.range h.objs.size).filter λa=>(H a).isSome
noncomputable def Zw (h:Heap)(H:Hp):Heap:=W.hideAll h (trk h H)
theorem Zx (h:Heap)(H:Hp):(Zw h H).objs.size=h.objs.size:=W.hideAll_size _ _
theorem ZbE (e:h.get? b=some o)(n:H b=none):(Zw h H).get? b=some o:=
 W.hideAll_get _ e λj=>by
  have q:(H b).isSome=true:=(Ycg.mp j).2;rw [n] at q;simp at q
theorem Zdy (e:(Zw h H).get? b=some o):h.get? b=some o/\H b=none:=by
 have j:h.get? b=some o:=W.of_hideAll (trk h H) e;refine ⟨j,?_⟩;cases q:H b with
 | none=>rfl
 | some x=>
  have B:b∈trk h H:=Ycg.mpr ⟨Yci.mpr (Yah j),by simp [q]⟩;have z:(Zw h H).get? b=none:=W.hideAll_none (trk h H) B;rw [z] at e;cases e
structure Mod (K:FG)(mg:Str->Option Aa)(base:Heap):Prop where
 kin:K.In base
 glob:base.Ns mainGlobals mg
 blt:∃mb,base.Ns builtinsNs mb/\∀x:Str,x ≠ "__name__" -> mb x=bootBuiltins x
 nolimit:base.NoLimit
structure Cx where
 prog:PP
 w:Ab
 K:FG
 mg:Str->Option Aa
 base:Heap
 A:Around
 N:List Str
 s₀:SS
 H₀:Hp
 env:Env
 outer:List Env
 stack:List Env
 ex:List AD
 fn:Str->Bool
 calm:Bool
 pn:List (AD×Obj)
 xe:Aa->SS->Prop
noncomputable def frs (l:List Env):List AD:=l.filterMap (·.frame)
noncomputable abbrev Cx.fs (X:Cx):List AD:=frs X.outer
noncomputable def Vis (j:Scope)(x:Str):Prop:=j.names.lookup x=some .local\/j.names.lookup x=some .cell\/j.names.lookup x=some .free
noncomputable def Loc (j:Scope)(x:Str):Prop:=j.names.lookup x=some .local\/j.names.lookup x=some .cell
noncomputable def Zii (env:Env)(h:Heap)(m:Str->Option Aa)(x:Str)(u:Aa):Prop:=
 (env.kindOf x=some .local/\m x=some u)\/((env.kindOf x=some .cell\/env.kindOf x=some .free)/\∃c,env.cells.lookup x=some c/\h.IsCell c (some u))
structure Cx.Ok (X:Cx):Prop where
 mod:Mod X.K X.mg X.base
 kind:X.env.scope.kind=.function
 glob:X.env.globals=mainGlobals
 blt:X.env.builtins=builtinsNs
 above:X.s₀.heap.objs.size<=X.env.locals
 inj:∀x y c,X.env.cells.lookup x=some c->X.env.cells.lookup y=some c->x=y
 has:∀x,(X.env.kindOf x=some .cell\/X.env.kindOf x=some .free)->∃c,X.env.cells.lookup x=some c
 cab:∀x c,X.fn x=true->X.env.cells.lookup x=some c->X.s₀.heap.objs.size<=c
 hd:X.calm=true->X.A.handled=none
 frames:X.A.frames=some X.stack
 stk:X.stack=X.outer\/(X.stack=X.env::X.outer/\X.env.frame=some X.env.locals)
 exf:∀b∈X.ex,b≠X.env.locals/\∀x c,X.env.cells.lookup x=some c->c≠b
 bs:∀b o,X.base.get? b=some o->X.s₀.heap.get? b=some o/\X.H₀ b=none
 bsz:X.base.objs.size<=X.s₀.heap.objs.size
 noex:∀b o,X.base.get? b=some o->b ∉ X.ex
 exfs:∀b∈X.ex,b ∉ X.fs
 funs:X.s₀.heap.FunFrames X.base X.outer
 frf:∀b∈X.fs,X.H₀ b=none
structure Inv (X:Cx)(qQ:List (AD×Obj))(σ:List (Option V))(H:Hp)(s:SS):Prop where
 ok:X.Ok
 os:s.os=X.s₀.os
 bare:AllBare s.gens
 base:Un X.fs X.ex X.H₀ H X.s₀.heap s.heap
 loc:∃m,s.heap.Ns X.env.locals m/\∀(i:Nat)(x:Str)(v:V),X.N[i]?=some x->σ[i]?=some (some v)->Vis X.env.scope x->∃u,RelV v u/\Zii X.env s.heap m x u
 cell:∀x c,X.env.cells.lookup x=some c->∃v,s.heap.IsCell c v
 free:H X.env.locals=none
 freeC:∀x c,X.env.cells.lookup x=some c->H c=none
 pin:∀p∈X.pn++qQ,s.heap.get? p.1=some p.2/\H p.1=none/\p.1≠X.env.locals/\p.1 ∉ X.fs/\∀v,p.2.data≠.cell v
 hok:HOk X.prog X.w H s.heap
 len:σ.length=X.N.length
section
variable {X:Cx}{qQ:List (AD×Obj)}{σ:List (Option V)}{H H':Hp}{s:SS}{h':Heap}
theorem Cx.Ok.nofr (ok:X.Ok)(e:X.base.get? b=some o):b ∉ X.fs:=λj=>by
 have:=(ok.funs.mem j).1;rw [e] at this;cases this
theorem Inv.bs (I:Inv X qQ σ H s):∀b o,X.base.get? b=some o->s.heap.get? b=some o/\H b=none:=λb o e=>
 ⟨I.base.keep b o (I.ok.bs b o e).1 (I.ok.bs b o e).2 (I.ok.nofr e) (I.ok.noex b o e),I.base.free b o (I.ok.bs b o e).1 (I.ok.bs b o e).2 (I.ok.noex b o e)⟩
theorem Inv.bk (I:Inv X qQ σ H s):∀b o,X.base.get? b=some o->s.heap.get? b=some o:=λb o e=>(I.bs b o e).1
theorem Inv.mod (I:Inv X qQ σ H s):Mod X.K X.mg X.base:=I.ok.mod
theorem Inv.kIn (I:Inv X qQ σ H s):X.K.In s.heap:=I.ok.mod.kin.keeps I.bk
theorem Inv.lt (I:Inv X qQ σ H s):X.env.locals<s.heap.objs.size:=let ⟨_,hn,_⟩:=I.loc;hn.lt
theorem Inv.sz (I:Inv X qQ σ H s):X.s₀.heap.objs.size<=s.heap.objs.size:=Ybq I.ok.above (Ycw I.lt)
theorem Inv.nofs (I:Inv X qQ σ H s)(h:s.heap.objs.size<=a):a ∉ X.fs:=λj=>by
 obtain ⟨_,o,q,_⟩:=I.ok.funs.mem j;exact absurd (Ybk (Yah q) (Ybq I.sz h)) (Ycm _)
theorem Inv.cne (I:Inv X qQ σ H s):∀x c,X.env.cells.lookup x=some c->c≠X.env.locals:=λx c e z=>by
 obtain ⟨v,o,B,D⟩:=I.cell x c e;obtain ⟨m,⟨o',es,ep,j,q,_⟩,_⟩:=I.loc;rw [z,j] at B;cases B;rw [q] at D;cases D
theorem Inv.funs (I:Inv X qQ σ H s):s.heap.FunFrames X.base X.outer:=by
 have all:∀(l:List Env),(∀b∈frs l,b∈X.fs)->X.s₀.heap.FunFrames X.base l->s.heap.FunFrames X.base l:=by
  intro l
  induction l with
  | nil=>intro _ _;trivial
  | cons env r ih=>
   intro D N;obtain ⟨O,⟨L,o,j,U,Y,Z⟩,hr⟩:=N;have q:L∈X.fs:=D L (by unfold frs;rw [List.filterMap_cons,j];exact Ybg);obtain ⟨sl,e⟩:=I.base.slot L o Y (I.ok.frf L q) q λz=>I.ok.exfs L z q;exact ⟨O,⟨L,_,j,U,e,Z⟩,ih (λb B=>D b (by unfold frs;rw [List.filterMap_cons,j];exact Ybe _ B)) hr⟩
 exact all X.outer (λ_ B=>B) I.ok.funs
theorem Inv.stack (I:Inv X qQ σ H s):s.heap.FunFrames X.base X.stack:=by
 rcases I.ok.stk with e | ⟨e,j⟩
 ·rw [e];exact I.funs
 ·rw [e];obtain ⟨m,q,_⟩:=I.loc;refine .cons (by rw [I.ok.kind];decide) j q ?_ I.funs;exact Heap.get?_none_of_le (Ybq I.ok.bsz I.ok.above)
theorem Inv.stkSub (I:Inv X qQ σ H s):∀b∈frs X.stack,b∈X.env.locals::X.fs:=λb j=>by
 rcases I.ok.stk with e | ⟨e,q⟩
 ·rw [e] at j;exact Ybe _ j
 ·rw [e] at j;unfold frs at j;rw [List.filterMap_cons,q] at j;exact j
theorem Inv.stkFree (I:Inv X qQ σ H s):∀b∈frs X.stack,H b=none:=λb j=>by
 rcases Yam.mp (I.stkSub b j) with e | j
 ·rw [e];exact I.free
 ·obtain ⟨_,o,q,_⟩:=I.ok.funs.mem j;exact I.base.free b o q (I.ok.frf b j) λz=>I.ok.exfs b z j
theorem Inv.step {ch:List AD}(I:Inv X qQ σ H s)(B:∀b∈ch,(b∈X.ex\/X.s₀.heap.objs.size<=b)/\b≠X.env.locals/\(∀x c,X.env.cells.lookup x=some c->c≠b)/\∀p∈X.pn++qQ,p.1≠b)(keep:∀b o,b≠X.env.locals->b ∉ X.fs->b ∉ ch->s.heap.get? b=some o->H b=none->h'.get? b=some o)(U:∀b o,b≠X.env.locals->b∈X.fs->b ∉ ch->s.heap.get? b=some o->H b=none->∃sl,h'.get? b=some { o with slots:=sl })(free:∀b o,b ∉ ch->s.heap.get? b=some o->H b=none->H' b=none)(there:∀b o,b ∉ ch->s.heap.get? b=some o->∃o',h'.get? b=some o')(aa:∀b xs,H b=some (.tup xs)->H' b=some (.tup xs))(ab:∀b o u,H b=some (.frz o u)->H' b=some (.frz o u))(ac:∀b ps,H b=some (.tbl ps)->∃more,H' b=some (.tbl (ps++more)))(ns:∀m,s.heap.Ns X.env.locals m->h'.Ns X.env.locals m)(ae:HOk X.prog X.w H' h')(hg:AllBare g') :
  Inv X qQ σ H' { s with heap:=h',gens:=g',drawn:=d',toks:=t' }:=by
 have ad:∀b o,X.s₀.heap.get? b=some o->b≠X.env.locals:=λb o e=>Yar (Ybk (Yah e) I.ok.above);have N:∀b o,X.s₀.heap.get? b=some o->b ∉ X.ex->b ∉ ch:=λb o e j Y=>by
  rcases (B b Y).1 with z | z
  ·exact j z
  ·exact absurd (Ybk (Yah e) z) (Ycm _)
 have D:∀x c,X.env.cells.lookup x=some c->∀v,s.heap.IsCell c v->h'.IsCell c v:=λx c e v ⟨o,Z,hd⟩=>by
  have L:c ∉ ch:=λz=>(B c z).2.2.1 x c e rfl;by_cases hc:c∈X.fs
  ·obtain ⟨sl,q⟩:=U c o (I.cne x c e) hc L Z (I.freeC x c e);exact ⟨_,q,hd⟩
  ·exact ⟨o,keep c o (I.cne x c e) hc L Z (I.freeC x c e),hd⟩
 refine ⟨I.ok,I.os,hg,⟨λb o e n Y j=>?_,λb o e n Y j=>?_,λb o e n j=>?_,λb o e j=>?_,λb xs e=>aa b xs (I.base.tups b xs e),λb o xs e=>ab b o xs (I.base.frzs b o xs e),λb ps e=>?_⟩,?_,λx c e=>?_,?_,λx c e=>?_,λp hp=>?_,ae,I.len⟩
 ·exact keep b o (ad b o e) Y (N b o e j) (I.base.keep b o e n Y j) (I.base.free b o e n j)
 ·obtain ⟨sl,O⟩:=I.base.slot b o e n Y j;obtain ⟨af,e2⟩:=U b _ (ad b o e) Y (N b o e j) O (I.base.free b o e n j);exact ⟨af,e2⟩
 ·obtain ⟨o',O⟩:=I.base.there b o e j;exact free b o' (N b o e j) O (I.base.free b o e n j)
 ·obtain ⟨o',O⟩:=I.base.there b o e j;exact there b o' (N b o e j) O
 ·obtain ⟨m1,O⟩:=I.base.tbls b ps e;obtain ⟨m2,e2⟩:=ac b _ O;exact ⟨m1++m2,by rw [e2,Array.append_assoc]⟩
 ·obtain ⟨m,hn,hl⟩:=I.loc;refine ⟨m,ns m hn,λi x v O e2 e3=>?_⟩;obtain ⟨u,r,l⟩:=hl i x v O e2 e3;refine ⟨u,r,?_⟩;rcases l with l | ⟨k,c,e,z⟩
  ·exact .inl l
  ·exact .inr ⟨k,c,e,D x c e _ z⟩
 ·obtain ⟨v,z⟩:=I.cell x c e;exact ⟨v,D x c e v z⟩
 ·obtain ⟨m,⟨o,_,_,Z,_⟩,_⟩:=I.loc;exact free _ o (λz=>(B _ z).2.1 rfl) Z I.free
 ·obtain ⟨v,o,Z,hd⟩:=I.cell x c e;exact free c o (λz=>(B c z).2.2.1 x c e rfl) Z (I.freeC x c e)
 ·obtain ⟨e,n,ne,nf,d⟩:=I.pin p hp;have L:p.1 ∉ ch:=λz=>(B p.1 z).2.2.2 p hp rfl;exact ⟨keep p.1 p.2 ne nf L e n,free p.1 p.2 L e n,ne,nf,d⟩
theorem Inv.un (I:Inv X qQ σ H s)(u:Un X.fs [] H H' s.heap h')(q:HOk X.prog X.w H' h'):Inv X qQ σ H' { s with heap:=h',toks:=t' }:=by
 obtain ⟨m,⟨o,es,ep,N,r⟩,_⟩:=id I.loc;obtain ⟨Y,O⟩:=u.any N I.free (by simp);exact I.step (g':=s.gens) (d':=s.drawn) (ch:=[]) (λ_ z=>nomatch z) (λb o _ B _ e n=>u.keep b o e n B (by simp)) (λb o _ B _ e n=>u.slot b o e n B (by simp)) (λb o _ e n=>u.free b o e n (by simp)) (λb o _ e=>u.there b o e (by simp)) u.tups u.frzs u.tbls (λZ U=>by
  obtain ⟨o',D,L,j,r'⟩:=U;rw [N] at j;cases j;exact ⟨_,D,L,O,r'⟩) q I.bare
theorem Inv.call (I:Inv X qQ σ H s)(u:Un (frs X.stack) ch H H' s.heap h')(D:HOk X.prog X.w H' h')(Y:AllBare g')(q:∀b∈ch,(b∈X.ex\/X.s₀.heap.objs.size<=b)/\b≠X.env.locals/\(∀x c,X.env.cells.lookup x=some c->c≠b)/\∀p∈X.pn++qQ,p.1≠b) :
  Inv X qQ σ H' { s with heap:=h',gens:=g',drawn:=d',toks:=t' }:=by
 obtain ⟨m,⟨o,es,ep,U,r⟩,_⟩:=id I.loc;obtain ⟨sl,L⟩:=u.any U I.free λz=>(q _ z).2.1 rfl;exact I.step (ch:=ch) q (λb o L Z j e n=>u.keep b o e n (λz=>(Yam.mp (I.stkSub b z)).elim L Z) j) (λb o _ _ j e n=>u.any e n j) (λb o j e n=>u.free b o e n j) (λb o j e=>u.there b o e j) u.tups u.frzs u.tbls (λm' hm=>by
  obtain ⟨o',N,O,B,r'⟩:=hm;rw [U] at B;cases B;exact ⟨_,N,O,L,r'⟩) D Y
theorem Inv.turned (I:Inv X qQ σ H s)(k:∀b o,b≠j->s.heap.get? b=some o->h'.get? b=some o)(N:H j=none)(L:j≠X.env.locals)(h1:j∈X.ex\/X.s₀.heap.objs.size<=j)(h2:∀x c,X.env.cells.lookup x=some c->c≠j)(O:∀p∈X.pn++qQ,p.1≠j):Inv X qQ σ H { s with heap:=h',toks:=t' }:=by
 have D:∀b u,H b=some u->b≠j:=λb u e z=>by rw [z,N] at e;cases e
 refine I.step (g':=s.gens) (d':=s.drawn) (ch:=[j]) (λb U=>?_) (λb o _ _ B e _=>k b o (λz=>B (by simp [z])) e) (λb o _ _ B e _=>⟨o.slots,k b o (λz=>B (by simp [z])) e⟩) (λ_ _ _ _ n=>n)
  (λb o B e=>⟨o,k b o (λz=>B (by simp [z])) e⟩) (λ_ _ e=>e) (λ_ _ _ e=>e) (λb ps e=>⟨#[],by rw [e];simp⟩) (λm Y=>?_) (λb u e=>?_) I.bare
 ·have e:b=j:=by simpa using U
  subst e;exact ⟨h1,L,h2,O⟩
 ·obtain ⟨o,es,ep,Z,r⟩:=Y;exact ⟨o,es,ep,k _ o (Ne.symm L) Z,r⟩
 ·refine (I.hok b u e).stay (λc v B q=>k c v ?_ q) (λ_ q=>q) λ_ _ q=>q;rcases B with z | z
  ·rw [z];exact D b u e
  ·exact D c _ z
theorem Inv.tok (I:Inv X qQ σ H s)(t:Nat):Inv X qQ σ H { s with toks:=t }:=I.un (h':=s.heap) (t':=t) Un.refl I.hok
theorem Inv.kept (I:Inv X qQ σ H s)(k:∀b u,s.heap.get? b=some u->h'.get? b=some u):Inv X qQ σ H { s with heap:=h',toks:=t' }:=I.un (Un.kept k) (I.hok.kept k)
theorem Inv.laid (I:Inv X qQ σ H s)(k:∀b u,s.heap.get? b=some u->h'.get? b=some u)(j:s.heap.objs.size<=a)(new:ObjOk X.prog X.w (upd H a o) h' a o) :
  Inv X qQ σ (upd H a o) { s with heap:=h',toks:=t' }:=I.un (Un.laid k j (I.hok.fresh j)) (I.hok.laid k j new)
theorem Inv.write (I:Inv X qQ σ H s)(q:Mut (H x))(B:e=x\/H e=some (.own x))(k:∀b u,b≠e->s.heap.get? b=some u->h'.get? b=some u)(j:∃u,h'.get? e=some u)(new:ObjOk X.prog X.w (upd H x o) h' x o):Inv X qQ σ (upd H x o) { s with heap:=h',toks:=t' }:=I.un (Un.write q B k j) (I.hok.write q B k j new)
theorem Inv.weak (I:Inv X qQ σ H s)(q:j.length=σ.length)(w:∀(i:Nat) v,j[i]?=some (some v)->σ[i]?=some (some v)):Inv X qQ j H s:=
 ⟨I.ok,I.os,I.bare,I.base,let ⟨m,hn,hl'⟩:=I.loc;⟨m,hn,λi x v B D L=>hl' i x v B (w i v D) L⟩,I.cell,I.free,I.freeC,I.pin,I.hok,q.trans I.len⟩
theorem Inv.pins_of (I:Inv X qQ σ H s)(h:∀p∈j,s.heap.get? p.1=some p.2/\H p.1=none/\p.1≠X.env.locals/\p.1 ∉ X.fs/\∀v,p.2.data≠.cell v):Inv X j σ H s:=
 ⟨I.ok,I.os,I.bare,I.base,I.loc,I.cell,I.free,I.freeC,λp q=>(Yaj.mp q).elim (λz=>I.pin p (Ydr _ z)) (h p),I.hok,I.len⟩
theorem XF {N:List Str}(q:N.Nodup){i j:Nat}(a:N[i]?=some x)(b:N[j]?=some x):i=j:=by
 obtain ⟨h1,B⟩:=Yao.mp a;obtain ⟨h2,D⟩:=Yao.mp b;exact (List.getElem_inj q).mp (B.trans D.symm)
theorem Ww (I:Inv X qQ σ H s)(hN:X.N.Nodup)(hi:X.N[i]?=some x)(U:Loc X.env.scope x)(r:RelV v u)(h:∀s',Inv X qQ (σ.set i (some v)) H s'->(∃a,Heap.SameBut a s.heap s'.heap/\(a=X.env.locals\/X.env.cells.lookup x=some a))->Q () s')(hf:X.fn x=true\/X.env.scope.names.lookup x=some .local:=by first | exact .inl rfl | exact .inr rfl | assumption):wpAny M A (storeName X.env x u) Q E s:=by
 obtain ⟨m,hn,hl⟩:=id I.loc;have ab:(X.env.scope.kind == .class || (X.env.scope.kind == .module && X.env.locals != X.env.globals))=false:=by rw [I.ok.kind];rfl
 have ac:i<σ.length:=by rw [I.len];exact (Yao.mp hi).1
 have cne:=I.cne;have D:∀{a:AD}{h':Heap},(∃o,s.heap.get? a=some o/\H a=none)->Heap.SameBut a s.heap h'->HOk X.prog X.w H h':=λ{a h'} ha B b ob e=>by
  obtain ⟨_,_,Y⟩:=ha;refine (I.hok b ob e).stay (λc w' O q=>(B.2 c ?_).trans q) (λ_ q=>q) λ_ _ q=>q;rintro rfl;rcases O with rfl | O
  ·rw [Y] at e;cases e
  ·rw [Y] at O;cases O
 rcases U with hk | hk
 ·refine wpAny_storeName_local hk hn (λh' ah B=>?_) ab;obtain ⟨oL,_,_,ai,_⟩:=id hn;refine h _ ⟨I.ok,I.os,I.bare,⟨λb o e n hb U=>?_,λb o e n hb U=>?_,I.base.free,λb o e U=>?_,I.base.tups,I.base.frzs,I.base.tbls⟩,⟨_,ah,λj y v' L Z e3=>?_⟩,λy c e=>?_,I.free,I.freeC,λp hp=>?_,D ⟨oL,ai,I.free⟩ B,by simpa using I.len⟩ ⟨_,B,.inl rfl⟩
  ·exact (B.2 b (Yar (Ybk (Yah e) I.ok.above))).trans (I.base.keep b o e n hb U)
  ·obtain ⟨sl,L⟩:=I.base.slot b o e n hb U;exact ⟨sl,(B.2 b (Yar (Ybk (Yah e) I.ok.above))).trans L⟩
  ·obtain ⟨o',L⟩:=I.base.there b o e U;exact ⟨o',(B.2 b (Yar (Ybk (Yah e) I.ok.above))).trans L⟩
  ·by_cases hj:j=i
   ·subst hj;rw [hi] at L;cases L;rw [List.getElem?_set_self ac] at Z;cases Z;exact ⟨u,r,.inl ⟨hk,by simp⟩⟩
   ·rw [List.getElem?_set_ne (Ne.symm hj)] at Z;obtain ⟨u',r',q⟩:=hl j y v' L Z e3;refine ⟨u',r',?_⟩;rcases q with ⟨k,e⟩ | ⟨k,c,e,z⟩
    ·refine .inl ⟨k,?_⟩;have:y≠x:=λe=>hj (XF hN L (e▸hi));simp [this,e]
    ·exact .inr ⟨k,c,e,z.sameBut B (cne y c e)⟩
  ·obtain ⟨w',z⟩:=I.cell y c e;exact ⟨w',z.sameBut B (cne y c e)⟩
  ·obtain ⟨e,n,ne,nf,d⟩:=I.pin p hp;exact ⟨(B.2 p.1 ne).trans e,n,ne,nf,d⟩
 ·have aa:X.fn x=true:=by
   rcases hf with z | z
   ·exact z
   ·rw [z] at hk;cases hk
  obtain ⟨c,O⟩:=I.ok.has x (.inl hk);obtain ⟨w',z⟩:=I.cell x c O;refine wpAny_storeName_cell I.ok.kind hk O z (λh' ad B=>?_);obtain ⟨oc,ae,af⟩:=id z;refine h { s with heap:=h' } ⟨I.ok,I.os,I.bare,⟨λb o e n hb U=>?_,λb o e n hb U=>?_,I.base.free,λb o e U=>?_,I.base.tups,I.base.frzs,I.base.tbls⟩,⟨m,hn.sameBut B (Ne.symm (cne x c O)),λj y v' L Z e3=>?_⟩,λy c' e=>?_,I.free,I.freeC,λp hp=>?_,D ⟨oc,ae,I.freeC x c O⟩ B,by simpa using I.len⟩ ⟨c,B,.inr O⟩
  ·exact (B.2 b (Yar (Ybk (Yah e) (I.ok.cab x c aa O)))).trans (I.base.keep b o e n hb U)
  ·obtain ⟨sl,L⟩:=I.base.slot b o e n hb U;exact ⟨sl,(B.2 b (Yar (Ybk (Yah e) (I.ok.cab x c aa O)))).trans L⟩
  ·obtain ⟨o',L⟩:=I.base.there b o e U;exact ⟨o',(B.2 b (Yar (Ybk (Yah e) (I.ok.cab x c aa O)))).trans L⟩
  ·by_cases hj:j=i
   ·subst hj;rw [hi] at L;cases L;rw [List.getElem?_set_self ac] at Z;cases Z;exact ⟨u,r,.inr ⟨.inl hk,c,O,ad⟩⟩
   ·rw [List.getElem?_set_ne (Ne.symm hj)] at Z;obtain ⟨u',r',q⟩:=hl j y v' L Z e3;refine ⟨u',r',?_⟩;rcases q with q | ⟨k,c',e,z'⟩
    ·exact .inl q
    ·refine .inr ⟨k,c',e,z'.sameBut B ?_⟩;rintro rfl;exact hj (XF hN L (I.ok.inj _ _ _ e O▸hi))
  ·by_cases ag:c'=c
   ·subst ag;exact ⟨_,ad⟩
   ·obtain ⟨w2,z2⟩:=I.cell y c' e;exact ⟨w2,z2.sameBut B ag⟩
  ·obtain ⟨e,n,ne,nf,d⟩:=I.pin p hp;refine ⟨(B.2 p.1 ?_).trans e,n,ne,nf,d⟩;intro q;rw [q,ae] at e;have q':oc=p.2:=Ybl e;exact d w' (by rw [<-q'];exact af)
theorem Ut (I:Inv X qQ σ H s)(j:X.N.Nodup)(hi:X.N[i]?=some x)(q:Loc X.env.scope x)(r:RelV v u)(h:∀s',Inv X qQ (σ.set i (some v)) H s'->Q () s')(B:X.fn x=true\/X.env.scope.names.lookup x=some .local:=by first | exact .inl rfl | exact .inr rfl | assumption):wpAny M A (storeName X.env x u) Q E s:=
 Ww I j hi q r (λs' D _=>h s' D) B
theorem Inv.call' (I:Inv X qQ σ H s)(B:s'.os=s.os)(u:Un (frs X.stack) ch H H' s.heap s'.heap)(j:HOk X.prog X.w H' s'.heap)(D:AllBare s'.gens)(q:∀b∈ch,(b∈X.ex\/X.s₀.heap.objs.size<=b)/\b≠X.env.locals/\(∀x c,X.env.cells.lookup x=some c->c≠b)/\∀p∈X.pn++qQ,p.1≠b):Inv X qQ σ H' s':=by
 obtain ⟨h',g',d',t',o'⟩:=s';have e:o'=s.os:=B;subst e;exact I.call (g':=g') (t':=t') (d':=d') u j D q
end
noncomputable abbrev XK:=Aa->Option AD->Hp->Prop
noncomputable abbrev St:=List (Option V)
noncomputable abbrev VK:=V->Hp->Prop
noncomputable abbrev TE:=St->Hp->VK->Prop
noncomputable abbrev TT:=St->Hp->(Bool->Hp->Prop)->Prop
noncomputable abbrev TA:=St->Hp->(List V->Hp->Prop)->Prop
structure Vb where
 nx:St->Hp->Prop
 rt:VK
 bk:St->Hp->Prop:=λ_ _=>False
 ct:St->Hp->Prop:=λ_ _=>False
noncomputable abbrev TS:=Vb->St->Hp->Prop
noncomputable def EP (X:Cx)(qQ:List (AD×Obj))(σ:St)(Q:VK)(u:Aa)(s':SS):Prop:=∃v H',Inv X qQ σ H' s'/\RelV v u/\Q v H'
noncomputable def TP (X:Cx)(qQ:List (AD×Obj))(σ:St)(Q:Bool->Hp->Prop)(b:Bool)(s':SS):Prop:=∃H',Inv X qQ σ H' s'/\Q b H'
noncomputable def AP (X:Cx)(qQ:List (AD×Obj))(σ:St)(Q:List V->Hp->Prop)(us:LW)(s':SS):Prop:=∃vs H',Inv X qQ σ H' s'/\Vals vs us/\Q vs H'
noncomputable def SP (X:Cx)(qQ:List (AD×Obj))(D:Vb)(f:Flow)(s':SS):Prop:=
 match f with
 | .next=>∃ j H',Inv X qQ j H' s'/\D.nx j H'
 | .brk=>∃ j H',Inv X qQ j H' s'/\D.bk j H'
 | .cont=>∃ j H',Inv X qQ j H' s'/\D.ct j H'
 | .ret u=>∃v j H',Inv X qQ j H' s'/\RelV v u/\D.rt v H'
noncomputable def PE (X:Cx)(e:Expr)(t:TE):Prop:=
 ∀(qQ:List (AD×Obj))(s:SS)(σ:St)(H:Hp)(Q:VK),Inv X qQ σ H s->t σ H Q->wpAny (model X.prog X.w) X.A (eval e X.env) (EP X qQ σ Q) X.xe s
noncomputable def PT (X:Cx)(e:Expr)(t:TT):Prop:=
 ∀(qQ:List (AD×Obj))(s:SS)(σ:St)(H:Hp)(Q:Bool->Hp->Prop),Inv X qQ σ H s->t σ H Q->wpAny (model X.prog X.w) X.A (isTrue e X.env (eval e X.env)) (TP X qQ σ Q) X.xe s
noncomputable def PW (X:Cx)(e:Expr)(t:TT):Prop:=
 ∀(j:Sem Aa)(qQ:List (AD×Obj))(s:SS)(σ:St)(H:Hp)(Q:Bool->Hp->Prop),Inv X qQ σ H s->t σ H Q->wpAny (model X.prog X.w) X.A (isTrue e X.env j) (TP X qQ σ Q) X.xe s
theorem PW.pt (h:PW X e t):PT X e t:=h _
noncomputable def PA (X:Cx)(es:List Expr)(t:TA):Prop:=
 ∀(pos:Pos)(qQ:List (AD×Obj))(s:SS)(σ:St)(H:Hp)(Q:List V->Hp->Prop),Inv X qQ σ H s->t σ H Q->wpAny (model X.prog X.w) X.A (spliced (backTo pos (starEach es X.env))) (AP X qQ σ Q) X.xe s
noncomputable def PS (X:Cx)(st:Stmt)(t:TS):Prop:=
 ∀(qQ:List (AD×Obj))(s:SS)(σ:St)(H:Hp)(D:Vb),Inv X qQ σ H s->t D σ H->wpAny (model X.prog X.w) X.A (exec st X.env) (SP X qQ D) X.xe s
noncomputable def PSs (X:Cx)(st:List Stmt)(t:TS):Prop:=
 ∀(qQ:List (AD×Obj))(s:SS)(σ:St)(H:Hp)(D:Vb),Inv X qQ σ H s->t D σ H->wpAny (model X.prog X.w) X.A (execs st X.env) (SP X qQ D) X.xe s
theorem thn {α:Type}{t:Sem α}{Q j:α->SS->Prop}(h:wpAny M A t Q E s)(q:∀a s,Q a s->j a s):wpAny M A t j E s:=Ybr h q λ_ _ x=>x
theorem thG {α β:Type}{t:Sem α}{J:Hp->SS->Prop}{R:β->α->Prop}{C:β->Hp->Prop}{j:α->SS->Prop}(h:wpAny M A t (λa s'=>∃v H',J H' s'/\R v a/\C v H') E s)(k:∀a s' v H',J H' s'->R v a->C v H'->j a s'):wpAny M A t j E s:=thn h λa s' h=>by
 obtain ⟨v,H',h1,h2,q⟩:=h;exact k a s' v H' h1 h2 q
theorem thT {α:Type}{t:Sem α}{J:Hp->SS->Prop}{C:α->Hp->Prop}{j:α->SS->Prop}(h:wpAny M A t (λa s'=>∃H',J H' s'/\C a H') E s)(k:∀a s' H',J H' s'->C a H'->j a s'):wpAny M A t j E s:=thn h λa s' h=>by
 obtain ⟨H',h1,q⟩:=h;exact k a s' H' h1 q
section
variable {X:Cx}
noncomputable def Zt (i:Nat):TE:=λσ H Q=>∃v,σ[i]?=some (some v)/\Q v H
noncomputable def tC (v:V):TE:=λ_ H Q=>Q v H
theorem Ze1 (O:X.N[i]?=some x)(U:Vis X.env.scope x)(q:(x == ("__debug__" : Str))=false:=by decide)(B:(x == ("__classdict__" : Str))=false:=by decide):PE X (.Name x pos) (Zt i):=by
 intro qQ s σ H Q I h;obtain ⟨v,e,h⟩:=h;obtain ⟨m,Y,Z⟩:=I.loc;obtain ⟨u,r,l⟩:=Z i x v O e U;have fin:EP X qQ σ Q u s:=⟨v,H,I,r,h⟩;rcases l with ⟨j,hm⟩ | ⟨j,c,D,L⟩
 ·exact wpAny_Name (wpAny_loadName_local I.ok.kind j Y hm fin) q
 ·rcases j with j | j
  ·exact wpAny_Name (wpAny_loadName_cell I.ok.kind j D L fin) q
  ·exact wpAny_Name (wpAny_loadName_free I.ok.kind j D L fin B) q
theorem Gd {i j pos}:PE X (.Constant (.int i) j pos) (tC (.int i)):=λ_ _ _ H _ I h=>wpAny_Constant_int ⟨.int i,H,I.tok _,⟨_,rfl⟩,h⟩
theorem JI {b j pos}:PE X (.Constant (.bool b) j pos) (tC (.bl b)):=λ_ _ _ H _ I h=>Constant_bool ⟨.bl b,H,I,rfl,h⟩
theorem Zc0 {j pos}:PE X (.Constant .none j pos) (tC .non):=λ_ _ _ H _ I h=>Constant_none ⟨.non,H,I,rfl,h⟩
theorem Zc1 {x j pos}:PE X (.Constant (.str x) j pos) (tC (.str x)):=λ_ _ _ H _ I h=>Calls.Constant_str ⟨.str x,H,I.tok _,⟨_,rfl⟩,h⟩
noncomputable def Gl (X:Cx)(x:Str):Prop:=X.env.kindOf x=some .globalImplicit
theorem VH (I:Inv X qQ σ H s)(j:Gl X x)(q:X.mg x=some u)(h:Q u s)(B:(x == ("__debug__" : Str))=false:=by decide):wpAny (model X.prog X.w) X.A (eval (.Name x pos) X.env) Q E s:=
 Calls.Name_function_global I.ok.kind j (Calls.loadGlobal_global (by rw [I.ok.glob];exact I.mod.glob.keeps I.bk) q h) B
theorem Ol (I:Inv X qQ σ H s)(j:Gl X x)(q:X.mg x=none)(B:bootBuiltins x=some u)(h:Q u s)(D:x ≠ "__name__" := by decide)(L:(x == ("__debug__" : Str))=false:=by decide):wpAny (model X.prog X.w) X.A (eval (.Name x pos) X.env) Q E s:=by
 obtain ⟨N,h1,h2⟩:=I.mod.blt;exact Calls.Name_function_global I.ok.kind j (Calls.loadGlobal_builtin (by rw [I.ok.glob];exact I.mod.glob.keeps I.bk) q (by rw [I.ok.blt];exact h1.keeps I.bk) ((h2 x D).trans B) h) L
theorem Zy (j:Gl X x)(q:X.mg x=some u)(r:RelV v u)(B:(x == ("__debug__" : Str))=false:=by decide):PE X (.Name x pos) (tC v):=
 λ_ _ _ H _ I h=>VH I j q ⟨v,H,I,r,h⟩ B
theorem Zdz (j:Gl X x)(q:X.mg x=none)(B:bootBuiltins x=some u)(r:RelV v u)(D:x ≠ "__name__" := by decide)(L:(x == ("__debug__" : Str))=false:=by decide):PE X (.Name x pos) (tC v):=
 λ_ _ _ H _ I h=>Ol I j q B ⟨v,H,I,r,h⟩ D L
variable {a b:Expr}{ta tb:TE}{pos:Pos}
noncomputable def PC (X:Cx)(op:CmpOp)(a b:Expr)(t:TE):Prop:=
 ∀(qQ:List (AD×Obj))(s:SS)(σ:St)(H:Hp)(Q:VK),Inv X qQ σ H s->t σ H Q ->
  wpAny (model X.prog X.w) X.A (eval a X.env) (λv j=>wpAny (model X.prog X.w) X.A (eval b X.env) (λu q=>wpAny (model X.prog X.w) X.A (compareOp op v u) (EP X qQ σ Q) X.xe q) X.xe j) X.xe s
noncomputable def tB (t:TE):TT:=λσ H Q=>t σ H λx H1=>∃c,x=.bl c/\Q c H1
theorem XG (h:PC X op a b t)(h1:behindInMarks op b=false:=by first | exact nobehind _ (by decide) (by decide) | rfl):PT X (.Compare a [op] [b] pos) (tB t):=by
 intro qQ s σ H Q I j;refine wpAny_isTrue_Compare1 (thn (h qQ s σ H _ I j) λv N h1=>thn h1 λu O h2=>thn h2 λc U ⟨x,H1,B,D,L⟩=>?_) h1;obtain ⟨d,rfl,q⟩:=L;cases D;exact Yeb ⟨H1,B,q⟩
theorem Vi (h:PE X e t)(B:∀j,isTrue e X.env j=(do let v <- j;standAt e.pos;holding [v] (truthy v)):=by intro _;rfl):PT X e (tB t):=by
 intro qQ s σ H Q I D;refine isTrue_plain (thG (h qQ s σ H _ I D) λv U x H1 L N O=>?_) (B _);obtain ⟨d,rfl,q⟩:=O;cases N;exact Yeb ⟨H1,L,q⟩
variable {tA tB':TT}{rest:List Expr}
noncomputable def Zij (t u:TT):TT:=λσ H Q=>t σ H λc H1=>if c=true then u σ H1 Q else Q false H1
noncomputable def tOr (t u:TT):TT:=λσ H Q=>t σ H λc H1=>if c=true then Q true H1 else u σ H1 Q
noncomputable def Zik (t:TT):TT:=λσ H Q=>t σ H λc H1=>Q (!c) H1
theorem Xe (ha:PT X a tA):PW X (.BoolOp .And [a] pos) tA:=by
 intro j qQ s σ H Q I h;refine isTrue_and (thn (ha qQ s σ H Q I h) λc q e=>?_);cases c with
 | true=>exact isTrue_and_nil e
 | false=>exact e
theorem XH (ha:PT X a tA):PW X (.BoolOp .Or [a] pos) tA:=by
 intro j qQ s σ H Q I h;refine isTrue_or (thn (ha qQ s σ H Q I h) λc q e=>?_);cases c with
 | false=>exact isTrue_or_nil e
 | true=>exact e
theorem Zz (ha:PT X a tA)(B:PW X (.BoolOp .And (b::rest) pos) tB'):PW X (.BoolOp .And (a::b::rest) pos) (Zij tA tB'):=by
 intro D qQ s σ H Q I h;refine isTrue_and (thT (ha qQ s σ H _ I h) λc L H1 j q=>?_);cases c with
 | true=>exact B D qQ L σ H1 Q j q
 | false=>exact ⟨H1,j,q⟩
theorem ZbF (ha:PT X a tA)(B:PW X (.BoolOp .Or (b::rest) pos) tB'):PW X (.BoolOp .Or (a::b::rest) pos) (tOr tA tB'):=by
 intro D qQ s σ H Q I h;refine isTrue_or (thT (ha qQ s σ H _ I h) λc L H1 j q=>?_);cases c with
 | true=>exact ⟨H1,j,q⟩
 | false=>exact B D qQ L σ H1 Q j q
theorem XI (ha:PT X a tA):PT X (.UnaryOp .Not a pos) (Zik tA):=by
 intro qQ s σ H Q I h;exact isTrue_not (ha qQ s σ H (λc H1=>Q (!c) H1) I h)
noncomputable def Zhf (ta tb:TE):TE:=λσ H Q=>ta σ H λx H1=>∃c,x=.bl c/\if c=true then tb σ H1 Q else Q (.bl false) H1
theorem ZB {op}(h:PE X a t):PE X (.BoolOp op [a] pos) t:=λqQ s σ H Q I j=>BoolOp_one (h qQ s σ H Q I j)
theorem ZC (ha:PE X a ta)(B:PE X (.BoolOp .And (b::rest) pos) tb):PE X (.BoolOp .And (a::b::rest) pos) (Zhf ta tb):=by
 intro qQ s σ H Q I h;refine BoolOp_and (thG (ha qQ s σ H _ I h) λv D x H1 q L j=>?_);obtain ⟨c,rfl,j⟩:=j;cases L;refine Yeb ?_;cases c with
 | true=>exact B qQ D σ H1 Q q j
 | false=>exact ⟨.bl false,H1,q,rfl,j⟩
noncomputable def tIf (t:TT)(ta tb:TE):TE:=λσ H Q=>t σ H λc H1=>if c=true then ta σ H1 Q else tb σ H1 Q
theorem ZbG (D:PT X c tA)(ha:PE X a ta)(L:PE X b tb):PE X (.IfExp c a b pos) (tIf tA ta tb):=by
 intro qQ s σ H Q I h;refine wpAny_IfExp (thT (D qQ s σ H _ I h) λd j H1 q B=>?_);cases d with
 | true=>exact ha qQ j σ H1 Q q B
 | false=>exact L qQ j σ H1 Q q B
end
noncomputable def SqL (K:FG)(H:Hp)(a:AD)(xs:List V):Prop:=
 Rd H a (.lst xs) \/
  ∃(o:Obj)(its:Array Aa)(n:Nat),K.lookup a=some o/\o.cls=.type "list" /\ o.dict=none/\o.data=.seq its n/\its.size<=sizeLine/\Vals xs its.toList
noncomputable def SqT (K:FG)(H:Hp)(a:AD)(xs:List V):Prop:=
 Rd H a (.tup xs) \/
  ∃(o:Obj)(its:Array Aa)(n:Nat),K.lookup a=some o/\o.cls=.type "tuple" /\ o.data=.seq its n/\its.size<=sizeLine/\Vals xs its.toList
noncomputable def Zil:Aa->Option V
 | .none=>some .non
 | .bool b=>some (.bl b)
 | .int i _=>some (.int i)
 | .str x _=>some (.str x)
 | .bytes b _=>some (.byt b)
 | .float b _=>some (.flt b)
 | .ref a=>some (.ref a)
 | .type n=>some (.ty n)
 | _=>none
theorem RelV.abs (r:RelV x u):Zil u=some x:=by
 cases x with
 | non=>cases r;rfl
 | bl _=>cases r;rfl
 | int _=>obtain ⟨t,rfl⟩:=r;rfl
 | str _=>obtain ⟨t,rfl⟩:=r;rfl
 | byt _=>obtain ⟨t,rfl⟩:=r;rfl
 | flt _=>obtain ⟨t,rfl⟩:=r;rfl
 | ref _=>cases r;rfl
 | ty _=>cases r;rfl
theorem RelV.inj {x y:V}{u:Aa}(r:RelV x u)(q:RelV y u):x=y:=Ybl (r.abs.symm.trans q.abs)
theorem Vals.inj {xs ys:List V}{us:LW}(h:Vals xs us)(g:Vals ys us):xs=ys:=by
 induction h generalizing ys with
 | nil=>cases g;rfl
 | cons r t ih=>cases g with
  | cons r' t'=>rw [r.inj r',ih t']
section
variable {X:Cx}{qQ:List (AD×Obj)}{σ:St}{H:Hp}{s:SS}{a:AD}{xs ys:List V}
theorem SqL.of {K:FG}(h:H a=some (.lst xs)):SqL K H a xs:=.inl (.inl h)
theorem SqT.of {K:FG}(h:H a=some (.tup xs)):SqT K H a xs:=.inl (.inl h)
theorem Inv.list (I:Inv X qQ σ H s)(h:SqL X.K H a xs):∃its:LW,Vals xs its/\PlainL s.heap a its.toArray/\xs.length<=sizeLine:=by
 rcases h with h | ⟨o,its,n,j,q,B,D,L,r⟩
 ·obtain ⟨z,its,n,r,e⟩:=h.ok I.hok;exact ⟨its,r,⟨_,n,e,rfl,rfl,rfl⟩,z⟩
 ·refine ⟨its.toList,r,⟨o,n,I.kIn a o j,q,B,by simpa using D⟩,?_⟩;have e:=r.length;simp only [Yan] at e
  lia
theorem Inv.tuple (I:Inv X qQ σ H s)(h:SqT X.K H a xs):∃its:LW,Vals xs its/\IsTup s.heap a its.toArray/\xs.length<=sizeLine:=by
 rcases h with h | ⟨o,its,n,j,q,B,D,r⟩
 ·obtain ⟨z,its,r,p⟩:=h.ok I.hok;exact ⟨its,r,p,z⟩
 ·refine ⟨its.toList,r,⟨o,I.kIn a o j,q,n,by simpa using B⟩,?_⟩;have e:=r.length;simp only [Yan] at e
  lia
theorem Inv.list_inj (I:Inv X qQ σ H s)(h:SqL X.K H a xs)(h':SqL X.K H a ys):xs=ys:=by
 obtain ⟨its,r,⟨o,n,e,_,_,d⟩,_⟩:=I.list h;obtain ⟨j,r',⟨o',D,q,_,_,B⟩,_⟩:=I.list h';rw [e] at q;cases q;rw [d] at B;injection B with d1 _
 have:its=j:=by simpa using Ybh Array.toList d1
 subst this;exact r.inj r'
theorem Inv.tuple_inj (I:Inv X qQ σ H s)(h:SqT X.K H a xs)(h':SqT X.K H a ys):xs=ys:=by
 obtain ⟨its,r,⟨o,e,_,n,d⟩,_⟩:=I.tuple h;obtain ⟨j,r',⟨o',q,_,D,B⟩,_⟩:=I.tuple h';rw [e] at q;cases q;rw [d] at B;injection B with d1 _
 have:its=j:=by simpa using Ybh Array.toList d1
 subst this;exact r.inj r'
end
noncomputable abbrev Cx.wish (X:Cx)(E:Aa->SS->Prop):Cx:={ X with xe:=E }
noncomputable abbrev Cx.nox (X:Cx):Cx:=X.wish λ_ _=>False
theorem Cx.Ok.wish {X:Cx}(ok:X.Ok)(E:Aa->SS->Prop):(X.wish E).Ok:=
 ⟨ok.mod,ok.kind,ok.glob,ok.blt,ok.above,ok.inj,ok.has,ok.cab,ok.hd,ok.frames,ok.stk,ok.exf,ok.bs,ok.bsz,ok.noex,ok.exfs,ok.funs,ok.frf⟩
theorem Cx.Ok.unwish {X:Cx}(ok:(X.wish E).Ok):X.Ok:=
 ⟨ok.mod,ok.kind,ok.glob,ok.blt,ok.above,ok.inj,ok.has,ok.cab,ok.hd,ok.frames,ok.stk,ok.exf,ok.bs,ok.bsz,ok.noex,ok.exfs,ok.funs,ok.frf⟩
section
variable {X:Cx}{qQ:List (AD×Obj)}{σ:St}{H:Hp}{s:SS}{E:Aa->SS->Prop}
theorem Inv.wish (I:Inv X qQ σ H s)(E:Aa->SS->Prop):Inv (X.wish E) qQ σ H s:=⟨I.ok.wish E,I.os,I.bare,I.base,I.loc,I.cell,I.free,I.freeC,I.pin,I.hok,I.len⟩
theorem Inv.unwish (I:Inv (X.wish E) qQ σ H s):Inv X qQ σ H s:=⟨I.ok.unwish,I.os,I.bare,I.base,I.loc,I.cell,I.free,I.freeC,I.pin,I.hok,I.len⟩
theorem SP.unwish (h:SP (X.wish E) qQ D f s'):SP X qQ D f s':=by
 cases f with
 | next=>obtain ⟨j,H',I,q⟩:=h;exact ⟨j,H',I.unwish,q⟩
 | brk=>obtain ⟨j,H',I,q⟩:=h;exact ⟨j,H',I.unwish,q⟩
 | cont=>obtain ⟨j,H',I,q⟩:=h;exact ⟨j,H',I.unwish,q⟩
 | ret u=>obtain ⟨v,j,H',I,r,q⟩:=h;exact ⟨v,j,H',I.unwish,r,q⟩
theorem PSs.nox {st:List Stmt}(h:PSs X.nox st t):PSs X st t:=λqQ s σ H D I j=>
 Ybr (h qQ s σ H D (I.wish _) j) (λ_ _ q=>q.unwish) λ_ _ z=>False.elim z
end
section
variable {X:Cx}{st:Stmt}{rest:List Stmt}{t u:TS}{e:Expr}{te:TE}{pos:Pos}
noncomputable def JJ:TS:=λD σ H=>D.nx σ H
noncomputable def GG (t u:TS):TS:=λD σ H=>t { D with nx:=u D } σ H
theorem Gp:PSs X [] JJ:=λ_ _ σ H _ I h=>wpAny_execs_nil ⟨σ,H,I,h⟩
theorem Gb (h1:PS X st t)(h2:PSs X rest u):PSs X (st::rest) (GG t u):=by
 intro qQ s σ H D I h;refine wpAny_execs_cons (thn (h1 qQ s σ H { D with nx:=u D } I h) λf j q=>?_);cases f with
 | next=>
  obtain ⟨B,H',L,q⟩:=q;exact h2 qQ j B H' D L q
 | ret v=>exact q
 | brk=>exact q
 | cont=>exact q
theorem Gh (h1:PS X st t):PSs X [st] t:=by
 intro qQ s σ H D I h;refine wpAny_execs_cons (thn (h1 qQ s σ H D I h) λf j q=>?_);cases f with
 | next=>exact wpAny_execs_nil q
 | ret v=>exact q
 | brk=>exact q
 | cont=>exact q
theorem Inv.quiet (I:Inv X qQ σ H s):interactive X.env=false:=by simp [interactive,I.ok.kind]
noncomputable def Zhg (te:TE):TS:=λD σ H=>te σ H λ_ H1=>D.nx σ H1
theorem G9 (j:PE X e te)(q:swapsWith e none pos.line X.env=pure false:=by rfl):PS X (.Expr e pos) (Zhg te):=by
 intro qQ s σ H D I h;exact wpAny_Expr_any (thG (j qQ s σ H _ I h) λv N x H1 B O L=>⟨σ,H1,B,L⟩) I.quiet q
noncomputable def Zim (te:TE):TS:=λD σ H=>te σ H D.rt
theorem Gr (j:PE X e te):PS X (.Return (some e) pos) (Zim te):=by
 intro qQ s σ H D I h;exact wpAny_Return_some (thG (j qQ s σ H _ I h) λv N x H1 q B L=>⟨x,σ,H1,q,B,L⟩)
noncomputable def Zh1 (c:TT)(t u:TS):TS:=λD σ H=>c σ H λb H1=>if b=true then t D σ H1 else u D σ H1
theorem GX (L:PT X c tc)(ha:PSs X a t)(N:PSs X b u):PS X (.If c a b pos) (Zh1 tc t u):=by
 intro qQ s σ H D I h;refine wpAny_If (thT (L qQ s σ H _ I h) λd j H1 q B=>?_);cases d with
 | true=>exact ha qQ j σ H1 D q B
 | false=>exact N qQ j σ H1 D q B
end
noncomputable abbrev TG:=V->St->Hp->(St->Hp->Prop)->Prop
noncomputable abbrev TGs:=List V->St->Hp->(St->Hp->Prop)->Prop
noncomputable def PG (X:Cx)(qU:Expr)(t:TG):Prop:=
 ∀(qQ:List (AD×Obj))(s:SS)(σ:St)(H:Hp)(v:V)(u:Aa)(Q:St->Hp->Prop),Inv X qQ σ H s->RelV v u->t v σ H Q ->
  wpAny (model X.prog X.w) X.A (assign qU X.env u) (λ_ s'=>∃ j H',Inv X qQ j H' s'/\Q j H') X.xe s
noncomputable def PGs (X:Cx)(ts:List Expr)(t:TGs):Prop:=
 ∀(qQ:List (AD×Obj))(s:SS)(σ:St)(H:Hp)(vs:List V)(us:LW)(Q:St->Hp->Prop),Inv X qQ σ H s->Vals vs us->t vs σ H Q ->
  wpAny (model X.prog X.w) X.A (assignInOrder ((assignEach ts X.env).map (·.2)) us) (λ_ s'=>∃ j H',Inv X qQ j H' s'/\Q j H') X.xe s
section
variable {X:Cx}{pos:Pos}
noncomputable def Gq (i:Nat):TG:=λv σ H Q=>Q (σ.set i (some v)) H
theorem ZdA (j:X.N.Nodup)(hi:X.N[i]?=some x)(q:Loc X.env.scope x)(B:X.fn x=true\/X.env.scope.names.lookup x=some .local:=by first | exact .inl rfl | exact .inr rfl | assumption):PG X (.Name x pos) (Gq i):=by
 intro qQ s σ H v u Q I r h;exact wpAny_assign_Name (Ut I j hi q r (λs' D=>⟨_,H,D,h⟩) B)
noncomputable def Zhh:TGs:=λvs σ H Q=>vs=[]/\Q σ H
noncomputable def ZD (t:TG)(u:TGs):TGs:=λvs σ H Q=>∃v r,vs=v::r/\t v σ H λj H'=>u r j H' Q
theorem GN:PGs X [] Zhh:=by
 intro qQ s σ H vs us Q I r h;obtain ⟨e,h⟩:=h;subst e;cases r;exact assignInOrder_nil ⟨σ,H,I,h⟩
theorem Gi (h1:PG X e t)(h2:PGs X es u)(j:(assignEach (e::es) X.env).map (·.2)=assign e X.env::(assignEach es X.env).map (·.2):=by rfl):PGs X (e::es) (ZD t u):=by
 intro qQ s σ H vs us Q I r h;obtain ⟨v,O,q,h⟩:=h;subst q;cases r with
 | cons r rr=>
  rw [j];refine assignInOrder_cons (thn (h1 qQ s σ H _ _ _ I r h) λ_ B ⟨D,H1,L,N⟩=>?_);exact h2 qQ B D H1 _ _ Q L rr N
noncomputable def ZgT (K:FG)(n:Nat)(t:TGs):TG:=λv σ H Q=>∃a xs,v=.ref a/\SqT K H a xs/\xs.length=n/\t xs σ H Q
theorem Ze2 (D:X.calm=true)(h:PGs X es t)(L:(assignEach es X.env).length=n:=by rfl)(j:(assignEach es X.env).findIdx? (·.1)=none:=by rfl):PG X (.Tuple es k pos) (ZgT X.K n t):=by
 intro qQ s σ H v u Q I r q;obtain ⟨a,xs,N,O,U,q⟩:=q;subst N;cases r;obtain ⟨its,B,Y,hz⟩:=I.tuple O;refine assign_Tuple_tuple (I.ok.hd D) Y (by simp [L,<-U,B.length]) j λh' Z=>?_;have I1:Inv X qQ σ H { s with heap:=h' }:=I.kept (t':=s.toks) λb o e=>Z b o (Yar (Yah e)) e;exact h qQ _ σ H xs _ Q I1 (by simpa using B) q
noncomputable def ZgU (te:TE)(g:TG):TS:=λD σ H=>te σ H λx H1=>g x σ H1 D.nx
theorem Om (j:PE X e te)(B:PG X tg g)(L:swapsWithSole [tg] e pos.line X.env=pure false:=by rfl)(N:swappedStores [tg] e X.env=pure none:=by rfl)(h1:(assignEach [tg] X.env).map (·.2)=[assign tg X.env]:=by rfl):PS X (.Assign [tg] e pos) (ZgU te g):=by
 intro qQ s σ H D I h;refine wpAny_Assign_stores (thG (j qQ s σ H _ I h) λv O x H1 U Y Z=>?_) L N;rw [h1];exact thn (B qQ O σ H1 x v _ U Y Z) λ_ s2 q=>q
theorem Zc2 {i:Nat}{x:Str}{e:Expr}{te:TE}{pos':Pos}(j:X.N.Nodup)(hi:X.N[i]?=some x)(q:Loc X.env.scope x)(B:PE X e te)(L:swapsWith e (some (.Name x pos')) pos.line X.env=pure false:=by rfl)(O:X.fn x=true\/X.env.scope.names.lookup x=some .local:=by first | exact .inl rfl | exact .inr rfl | assumption) :
  PS X (.Assign [.Name x pos'] e pos) (ZgU te (Gq i)):=by
 intro qQ s σ H D I h;refine wpAny_Assign_Name (thG (B qQ s σ H _ I h) λv s1 y H1 U Y Z=>?_) L;exact Ut U j hi q Y (λs2 I2=>⟨_,H1,I2,Z⟩) O
noncomputable def Zin (i j:Nat)(ta:TA):TS:=λD σ H=>ta σ H λvs H1=>∃v w,vs=[v,w]/\D.nx ((σ.set i (some v)).set j (some w)) H1
theorem Ze3 {kt k2 pt2}(hc:X.calm=true)(hN:X.N.Nodup)(hi:X.N[i]?=some x)(hj:X.N[j]?=some y)(Z:i≠j)(hx:X.env.scope.names.lookup x=some .local)(hy:X.env.scope.names.lookup y=some .local)(ha:PA X [a,b] ta)(hw:swappedStores [.Tuple [.Name x U,.Name y Y] kt pt] (.Tuple [a,b] k2 pt2) X.env=pure (some [x,y]))(hs:swapsWithSole [.Tuple [.Name x U,.Name y Y] kt pt] (.Tuple [a,b] k2 pt2) pos.line X.env=pure false:=by rfl) :
  PS X (.Assign [.Tuple [.Name x U,.Name y Y] kt pt] (.Tuple [a,b] k2 pt2) pos) (Zin i j ta):=by
 intro qQ s σ H D I h;rw [exec_Assign_arm];refine Yaa (wpAny_standAt ?_);rw [hs];refine Yaa (Yab ?_);rw [if_neg (by decide)];refine Yaa (Tuple_ (thG (ha _ qQ s σ H _ I h) λus B vs H1 I1 r1 q1=>?_));obtain ⟨v,w,e1,q1⟩:=q1;subst e1;obtain ⟨L,O,rfl,rv,aa⟩:∃L O,us=[L,O]/\RelV v L/\RelV w O:=by
  cases r1 with
  | cons p q=>
   cases q with
   | cons p' q'=>
    cases q';exact ⟨_,_,rfl,p,p'⟩
 refine Yds ?_ (by show 2<=sizeLine;decide);have I2:Inv X qQ σ H1 { B with heap:=B.heap.push { cls:=.type "tuple", data:=.seq [L,O].toArray } }:=I1.kept (t':=B.toks) λb o e=>Yae _ e;rw [hw];refine Yaa (Yab ?_);show wpAny (model X.prog X.w) X.A (do rule "assign.swapped-stores";let items <- unpackItems (.ref B.heap.objs.size) 2 none;assignInOrder [λv=>bindName X.env y v,λv=>bindName X.env x v] items.reverse;pure Flow.next) _ _ _;refine Yaa (Ydh (Yaa (unpackItems_tuple (items:=#[L,O]) (I.ok.hd hc) (IsTup.new B.heap _) λh' ab=>?_)));have I3:=I2.kept (h':=h') (t':=B.toks) λb o e=>ab b o (Yar (Yah e)) e;show wpAny _ _ (assignInOrder [λv=>bindName X.env y v,λv=>bindName X.env x v] [O,L] >>= λ_=>pure Flow.next) _ _ _;refine Yaa (assignInOrder_cons (wpAny_bindName (Ut I3 hN hj (.inl hy) aa (λs2 I4=>?_) (.inr hy))));refine assignInOrder_cons (wpAny_bindName (Ut I4 hN hi (.inl hx) rv (λs3 I5=>assignInOrder_nil (Yab ?_)) (.inr hx)));rw [List.set_comm _ _ (Ne.symm Z)] at I5;exact ⟨_,H1,I5,q1⟩
noncomputable def Ze4 (c:TT)(tb:TS):TS:=λD σ H=>∃W:Nat->St->Hp->Prop,(∃m,W m σ H)/\∀m σ H,W m σ H ->
 c σ H λb H1=>if b=true then ∃N:St->Hp->Prop,(∀ j H',N j H'->∃q,q<m/\W q j H')/\tb { D with nx:=N,ct:=N,bk:=D.nx } σ H1 else D.nx σ H1
theorem VI (hp:PassesOwn (model X.prog X.w) X.A X.env X.xe)(hc:PT X c tc)(hb:PSs X body tb):PS X (.While c body [] pos) (Ze4 tc tb):=by
 intro qQ s σ H D I h;obtain ⟨W,⟨m0,w0⟩,j⟩:=h;refine wpAny_While (codeAny_whileLoop (λn s'=>∃ σ' H',Inv X qQ σ' H' s'/\W n σ' H') ?_ m0 ⟨σ,H,I,w0⟩);rintro n s1 ⟨L,H1,I1,w1⟩;refine Yes hp (thT (hc qQ s1 L H1 _ I1 (j n L H1 w1)) λb s2 H2 I2 O=>?_);cases b with
 | true=>
  obtain ⟨N,hN,O⟩:=O;rw [if_pos rfl];refine Yes hp (thn (hb qQ s2 L H2 _ I2 O) λf s3 U=>?_);cases f with
  | next=>
   obtain ⟨q,B,Y,Z⟩:=U;obtain ⟨m',hm,w3⟩:=hN q B Z;exact ⟨m',hm,q,B,Y,w3⟩
  | cont=>
   obtain ⟨q,B,Y,Z⟩:=U;obtain ⟨m',hm,w3⟩:=hN q B Z;exact ⟨m',hm,q,B,Y,w3⟩
  | brk=>exact U
  | ret v=>exact U
 | false=>
  rw [if_neg Yap];exact wpAny_execs_nil ⟨L,H2,I2,O⟩
end
structure It where
 go:Nat->Hp->Prop
 yld:Nat->Hp->V->Hp->Prop
 stop:Nat->Hp->Prop
noncomputable def ZbB (X:Cx)(qQ:List (AD×Obj))(H:Hp)(b:AD):Prop:=
 H b=none/\b≠X.env.locals/\b ∉ X.fs/\(b∈X.ex\/X.s₀.heap.objs.size<=b)/\(∀x c,X.env.cells.lookup x=some c->c≠b)/\∀p∈X.pn++qQ,p.1≠b
theorem Inv.fpOk (I:Inv X qQ σ H s)(j:s.heap.objs.size<=b)(B:H' b=none):ZbB X qQ H' b:=by
 refine ⟨B,Ydd (Ybk I.lt j),I.nofs j,.inr (Ybq I.sz j),λx c e z=>?_,λp D z=>?_⟩
 ·obtain ⟨v,q⟩:=I.cell x c e;exact absurd (Ybk q.lt (by rw [z];exact j)) (Ycm _)
 ·exact absurd (Ybk (Yah (I.pin p D).1) (by rw [z];exact j)) (Ycm _)
structure ZbH (P:PP)(w:Ab)(K:FG)(tg:Expr)(J:It)(fp:List AD)(it:AD)(tn:Nat->Heap->Prop):Prop where
 mem:it∈fp
 obj:∀i h,tn i h->∀b∈fp,∃o,h.get? b=some o/\∀v,o.data≠.cell v
 keep:∀i h h',tn i h->(∀b∈fp,∀o,h.get? b=some o->h'.get? b=some o)->tn i h'
 item:∀(X:Cx),X.prog=P->X.w=w->X.K=K->X.calm=true->∀(i:Nat)(qQ:List (AD×Obj))(s:SS)(σ:St)(H:Hp)(E:Aa->SS->Prop),Inv X qQ σ H s->(∀b∈fp,ZbB X qQ H b)->tn i s.heap->J.go i H ->
  wpAny (model P w) X.A (pyNext (.ref it)) (λr s1=>∃u,r=some u /\
   wpAny (model P w) X.A (letOwnedTupleGo tg (.ref it) u) (λ_ s2=>∃x H',Inv X qQ σ H' s2/\RelV x u/\J.yld i H x H'/\tn (i+1) s2.heap/\∀b∈fp,H' b=none) E s1) E s
 done:∀(X:Cx),X.prog=P->X.w=w->X.K=K->X.calm=true->∀(i:Nat)(qQ:List (AD×Obj))(s:SS)(σ:St)(H:Hp)(E:Aa->SS->Prop),Inv X qQ σ H s->(∀b∈fp,ZbB X qQ H b)->tn i s.heap->J.stop i H ->
  wpAny (model P w) X.A (pyNext (.ref it)) (λr s1=>r=none/\Inv X qQ σ H s1) E s
 self:∀(A:Around)(i:Nat)(s:SS)(Q:Aa->SS->Prop)(E:Aa->SS->Prop),tn i s.heap->Q (.ref it) s->wpAny (model P w) A (pyIter (.ref it)) Q E s
noncomputable abbrev TI:=St->Hp->(It->Hp->Prop)->Prop
noncomputable def PIE (X:Cx)(qQ:List (AD×Obj))(σ:St)(tg:Expr)(R:It->Hp->Prop)(j:Aa)(q:SS):Prop:=
 ∃(B:AD)(fp:List AD)(tn:Nat->Heap->Prop)(J:It)(H':Hp),j=.ref B/\Inv X qQ σ H' q/\ZbH X.prog X.w X.K tg J fp B tn/\tn 0 q.heap/\(∀b∈fp,ZbB X qQ H' b)/\R J H'
noncomputable def PI (X:Cx)(tg iter:Expr)(wi:TI):Prop:=
 ∀(qQ:List (AD×Obj))(s:SS)(σ:St)(H:Hp)(R:It->Hp->Prop),Inv X qQ σ H s->wi σ H R ->
  wpAny (model X.prog X.w) X.A (eval iter X.env) (λv j=>wpAny (model X.prog X.w) X.A (pyIter v) (PIE X qQ σ tg R) X.xe j) X.xe s
theorem ZbI (B:s.heap.get? q=some o)(D:o.cls=.type n)(L:o.data=.fields vs)(N:["enumerate", "zip", "dict_itemiterator", "dict_reverseitemiterator", "odict_iterator", "itertools.zip_longest", "itertools.pairwise"].contains n=false)(j:Q () s):wpAny M A (letOwnedTupleGo tg (.ref q) u) Q E s:=by
 unfold letOwnedTupleGo;cases tg <;> first
  | exact Yab j
  | (cases u <;> first
    | exact Yab j
    | (refine Yaa (wpAny_load B ?_)
       rw [D,L];show wpAny M A (if (["enumerate", "zip", "dict_itemiterator", "dict_reverseitemiterator", "odict_iterator", "itertools.zip_longest", "itertools.pairwise"].contains n && vs[0]? == some (rawInt _))=true then _ else _) Q E s;rw [if_neg (by intro h;rw [N,Bool.false_and] at h;cases h)];exact Yab j))
noncomputable def Itl (K:FG)(a:AD):It:=
 ⟨λi H=>∃xs x,SqL K H a xs/\xs[i]?=some x,λi H x H'=>H'=H/\∀xs,SqL K H a xs->xs[i]?=some x,λi H=>∃xs,SqL K H a xs/\xs.length<=i⟩
noncomputable def Itt (K:FG)(a:AD):It:=
 ⟨λi H=>∃xs x,SqT K H a xs/\xs[i]?=some x,λi H x H'=>H'=H/\∀xs,SqT K H a xs->xs[i]?=some x,λi H=>∃xs,SqT K H a xs/\xs.length<=i⟩
noncomputable def Itr (lo:Int)(n:Nat):It:=⟨λi _=>i<n,λi H x H'=>H'=H/\x=.int (lo+i),λi _=>n<=i⟩
theorem ZE {P:PP}{w:Ab}{K:FG}{tg:Expr}(a it:AD):ZbH P w K tg (Itl K a) [it] it (λi h=>h.IsListIter it a i) where
 mem:=by simp
 obj:=λi h st b hb=>by
  have e:b=it:=by simpa using hb
  subst e;obtain ⟨o,e,c,d⟩:=st;exact ⟨o,e,λv z=>by rw [d] at z;cases z⟩
 keep:=λi h h' st k=>st.at λo e=>k it (by simp) o e
 item:=by
  intro X hP hw hK hc i qQ s σ H E I hf st hg;subst hP hw hK;obtain ⟨xs,x,hq,hx⟩:=hg;obtain ⟨its,rv,p,hz⟩:=I.list hq;obtain ⟨u,hu,ru⟩:=rv.get hx;obtain ⟨f0,f1,f2,f3,f4,f5⟩:=hf it (by simp);refine wpAny_pyNext_list_item st p.isList (x:=u) (by simpa using hu) λh' st' sb=>?_;have I1:Inv X qQ σ H { s with heap:=h' }:=I.turned (t':=s.toks) (λb o hb e=>(sb.2 b hb).trans e) f0 f1 f3 f4 f5;obtain ⟨o,e,c,d⟩:=id st';exact ⟨u,rfl,ZbI (s:={ s with heap:=h' }) e c d (by decide) ⟨x,H,I1,ru,⟨rfl,λys hy=>by rw [I.list_inj hy hq];exact hx⟩,st',λb hb=>(hf b hb).1⟩⟩
 done:=by
  intro X hP hw hK hc i qQ s σ H E I hf st hg;subst hP hw hK;obtain ⟨xs,hq,hx⟩:=hg;obtain ⟨its,rv,p,hz⟩:=I.list hq;obtain ⟨f0,f1,f2,f3,f4,f5⟩:=hf it (by simp);have hl:=rv.length;exact wpAny_pyNext_list_end (I.ok.hd hc) st p.isList (by simp;lia) λh' eb=>⟨rfl,I.turned (t':=s.toks) (λb o hb e=>eb b o hb e) f0 f1 f3 f4 f5⟩
 self:=λ_ _ _ _ _ st h=>wpAny_pyIter_listiter st h
theorem YI {P:PP}{w:Ab}{K:FG}{tg:Expr}(a it:AD):ZbH P w K tg (Itt K a) [it] it (λi h=>h.IsTupleIter it a i) where
 mem:=by simp
 obj:=λi h st b hb=>by
  have e:b=it:=by simpa using hb
  subst e;obtain ⟨o,e,c,d⟩:=st;exact ⟨o,e,λv z=>by rw [d] at z;cases z⟩
 keep:=λi h h' st k=>st.at λo e=>k it (by simp) o e
 item:=by
  intro X hP hw hK hc i qQ s σ H E I hf st hg;subst hP hw hK;obtain ⟨xs,x,hq,hx⟩:=hg;obtain ⟨its,rv,p,hz⟩:=I.tuple hq;obtain ⟨u,hu,ru⟩:=rv.get hx;obtain ⟨f0,f1,f2,f3,f4,f5⟩:=hf it (by simp);refine wpAny_pyNext_tuple_item st (show s.heap.IsTuple a its.toArray from p) (x:=u) (by simpa using hu) λh' st' sb=>?_;have I1:Inv X qQ σ H { s with heap:=h' }:=I.turned (t':=s.toks) (λb o hb e=>(sb.2 b hb).trans e) f0 f1 f3 f4 f5;obtain ⟨o,e,c,d⟩:=id st';exact ⟨u,rfl,ZbI (s:={ s with heap:=h' }) e c d (by decide) ⟨x,H,I1,ru,⟨rfl,λys hy=>by rw [I.tuple_inj hy hq];exact hx⟩,st',λb hb=>(hf b hb).1⟩⟩
 done:=by
  intro X hP hw hK hc i qQ s σ H E I hf st hg;subst hP hw hK;obtain ⟨xs,hq,hx⟩:=hg;obtain ⟨its,rv,p,hz⟩:=I.tuple hq;obtain ⟨f0,f1,f2,f3,f4,f5⟩:=hf it (by simp);have hl:=rv.length;exact wpAny_pyNext_tuple_end (I.ok.hd hc) st (show s.heap.IsTuple a its.toArray from p) (by simp;lia) λh' eb=>⟨rfl,I.turned (t':=s.toks) (λb o hb e=>eb b o hb e) f0 f1 f3 f4 f5⟩
 self:=λ_ _ _ _ _ st h=>wpAny_pyIter_tupleiter st h
theorem YJ {P:PP}{w:Ab}{K:PySem.W.Frag}{tg:Expr}(it:AD)(lo:Int)(n:Nat):ZbH P w K tg (Itr lo n) [it] it (λi h=>IsRangeIter h it (lo+(i:Nat) * 1) ((n:Int)-(i:Nat)) 1) where
 mem:=by simp
 obj:=λi h st b hb=>by
  have e:b=it:=by simpa using hb
  subst e;exact ⟨_,st,λv z=>by
   have z':Data.fields _=Data.cell v:=z;cases z'⟩
 keep:=λi h h' st k=>k it (by simp) _ st
 item:=by
  intro X hP hw hK hc i qQ s σ H E I hf st hg;subst hP hw hK;obtain ⟨f0,f1,f2,f3,f4,f5⟩:=hf it (by simp);have W:=Walks.range (prog:=X.prog) (w:=X.w) (I.ok.hd hc) it lo 1 n;refine W.item i s _ _ hg st λv h' tk hv st' kk=>?_;obtain ⟨t,rfl⟩:=hv;have I1:Inv X qQ σ H { s with heap:=h',toks:=tk }:=I.turned (λb o hb e=>kk b o (by simpa using hb) e) f0 f1 f3 f4 f5;refine ⟨_,rfl,ZbI (s:={ s with heap:=h',toks:=tk }) (n := "range_iterator") st' rfl rfl (by decide) ⟨.int (lo+i),H,I1,⟨t,?_⟩,⟨rfl,rfl⟩,st',λb hb=>(hf b hb).1⟩⟩;rw [Int.mul_one]
 done:=by
  intro X hP hw hK hc i qQ s σ H E I hf st hg;subst hP hw hK;obtain ⟨f0,f1,f2,f3,f4,f5⟩:=hf it (by simp);exact wpAny_pyNext_range_end (I.ok.hd hc) st (by have:n<=i:=hg;lia) λh' eb=>⟨rfl,I.turned (t':=s.toks) (λb o hb e=>eb b o hb e) f0 f1 f3 f4 f5⟩
 self:=λ_ _ _ _ _ st h=>wpAny_pyIter_rangeiter st h
section
variable {X:Cx}{tg:Expr}
noncomputable def Ze5 (K:FG)(tl:TE):TI:=λσ H R=>tl σ H λx H1=>∃a,x=.ref a/\(∃xs,SqL K H1 a xs)/\R (Itl K a) H1
noncomputable def Zh2 (K:FG)(tl:TE):TI:=λσ H R=>tl σ H λx H1=>∃a,x=.ref a/\(∃xs,SqT K H1 a xs)/\R (Itt K a) H1
theorem ZdB (D:PE X l tl):PI X tg l (Ze5 X.K tl):=by
 intro qQ s σ H R I h;refine thG (D qQ s σ H _ I h) λv j x H1 B L N=>?_;obtain ⟨a,e,⟨xs,O⟩,q⟩:=N;subst e;cases L;obtain ⟨its,Y,p,Z⟩:=B.list O;refine wpAny_pyIter_list p.isList ?_;refine ⟨j.heap.objs.size,[j.heap.objs.size],_,_,H1,rfl,B.kept (t':=j.toks) λb o e=>Yae _ e,ZE a _,⟨_,Yaw _ rfl,rfl,rfl⟩,λb U=>?_,q⟩;have e:b=j.heap.objs.size:=by simpa using U
 subst e;exact B.fpOk (Yaf _) (B.hok.fresh (Yaf _))
theorem Ze6 (D:PE X l tl):PI X tg l (Zh2 X.K tl):=by
 intro qQ s σ H R I h;refine thG (D qQ s σ H _ I h) λv j x H1 B L N=>?_;obtain ⟨a,e,⟨xs,O⟩,q⟩:=N;subst e;cases L;obtain ⟨its,Y,p,Z⟩:=B.tuple O;refine wpAny_pyIter_tuple (show j.heap.IsTuple a its.toArray from p) ?_;refine ⟨j.heap.objs.size,[j.heap.objs.size],_,_,H1,rfl,B.kept (t':=j.toks) λb o e=>Yae _ e,YI a _,⟨_,Yaw _ rfl,rfl,rfl⟩,λb U=>?_,q⟩;have e:b=j.heap.objs.size:=by simpa using U
 subst e;exact B.fpOk (Yaf _) (B.hok.fresh (Yaf _))
theorem XJ {lo hi:Int}(I:Inv X qQ σ H s)(h1:-(2 ^ 62)<=lo)(h2:lo<2 ^ 62)(B:-(2 ^ 62)<=hi)(D:hi<2 ^ 62)(q:R (Itr lo (hi-lo).toNat) H):wpAny (model X.prog X.w) X.A (pyIter (.ref s.heap.objs.size)) (PIE X qQ σ tg R) E { s with heap:=s.heap.push { cls:=.type "range", data:=.fields #[.int lo t,.int hi u,.int 1 v] },toks:=tk }:=by
 refine wpAny_pyIter_range (IsRange.new ..) (small_one h1 h2 B D) ?_;have j:Inv X qQ σ H { s with heap:=s.heap.push { cls:=.type "range", data:=.fields #[.int lo t,.int hi u,.int 1 v] },toks:=tk }:=I.kept λb o e=>Yae _ e;refine ⟨(s.heap.push { cls:=.type "range", data:=.fields #[.int lo t,.int hi u,.int 1 v] }).objs.size,[(s.heap.push { cls:=.type "range", data:=.fields #[.int lo t,.int hi u,.int 1 v] }).objs.size],_,_,H,rfl,
  j.kept (t':=tk) λb o e=>Yae _ e,YJ _ lo (hi-lo).toNat,?_,λb L=>?_,q⟩
 ·have N:lo+((0:Nat):Int) * 1=lo:=by simp
  have O:(((hi-lo).toNat:Nat):Int)-((0:Nat):Int)=Builtin.Range.rangeSize lo hi 1:=by rw [rangeSize_one];split <;> lia
  show IsRangeIter _ _ (lo+((0:Nat):Int) * 1) ((((hi-lo).toNat:Nat):Int)-((0:Nat):Int)) 1;rw [N,O];exact Yaw _ rfl
 ·have e:b=(s.heap.push { cls:=.type "range", data:=.fields #[.int lo t,.int hi u,.int 1 v] }).objs.size:=by simpa using L
  subst e;exact j.fpOk (Yaf _) (j.hok.fresh (Yaf _))
noncomputable def Zhi (ta:TA):TI:=λσ H R=>ta σ H λvs H1=>∃j:Int,vs=[.int j]/\-(2 ^ 62)<=j/\j<2 ^ 62/\R (Itr 0 j.toNat) H1
noncomputable def Zhj (ta:TA):TI:=λσ H R=>ta σ H λvs H1=>∃i j:Int,vs=[.int i,.int j]/\(-(2 ^ 62)<=i/\i<2 ^ 62/\-(2 ^ 62)<=j/\j<2 ^ 62)/\R (Itr i (j-i).toNat) H1
theorem JZ (D:Gl X "range")(L:X.mg "range" = none)(ha:PA X [a] ta)(N:starEach [a] X.env=[(false,eval a X.env)]:=by rfl):PI X tg (.Call (.Name "range" p) [a] [] pos) (Zhi ta):=by
 intro qQ s σ H R I h;refine Call_ (Ol I D L boot_range (Yfe (thG (ha pos qQ s σ H _ I h) λus Z vs H1 O U B=>?_) N rfl));obtain ⟨j,e,B,Y,q⟩:=B;subst e;cases U with
 | cons r rr=>
  cases rr;obtain ⟨t,rfl⟩:=r;exact call_range_1 (XJ O (by lia) (by lia) B Y (by simpa using q))
theorem Wx (L:Gl X "range")(N:X.mg "range" = none)(ha:PA X [a,b] ta)(O:starEach [a,b] X.env=[(false,eval a X.env),(false,eval b X.env)]:=by rfl)(B:starEach [b] X.env=[(false,eval b X.env)]:=by rfl) :
  PI X tg (.Call (.Name "range" p) [a,b] [] pos) (Zhj ta):=by
 intro qQ s σ H R I h;refine Call_ (Ol I L N boot_range (Yfe (thG (ha pos qQ s σ H _ I h) λus s1 vs H1 U Y D=>?_) (by rw [O,B]) (by rw [B];rfl)));obtain ⟨i,j,e,⟨D,Z,q3,q4⟩,q⟩:=D;subst e;cases Y with
 | cons r rr=>
  cases rr with
  | cons r' rr=>
   cases rr;obtain ⟨t,rfl⟩:=r;obtain ⟨t',rfl⟩:=r';exact call_range_2 (XJ U D Z q3 q4 q)
noncomputable def Zio (wi:TI)(g:TG)(tb:TS):TS:=λD σ H=>wi σ H λJ H1=>∃W:Nat->Nat->St->Hp->Prop,(∃m,W 0 m σ H1)/\∀i m σ H,W i m σ H ->
 (J.stop i H/\D.nx σ H)\/(J.go i H/\∃N:St->Hp->Prop,(∀ j H',N j H'->∃q,q<m/\W (i+1) q j H')/\∀x H',J.yld i H x H'->g x σ H' λB H2=>tb { D with nx:=N,ct:=N,bk:=D.nx } B H2)
noncomputable def Wy (fp:List AD)(h:Heap):List (AD×Obj):=fp.filterMap λb=>(h.get? b).map λo=>(b,o)
theorem J8 (j:b∈fp)(e:h.get? b=some o):(b,o)∈Wy fp h:=Ydi.mpr ⟨b,j,by rw [e];rfl⟩
theorem ZG (j:p∈Wy fp h):p.1∈fp/\h.get? p.1=some p.2:=by
 obtain ⟨b,B,e⟩:=Ydi.mp j;cases q:h.get? b with
 | none=>rw [q] at e;cases e
 | some o=>
  rw [q] at e;have D:(b,o)=p:=Ybl e;subst D;exact ⟨B,q⟩
theorem Inv.pinned (I:Inv X qQ σ H s)(B:∀b∈fp,ZbB X qQ H b)(D:∀b∈fp,∃o,s.heap.get? b=some o/\∀v,o.data≠.cell v):Inv X (qQ++Wy fp s.heap) σ H s:=
 I.pins_of λp L=>(Yaj.mp L).elim (λz=>I.pin p (Yby _ z)) λz=>by
  obtain ⟨j,e⟩:=ZG z;obtain ⟨N,O,U,_⟩:=B p.1 j;obtain ⟨o,q,d⟩:=D p.1 j;rw [e] at q;cases q;exact ⟨e,N,O,U,d⟩
theorem Inv.unpinned (I:Inv X (qQ++pl) σ H s):Inv X qQ σ H s:=I.pins_of λp j=>I.pin p (Yby _ (Ydr _ j))
theorem JL (hp:PassesOwn (model X.prog X.w) X.A X.env X.xe)(hc:X.calm=true)(hi:PI X tg iter wi)(hg:PG X tg g)(j:PSs X body tb)(hs:∀x,foldedSetIterable iter X.env x=pure x:=by intro _;rfl):PS X (.For tg iter body [] pos) (Zio wi g tb):=by
 intro qQ s σ H D I h;refine wpAny_For (thn (hi qQ s σ H _ I h) λv s1 h1=>thn h1 λah s2 h2=>?_) hs;obtain ⟨it,fp,tn,J,H2,e,I2,T,ae,f2,W,⟨m0,w0⟩,aa⟩:=h2;subst e;have q:∀{H':Hp},(∀b∈fp,H' b=none)->∀b∈fp,ZbB X qQ H' b:=λhn b j=>⟨hn b j,(f2 b j).2⟩;refine codeAny_forLoop_any (λn s'=>∃i σ' H',Inv X qQ σ' H' s'/\tn i s'.heap/\(∀b∈fp,H' b=none)/\W i n σ' H') ?_ m0 ⟨0,σ,H2,I2,ae,λb j=>(f2 b j).1,w0⟩;rintro n s3 ⟨i,σ3,H3,I3,ab,ac,w3⟩;rcases aa i n σ3 H3 w3 with ⟨ad,qn⟩ | ⟨go,N,hN,step⟩
 ·refine Yes hp (thn (T.done X rfl rfl rfl hc i qQ s3 σ3 H3 X.xe I3 (q ac) ab ad) λr s4 ⟨hr,I4⟩=>?_);subst hr;exact wpAny_execs_nil ⟨σ3,H3,I4,qn⟩
 ·refine Yes hp (thn (T.item X rfl rfl rfl hc i qQ s3 σ3 H3 X.xe I3 (q ac) ab go) λr s4 ⟨u,hr,h4⟩=>?_);subst hr;refine Yes hp (thn h4 λ_ s5 ⟨x,H5,I5,r5,y5,Z,af⟩=>?_);have ag:=I5.pinned (q af) (T.obj _ _ Z);refine Yes hp (thn (hg _ s5 σ3 H5 x u _ ag r5 (step x H5 y5)) λ_ s6 ⟨σ6,H6,I6,q6⟩=>?_);refine Yes hp (thn (j _ s6 σ6 H6 _ I6 q6) λf s7 Y=>?_);have B:∀{L:St}{O:Hp},Inv X (qQ++Wy fp s5.heap) L O s7->N L O->∃m,m<n/\∃i σ' H',Inv X qQ σ' H' s7/\tn i s7.heap/\(∀b∈fp,H' b=none)/\W i m σ' H':=λ{L O} U n7=>by
   obtain ⟨m',hm,w7⟩:=hN L O n7;refine ⟨m',hm,i+1,L,O,U.unpinned,T.keep _ _ _ Z λb j o e=>(U.pin (b,o) (Yby _ (Yby _ (J8 j e)))).1,λb j=>?_,w7⟩;obtain ⟨o,e,d⟩:=T.obj _ _ Z b j;exact (U.pin (b,o) (Yby _ (Yby _ (J8 j e)))).2.1
  cases f with
  | next=>obtain ⟨L,O,U,n7⟩:=Y;exact B U n7
  | cont=>obtain ⟨L,O,U,n7⟩:=Y;exact B U n7
  | brk=>obtain ⟨L,O,U,Y⟩:=Y;exact ⟨L,O,U.unpinned,Y⟩
  | ret v=>obtain ⟨x7,L,O,U,r7,Y⟩:=Y;exact ⟨x7,L,O,U.unpinned,r7,Y⟩
end
noncomputable abbrev YK (J:It)(g:TG)(tb:TS)(D:Vb)(σ:St)(H:Hp):Prop:=∃W:Nat->Nat->St->Hp->Prop,(∃m,W 0 m σ H)/\∀i m σ H,W i m σ H ->
   (J.stop i H/\D.nx σ H)\/(J.go i H/\∃N:St->Hp->Prop,(∀ j H',N j H'->∃q,q<m/\W (i+1) q j H')/\∀x H',J.yld i H x H'->g x σ H' λB H2=>tb { D with nx:=N,ct:=N,bk:=D.nx } B H2)
theorem UG (j:Nat->St->Hp->Prop)(h0:j 0 σ H)(L:∀i σ H,i<=n->j i σ H->(i<n->J.go i H)/\(i=n->J.stop i H))(N:∀i σ H x H',i<n->j i σ H->J.yld i H x H'->g x σ H' λO H2=>tb { D with nx:=j (i+1),ct:=j (i+1),bk:=D.nx } O H2)(U:∀ σ H,j n σ H->D.nx σ H):YK J g tb D σ H:=by
 refine ⟨λi m σ H=>m=n-i/\i<=n/\j i σ H,⟨_,rfl,Yat _,h0⟩,?_⟩;rintro i m σ H ⟨rfl,hi,p⟩;have q:=L i σ H hi p;by_cases B:i<n
 ·exact .inr ⟨q.1 B,j (i+1),λZ H' Y=>⟨n-(i+1),by lia,rfl,B,Y⟩,λx H' y=>N i σ H x H' B p y⟩
 ·have e:i=n:=by lia
  subst e;exact .inl ⟨q.2 rfl,U σ H p⟩
theorem J9 {K:FG}(j:Nat->St->Hp->Prop)(h0:j 0 σ H)(q:∀i σ H,i<=xs.length->j i σ H->SqL K H a xs)(B:∀i x σ H,xs[i]?=some x->j i σ H->g x σ H λL H2=>tb { D with nx:=j (i+1),ct:=j (i+1),bk:=D.nx } L H2)(N:∀ σ H,j xs.length σ H->D.nx σ H) :
  YK (Itl K a) g tb D σ H:=UG j h0 (λi s H hi p=>⟨λz=>⟨xs,xs[i],q i s H hi p,by simp [z]⟩,λe=>⟨xs,q i s H hi p,by lia⟩⟩) (λi s H x H' z p y=>by obtain ⟨rfl,y⟩:=y;exact B i x s _ (y xs (q i s _ (Ycw z) p)) p) N
theorem ZdC {K:FG}(j:Nat->St->Hp->Prop)(h0:j 0 σ H)(q:∀i σ H,i<=xs.length->j i σ H->SqT K H a xs)(B:∀i x σ H,xs[i]?=some x->j i σ H->g x σ H λL H2=>tb { D with nx:=j (i+1),ct:=j (i+1),bk:=D.nx } L H2)(N:∀ σ H,j xs.length σ H->D.nx σ H) :
  YK (Itt K a) g tb D σ H:=UG j h0 (λi s H hi p=>⟨λz=>⟨xs,xs[i],q i s H hi p,by simp [z]⟩,λe=>⟨xs,q i s H hi p,by lia⟩⟩) (λi s H x H' z p y=>by obtain ⟨rfl,y⟩:=y;exact B i x s _ (y xs (q i s _ (Ycw z) p)) p) N
theorem OB {lo:Int}(j:Nat->St->Hp->Prop)(h0:j 0 σ H)(q:∀i σ H,i<n->j i σ H->g (.int (lo+i)) σ H λB H2=>tb { D with nx:=j (i+1),ct:=j (i+1),bk:=D.nx } B H2)(L:∀ σ H,j n σ H->D.nx σ H) :
  YK (Itr lo n) g tb D σ H:=UG j h0 (λi s H hi p=>⟨id,λe=>Nat.le_of_eq e.symm⟩) (λi s H x H' z p y=>by obtain ⟨rfl,rfl⟩:=y;exact q i s _ z p) L
noncomputable abbrev R2:=V->V->Hp->VK->Prop
noncomputable def OpR (X:Cx)(f:Aa->Aa->Sem Aa)(r:R2):Prop:=
 ∀(qQ:List (AD×Obj))(s:SS)(σ:St)(H:Hp)(x y:V)(v u:Aa)(Q:VK),Inv X qQ σ H s->RelV x v->RelV y u->r x y H Q ->
  wpAny (model X.prog X.w) X.A (f v u) (EP X qQ σ Q) X.xe s
noncomputable def UnR (X:Cx)(f:Aa->Sem Aa)(r:V->Hp->VK->Prop):Prop:=
 ∀(qQ:List (AD×Obj))(s:SS)(σ:St)(H:Hp)(x:V)(v:Aa)(Q:VK),Inv X qQ σ H s->RelV x v->r x H Q ->
  wpAny (model X.prog X.w) X.A (f v) (EP X qQ σ Q) X.xe s
noncomputable def JY (X:Cx)(f:Aa)(r:List V->Hp->VK->Prop):Prop:=
 ∀(qQ:List (AD×Obj))(s:SS)(σ:St)(H:Hp)(xs:List V)(us:LW)(Q:VK),Inv X qQ σ H s->Vals xs us->r xs H Q ->
  wpAny (model X.prog X.w) X.A (call f us) (EP X qQ σ Q) X.xe s
noncomputable def Zip (X:Cx)(r:V->Hp->(Bool->Hp->Prop)->Prop):Prop:=
 ∀(qQ:List (AD×Obj))(s:SS)(σ:St)(H:Hp)(x:V)(v:Aa)(Q:Bool->Hp->Prop),Inv X qQ σ H s->RelV x v->r x H Q ->
  wpAny (model X.prog X.w) X.A (truthy v) (TP X qQ σ Q) X.xe s
noncomputable def tOp (r:R2)(ta tb:TE):TE:=λσ H Q=>ta σ H λx H1=>tb σ H1 λy H2=>r x y H2 Q
noncomputable def tUn (r:V->Hp->VK->Prop)(ta:TE):TE:=λσ H Q=>ta σ H λx H1=>r x H1 Q
noncomputable def rI (C:Int->Int->Prop)(g:Int->Int->V):R2:=λx y H Q=>∃i j,x=.int i/\y=.int j/\C i j/\Q (g i j) H
noncomputable def rI0 (g:Int->Int->V):R2:=λx y H Q=>∃i j,x=.int i/\y=.int j/\Q (g i j) H
noncomputable def rU (g:Int->V):V->Hp->VK->Prop:=λx H Q=>∃i,x=.int i/\Q (g i) H
section
variable {X:Cx}{a b c:Expr}{ta tb tc:TE}{pos:Pos}
theorem Zhk (ha:PE X a ta)(q:PE X b tb){R:V->V->Hp->Prop}(I:Inv X qQ σ H s)(h:ta σ H λx H1=>tb σ H1 λy H2=>R x y H2){f:Aa->Aa->Sem Aa}(B:∀v u j x y H2,Inv X qQ σ H2 j->RelV x v->RelV y u->R x y H2->wpAny (model X.prog X.w) X.A (f v u) Q X.xe j) :
  wpAny (model X.prog X.w) X.A (eval a X.env) (λv D=>wpAny (model X.prog X.w) X.A (eval b X.env) (λu L=>wpAny (model X.prog X.w) X.A (f v u) Q X.xe L) X.xe D) X.xe s:=by
 refine thG (ha qQ s σ H _ I h) λv N x H1 O U Y=>?_;refine thG (q qQ N σ H1 _ O Y) λu j y H2 Z r2 q2=>?_;exact B v u j x y H2 Z U r2 q2
theorem Gk (j:OpR X (binaryOp op) r)(ha:PE X a ta)(B:PE X b tb):PE X (.BinOp a op b pos) (tOp r ta tb):=by
 intro qQ s σ H Q I h;exact wpAny_BinOp (Zhk ha B I h λv u D x y H2 L N O q=>j qQ D σ H2 x y v u Q L N O q)
theorem Zhl (j:UnR X (unaryOp op) r)(ha:PE X a ta):PE X (.UnaryOp op a pos) (tUn r ta):=by
 intro qQ s σ H Q I h;exact UnaryOp_ (thG (ha qQ s σ H _ I h) λv q x H1 B D L=>j qQ q σ H1 x v Q B D L)
theorem opI {g:Int->Int->Int}(B:∀(i j:Int)(t u:Tok)(s:SS)(Q:Aa->SS->Prop)(E:Aa->SS->Prop),C i j->Q (.int (g i j) s.toks) { s with toks:=s.toks+1 }->wpAny (model X.prog X.w) X.A (f (.int i t) (.int j u)) Q E s) :
  OpR X f (rI C λi j=>.int (g i j)):=by
 intro qQ s σ H x y v u Q I D L h;obtain ⟨i,j,rfl,rfl,N,q⟩:=h;obtain ⟨t,rfl⟩:=D;obtain ⟨O,rfl⟩:=L;exact B i j t O s _ _ N ⟨.int (g i j),H,I.tok _,⟨_,rfl⟩,q⟩
theorem Zh3 {g:Int->Int->Int}(B:∀(i j:Int)(t u:Tok)(s:SS)(Q:Aa->SS->Prop)(E:Aa->SS->Prop),Q (.int (g i j) s.toks) { s with toks:=s.toks+1 }->wpAny (model X.prog X.w) X.A (f (.int i t) (.int j u)) Q E s) :
  OpR X f (rI0 λi j=>.int (g i j)):=by
 intro qQ s σ H x y v u Q I D L h;obtain ⟨i,j,rfl,rfl,q⟩:=h;obtain ⟨t,rfl⟩:=D;obtain ⟨N,rfl⟩:=L;exact B i j t N s _ _ ⟨.int (g i j),H,I.tok _,⟨_,rfl⟩,q⟩
theorem ZgV {g:Int->Int->Bool}(B:∀(i j:Int)(t u:Tok)(s:SS)(Q:Aa->SS->Prop)(E:Aa->SS->Prop),Q (.bool (g i j)) s->wpAny (model X.prog X.w) X.A (f (.int i t) (.int j u)) Q E s) :
  OpR X f (rI0 λi j=>.bl (g i j)):=by
 intro qQ s σ H x y v u Q I D L h;obtain ⟨i,j,rfl,rfl,q⟩:=h;obtain ⟨t,rfl⟩:=D;obtain ⟨N,rfl⟩:=L;exact B i j t N s _ _ ⟨.bl (g i j),H,I,rfl,q⟩
noncomputable def Ziq (i j:Int):Prop:=0<=j/\j<=1000000/\i.natAbs<2 ^ 64
noncomputable def CMul (i j:Int):Prop:=(-(2 ^ 64)<i/\i<2 ^ 64)\/(-(2 ^ 64)<j/\j<2 ^ 64)
theorem CMul.ok (h:CMul i j):IntMulOk i j:=by
 rcases h with ⟨h1,h2⟩ | ⟨h1,h2⟩
 ·exact .of_left (intBits_le_64 h1 h2)
 ·exact .of_right (intBits_le_64 h1 h2)
theorem GP:OpR X (binaryOp .Add) (rI0 λi j=>.int (i+j)):=Zh3 λ_ _ _ _ _ _ _ q=>add_int q
theorem JU:OpR X (binaryOp .Sub) (rI0 λi j=>.int (i-j)):=Zh3 λ_ _ _ _ _ _ _ q=>sub_int q
theorem JV:OpR X (binaryOp .Mult) (rI CMul λi j=>.int (i * j)):=opI λ_ _ _ _ _ _ _ B q=>mul_int q B.ok
theorem GS:OpR X (binaryOp .Mod) (rI (λ_ j=>0<j) λi j=>.int (i % j)):=opI λi j _ _ _ _ _ B q=>by
 have h1:(0:Int)<j:=B;exact mod_int' (by lia) (by rw [Int.fmod_eq_emod_of_nonneg i (by lia)];exact q)
theorem XM:OpR X (binaryOp .Pow) (rI Ziq λi j=>.int (i ^ j.toNat)):=opI λ_ _ _ _ _ _ _ B q=>pow_int_small B.1 B.2.1 B.2.2 q
noncomputable def Zh4:V->V->Bool
 | .non,.non=>true | .non,.int _=>true | .int _,.non=>true | .non,.bl _=>true | .bl _,.non=>true | .non,.str _=>true | .str _,.non=>true
 | .int _,.int _=>true | .bl _,.bl _=>true | .str _,.str _=>true | .byt _,.byt _=>true
 | .int _,.str _=>true | .str _,.int _=>true | .bl _,.str _=>true | .str _,.bl _=>true
 | _,_=>false
noncomputable def rEq:R2:=λx y H Q=>Zh4 x y=true/\Q (.bl (decide (x=y))) H
noncomputable def rNe:R2:=λx y H Q=>Zh4 x y=true/\Q (.bl (!decide (x=y))) H
theorem ZH :decide (V.int i=V.int j)=(i == j):=by
 rw [Bool.eq_iff_iff];simp
theorem Zc3 :decide (V.bl i=V.bl j)=(i == j):=by
 rw [Bool.eq_iff_iff];simp
theorem ZI :decide (V.str i=V.str j)=(i == j):=by
 rw [Bool.eq_iff_iff];simp
theorem ZJ :decide (V.byt i=V.byt j)=(i.toList == j.toList):=by
 rw [Bool.eq_iff_iff];cases i;cases j;simp
theorem Gv (I:Inv X qQ σ H s)(q:Q (.bl k) H)(e:k=j):EP X qQ σ Q (.bool j) s:=by
 subst e;exact ⟨.bl k,H,I,rfl,q⟩
theorem OC:OpR X (compareOp .Eq) rEq:=by
 intro qQ s σ H x y v u Q I N B h;obtain ⟨L,q⟩:=h;cases x with
 | non=>
  cases N;cases y with
  | non=>cases B;exact PySem.EqNone.eq_none_none (Gv I q (by simp))
  | bl j=>cases B;exact PySem.EqNone.eq_none_bool (Gv I q (by simp))
  | int j=>obtain ⟨D,rfl⟩:=B;exact PySem.EqNone.eq_none_int (Gv I q (by simp))
  | str j=>obtain ⟨D,rfl⟩:=B;exact PySem.EqNone.eq_none_str (Gv I q (by simp))
  | _=>exact absurd (show false=true from L) Yap
 | bl i=>
  cases N;cases y with
  | non=>cases B;exact PySem.EqNone.eq_bool_none (Gv I q (by simp))
  | bl j=>cases B;exact eq_bool (Gv I q Zc3)
  | str j=>obtain ⟨D,rfl⟩:=B;exact PySem.EqMixed.eq_bool_str (Gv I q (by simp))
  | _=>exact absurd (show false=true from L) Yap
 | int i=>
  obtain ⟨t,rfl⟩:=N;cases y with
  | non=>cases B;exact PySem.EqNone.eq_int_none (Gv I q (by simp))
  | int j=>obtain ⟨D,rfl⟩:=B;exact eq_int (Gv I q ZH)
  | str j=>obtain ⟨D,rfl⟩:=B;exact PySem.EqMixed.eq_int_str (Gv I q (by simp))
  | _=>exact absurd (show false=true from L) Yap
 | str i=>
  obtain ⟨t,rfl⟩:=N;cases y with
  | non=>cases B;exact PySem.EqNone.eq_str_none (Gv I q (by simp))
  | bl j=>cases B;exact PySem.EqMixed.eq_str_bool (Gv I q (by simp))
  | int j=>obtain ⟨D,rfl⟩:=B;exact PySem.EqMixed.eq_str_int (Gv I q (by simp))
  | str j=>obtain ⟨D,rfl⟩:=B;exact eq_str (Gv I q ZI)
  | _=>exact absurd (show false=true from L) Yap
 | byt i=>
  obtain ⟨t,rfl⟩:=N;cases y with
  | byt j=>obtain ⟨D,rfl⟩:=B;exact W.eq_bytes (Gv I q ZJ)
  | _=>exact absurd (show false=true from L) Yap
 | _=>cases y <;> exact absurd (show false=true from L) Yap
theorem Ze7:OpR X (compareOp .NotEq) rNe:=by
 intro qQ s σ H x y v u Q I N B h;obtain ⟨L,q⟩:=h;cases x with
 | non=>
  cases N;cases y with
  | non=>cases B;exact PySem.EqNone.ne_none_none (Gv I q (by simp))
  | bl j=>cases B;exact PySem.EqNone.ne_none_bool (Gv I q (by simp))
  | int j=>obtain ⟨D,rfl⟩:=B;exact PySem.EqNone.ne_none_int (Gv I q (by simp))
  | str j=>obtain ⟨D,rfl⟩:=B;exact PySem.EqNone.ne_none_str (Gv I q (by simp))
  | _=>exact absurd (show false=true from L) Yap
 | bl i=>
  cases N;cases y with
  | non=>cases B;exact PySem.EqNone.ne_bool_none (Gv I q (by simp))
  | bl j=>cases B;exact ne_bool (Gv I q (Ybh not Zc3))
  | str j=>obtain ⟨D,rfl⟩:=B;exact PySem.EqMixed.ne_bool_str (Gv I q (by simp))
  | _=>exact absurd (show false=true from L) Yap
 | int i=>
  obtain ⟨t,rfl⟩:=N;cases y with
  | non=>cases B;exact PySem.EqNone.ne_int_none (Gv I q (by simp))
  | int j=>obtain ⟨D,rfl⟩:=B;exact ne_int (Gv I q (Ybh not ZH))
  | str j=>obtain ⟨D,rfl⟩:=B;exact PySem.EqMixed.ne_int_str (Gv I q (by simp))
  | _=>exact absurd (show false=true from L) Yap
 | str i=>
  obtain ⟨t,rfl⟩:=N;cases y with
  | non=>cases B;exact PySem.EqNone.ne_str_none (Gv I q (by simp))
  | bl j=>cases B;exact PySem.EqMixed.ne_str_bool (Gv I q (by simp))
  | int j=>obtain ⟨D,rfl⟩:=B;exact PySem.EqMixed.ne_str_int (Gv I q (by simp))
  | str j=>obtain ⟨D,rfl⟩:=B;exact ne_str (Gv I q (Ybh not ZI))
  | _=>exact absurd (show false=true from L) Yap
 | byt i=>
  obtain ⟨t,rfl⟩:=N;cases y with
  | byt j=>obtain ⟨D,rfl⟩:=B;exact W.ne_bytes (Gv I q (Ybh not ZJ))
  | _=>exact absurd (show false=true from L) Yap
 | _=>cases y <;> exact absurd (show false=true from L) Yap
theorem ZdD:OpR X (compareOp .Lt) (rI0 λi j=>.bl (decide (i<j))):=ZgV λ_ _ _ _ _ _ _ q=>lt_int q
theorem Ze8:OpR X (compareOp .LtE) (rI0 λi j=>.bl (decide (i<=j))):=ZgV λ_ _ _ _ _ _ _ q=>le_int q
theorem ZbJ:OpR X (compareOp .Gt) (rI0 λi j=>.bl (decide (j<i))):=ZgV λ_ _ _ _ _ _ _ q=>gt_int q
theorem Zhm:OpR X (compareOp .GtE) (rI0 λi j=>.bl (decide (j<=i))):=ZgV λ_ _ _ _ _ _ _ q=>ge_int q
theorem ZdE:OpR X (compareOp .IsNot) (λx y H Q=>y=.non/\Q (.bl (!decide (x=.non))) H):=by
 intro qQ s σ H x y v u Q I j B h;obtain ⟨rfl,q⟩:=h;cases B;refine isnot_none_gen (Gv I q ?_);cases x <;> first
  | (cases j;rfl)
  | (obtain ⟨t,rfl⟩:=j;rfl)
theorem Zc4 (b:Expr)(h:op≠.In:=by decide)(h2:op≠.NotIn:=by decide):behindInMarks op b=false:=by
 have j:(op == CmpOp.In)=false:=by cases op <;> first | rfl | exact absurd rfl h
 have q:(op == CmpOp.NotIn)=false:=by cases op <;> first | rfl | exact absurd rfl h2
 cases b <;> simp [behindInMarks,j,q]
theorem ZdF (j:OpR X (compareOp op) r)(ha:PE X a ta)(B:PE X b tb)(D:behindInMarks op b=false):PE X (.Compare a [op] [b] pos) (tOp r ta tb):=by
 intro qQ s σ H Q I h;exact wpAny_Compare1 (Zhk ha B I h λv u L x y H2 N O U q=>j qQ L σ H2 x y v u Q N O U q) D
noncomputable def Ze9 (t:TE):TT:=λσ H Q=>t σ H λx H'=>∃k,x=.bl k/\Q k H'
theorem ZK (j:OpR X (compareOp op) r)(ha:PE X a ta)(q:PE X b tb)(B:behindInMarks op b=false):PT X (.Compare a [op] [b] pos) (Ze9 (tOp r ta tb)):=by
 intro qQ s σ H Q I h;refine wpAny_isTrue_Compare1 (thG (ha qQ s σ H _ I h) λv D x H1 L N O=>thG (q qQ D σ H1 _ L O) λu U y H2 Y Z q2=>
  thG (j qQ U σ H2 x y v u _ Y N Z q2) λc s3 z H3 I3 r3 ⟨k,e,q3⟩=>?_) B
 subst e;cases r3;exact Yeb ⟨H3,I3,q3⟩
noncomputable def Zhn (K:FG)(x:V)(H:Hp)(k:Bool):Prop:=
 match x with
 | .non=>k=false
 | .bl b=>k=b
 | .int i=>k=(i != 0)
 | .str y=>y.length<=sizeLine/\k=((y.length:Int) != 0)
 | .byt y=>y.size<=sizeLine/\k=((y.size:Int) != 0)
 | .ref p=>(∃xs,SqL K H p xs/\k=!xs.isEmpty)\/(∃xs,SqT K H p xs/\k=!xs.isEmpty)\/∃kvs,H p=some (.dK kvs)/\k=!kvs.isEmpty
 | _=>False
theorem YL {κ:Type}{kvs:List (κ×V)}{vs:List (κ×Aa)}(r:KV kvs vs):(!vs.isEmpty)=!kvs.isEmpty:=by
 cases r <;> rfl
theorem Vj (r:Vals xs its):(!its.toArray.isEmpty)=!xs.isEmpty:=by
 cases r <;> simp
theorem XN:(sizeLine:Nat)<2 ^ 63:=by rw [Yav];decide
theorem Zfa:Zip X (λx H Q=>∃k,Zhn X.K x H k/\Q k H):=by
 intro qQ s σ H x v Q I B h;obtain ⟨k,e,q⟩:=h;have Z:=XN;have hs:sizeLine=16777216:=Yav;cases x with
 | non=>
  cases B;have j:k=false:=e;subst j;exact truthy_none ⟨H,I,q⟩
 | bl b=>
  cases B;have j:k=b:=e;subst j;exact Yeb ⟨H,I,q⟩
 | int i=>
  obtain ⟨t,rfl⟩:=B;have j:k=(i != 0):=e;subst j;exact PySem.P.truthy_int ⟨H,I,q⟩
 | str y=>
  obtain ⟨t,rfl⟩:=B;obtain ⟨U,j⟩:y.length<=sizeLine/\k=((y.length:Int) != 0):=e;subst j;exact PySem.P.truthy_str (by lia) ⟨H,I.tok _,q⟩
 | byt y=>
  obtain ⟨t,rfl⟩:=B;obtain ⟨U,j⟩:y.size<=sizeLine/\k=((y.size:Int) != 0):=e;subst j;exact W.truthy_bytes (by lia) ⟨H,I.tok _,q⟩
 | ref p=>
  cases B;have j:(∃xs,SqL X.K H p xs/\k=!xs.isEmpty)\/(∃xs,SqT X.K H p xs/\k=!xs.isEmpty)\/∃kvs,H p=some (.dK kvs)/\k=!kvs.isEmpty:=e;rcases j with ⟨xs,D,j⟩ | ⟨xs,D,j⟩ | ⟨kvs,D,j⟩
  ·subst j;obtain ⟨its,r,L,N⟩:=I.list D;have O:=r.length;exact wpAny_truthy_list L.isList (by simp only [Yau];lia) ⟨H,I.tok _,by rw [Vj r];exact q⟩
  ·subst j;obtain ⟨its,r,L,N⟩:=I.tuple D;have O:=r.length;exact truthy_tuple L (by simp only [Yau];lia) ⟨H,I.tok _,by rw [Vj r];exact q⟩
  ·subst j;obtain ⟨N,Y,vs,r,m⟩:kvs.length<=sizeLine/\(p == sysModules)=false/\∃vs,KV kvs vs/\s.heap.DictOf (G5 X.prog X.w) p vs:=I.hok p _ D;have O:kvs.length=vs.length:=Ycv r;exact wpAny_truthy_dict Y m (by lia) ⟨H,I.tok _,by rw [YL r];exact q⟩
 | _=>exact (show False from e).elim
theorem Uu (ha:PE X a ta)(q:∀j,isTrue a X.env j=(do let v <- j;standAt a.pos;holding [v] (truthy v))) :
  PT X a (λσ H Q=>ta σ H λx H'=>∃k,Zhn X.K x H' k/\Q k H'):=by
 intro qQ s σ H Q I h;exact isTrue_plain (thG (ha qQ s σ H _ I h) λv B x H1 D L N=>Zfa qQ B σ H1 x v Q D L N) (q _)
theorem Zfb (r:Vals [x] us):∃u,us=[u]/\RelV x u:=by
 cases r with
 | cons r1 r2=>cases r2;exact ⟨_,rfl,r1⟩
theorem Zfc (r:Vals [x,y] us):∃u j,us=[u,j]/\RelV x u/\RelV y j:=by
 cases r with
 | cons r1 r2=>
  cases r2 with
  | cons r3 r4=>cases r4;exact ⟨_,_,rfl,r1,r3⟩
theorem Wz (D:X.calm=true):JY X (.builtin "max") (λxs H Q=>∃i j,xs=[.int i,.int j]/\Q (.int (if j > i then j else i)) H):=by
 intro qQ s σ H xs us Q I r h;obtain ⟨i,j,rfl,q⟩:=h;obtain ⟨u,L,rfl,⟨t,rfl⟩,⟨N,rfl⟩⟩:=Zfc r;refine max_two_ints (I.ok.hd D) λh' tk k=>⟨_,H,I.kept k,?_,q⟩;by_cases B:j > i
 ·rw [if_pos B,if_pos B];exact ⟨_,rfl⟩
 ·rw [if_neg B,if_neg B];exact ⟨_,rfl⟩
theorem J0 (D:X.calm=true):JY X (.builtin "min") (λxs H Q=>∃i j,xs=[.int i,.int j]/\Q (.int (if j<i then j else i)) H):=by
 intro qQ s σ H xs us Q I r h;obtain ⟨i,j,rfl,q⟩:=h;obtain ⟨u,L,rfl,⟨t,rfl⟩,⟨N,rfl⟩⟩:=Zfc r;refine min_two_ints (I.ok.hd D) λh' tk k=>⟨_,H,I.kept k,?_,q⟩;by_cases B:j<i
 ·rw [if_pos B,if_pos B];exact ⟨_,rfl⟩
 ·rw [if_neg B,if_neg B];exact ⟨_,rfl⟩
end
structure ObjM (h:Heap)(x dx C:AD)(mA:Str->Option Aa):Prop where
 obj:h.get? x=some (W.instObj C dx)
 ns:h.Ns1 dx mA
 ne:dx≠x
theorem ZL {h:Heap}(n:h.Ns1 dx mA):∃B,h.get? dx=some B/\∀name,W.lookIn name B=some (mA name):=by
 obtain ⟨o,es,ep,D,L,N,_,O⟩:=n;refine ⟨o,D,λname=>?_⟩;have e:=O name;unfold nsFind findBy at e;rw [<-Array.find?_toList] at e;unfold W.lookIn;rw [L];dsimp only;split
 ·rename_i y q;rw [q] at e;exact Ybh some e
 ·rename_i q;rw [q] at e;have a:es.toList.any (·.refKey)=false:=by
   rw [List.any_eq_false];intro y U;obtain ⟨z,t,j⟩:=N y (Array.mem_toList_iff.mp U);simp [DictEntry.refKey,j]
  have Y:¬ es.toList.any (·.refKey)=true:=by rw [a];exact Yap
  rw [if_neg Y];exact Ybh some e
theorem ObjM.look (I:ObjM h x dx C mA):∃j,W.InstAt h x (W.instObj C dx) C (some j)/\∀name,W.lookIn name j=some (mA name):=
 let ⟨j,ho,hl⟩:=ZL I.ns
 ⟨j,⟨I.obj,rfl,rfl,ho⟩,hl⟩
section
variable {prog:PP}{w:Ab}{A:Around}{E:Aa->SS->Prop}{s:SS}{K:FG}{x dx C f:AD}{mA:Str->Option Aa}{name:Str}{v:Aa}
theorem ZdG (X:K.In s.heap)(I:ObjM s.heap x dx C mA)(B:W.plainGet K C name=true)(D:W.hasDictIn K C=true)(ha:W.findIn K (.ref C) name=some none)(L:mA name=some v)(q:W.handedIn v=true)(h:Q v { s with toks:=s.toks+1 }) :
  wpAny (model prog w) A (getAttr (.ref x) name j) Q E s:=by
 obtain ⟨O,J,N⟩:=I.look;exact W.get_value X J (W.plainGet_of B).1 (W.findObj_own D ha rfl (by rw [N,L])) q h
theorem ZbK (X:K.In s.heap)(I:ObjM s.heap x dx C mA)(j:W.plainGet K C name=true)(q:W.findIn K (.ref C) name=some (some (.ref f)))(B:W.isFn K (.ref f)=true)(D:mA name=none)(h:Q (.ref f,[.ref x]) s) :
  wpAny (model prog w) A (getMethod (.ref x) name pl) Q E s:=by
 obtain ⟨L,J,N⟩:=I.look;exact W.method_fn X J (W.plainGet_of j).1 (W.plainGet_of j).2 q (Ybi.mp B) (by show (W.lookIn name L).map (·.isSome)=some false;rw [N,D];rfl) h
theorem ZdH (X:K.In s.heap)(I:ObjM s.heap x dx C mA)(O:W.findIn K (.ref C) "__setattr__" = some (some (.builtin "object.__setattr__")))(U:W.plainOver K C=true)(Y:W.takerIn K C name=some none)(Z:W.hasDictIn K C=true)(hw:PySem.Within mA ns)(hsz:ns.length<=sizeLine)(h:∀h',ObjM h' x dx C (λy=>if y=name then some v else mA y)->Heap.SameBut dx s.heap h'->Q () { s with heap:=h',toks:=s.toks+2 }) :
  wpAny (model prog w) A (setAttr (.ref x) name v) Q E s:=by
 obtain ⟨od,J,hl⟩:=I.look;refine W.set_plain X J O (W.osa_open (s:={ s with toks:=s.toks+1 }) (r:=none) X J U Y λb=>?_);obtain ⟨cd,hc,B⟩:=W.any_some Z;have hx:s.heap.get? x=some ⟨.ref C,some dx,.plain,#[]⟩:=I.obj;refine Yaa (Yab (Yaa (Yaa (wpAny_loadPart hx (Yaa (W.Looks.here (s:={ s with toks:=s.toks+1 }) (W.looks_clsIn X hc) ?_))))));rw [B];refine Yab (a:=some dx) (Yaa (Yab (Yaa ?_)));refine wpAny_nsSet1 (s:={ s with toks:=s.toks+1 }) I.ns λh' j q=>?_;obtain ⟨oD,aa,ab,D,L,N⟩:=j.count (PySem.Within.cons name v hw);refine Yaa (wpAny_lookBehind D (by rw [L];exact pastItsLine_dict (Ybq N (by rw [Ybm];lia))) ?_);exact Yab (h _ ⟨(q.2 _ (Ne.symm I.ne)).trans I.obj,j,I.ne⟩ q)
theorem ZbL (X:K.In s.heap)(q:W.makesIn K C=true)(hi:W.findIn K (.ref C) "__init__" = some (some (.ref f)))(B:W.typeIn K (.ref f)=some (.type "function"))(h:codeAny (model prog w) (A.under (.builtin "type.__call__" ⟨.ref C::vs,kw⟩)) (.call (.ref f) ⟨.ref (s.heap.objs.size+1)::vs,kw⟩) (W.InitBack (s.heap.objs.size+1) R)
   { s with heap:=(s.heap.push W.emptyDict).push (W.instObj C s.heap.objs.size) }) :
  codeAny (model prog w) A (.call (.ref C) ⟨vs,kw⟩) R s:=by
 obtain ⟨D,g,d,t,L⟩:=s;exact W.make_core (W.makes_of X q) (W.looks_findIn X hi) (λj=>W.bind_fn X j B) (.inl rfl) h
end
noncomputable def Ui (f:Str)(v:V):List (Str×V)->List (Str×V)
 | []=>[(f,v)]
 | (g,x)::r=>if g=f then (g,v)::r else (g,x)::Ui f v r
theorem Gx (f g:Str)(v:V):∀fs:List (Str×V),(Ui f v fs).lookup g=if g=f then some v else fs.lookup g
 | []=>by
  show List.lookup g [(f,v)]=_;by_cases h:g=f
  ·have hb:(g == f)=true:=Ybi.mpr h;simp only [List.lookup,hb,if_pos h]
  ·have hb:(g == f)=false:=Yea.mpr h;simp only [List.lookup,hb,if_neg h]
 | (k,x)::r=>by
  have q:=Gx f g v r;rw [show Ui f v ((k,x)::r)=(if k=f then (k,v)::r else (k,x)::Ui f v r) from rfl];by_cases j:k=f
  ·rw [if_pos j];by_cases h:g=k
   ·have hb:(g == k)=true:=Ybi.mpr h;simp only [List.lookup,hb,if_pos (h.trans j)]
   ·have hb:(g == k)=false:=Yea.mpr h;simp only [List.lookup,hb,if_neg (λe:g=f=>h (e.trans j.symm))]
  ·rw [if_neg j];by_cases h:g=k
   ·have hb:(g == k)=true:=Ybi.mpr h;simp only [List.lookup,hb,if_neg (λe:g=f=>j (h.symm.trans e))]
   ·have hb:(g == k)=false:=Yea.mpr h;simp only [List.lookup,hb];exact q
theorem UH (f:Str)(v:V):∀fs:List (Str×V),f∈(Ui f v fs).map (·.1)/\∀g,g∈fs.map (·.1)->g∈(Ui f v fs).map (·.1)
 | []=>⟨by simp [Ui],λg h=>by simp at h⟩
 | (k,x)::r=>by
  obtain ⟨i1,i2⟩:=UH f v r;rw [show Ui f v ((k,x)::r)=(if k=f then (k,v)::r else (k,x)::Ui f v r) from rfl];by_cases j:k=f
  ·rw [if_pos j];subst j;exact ⟨by simp,λg h=>by simpa using h⟩
  ·rw [if_neg j];refine ⟨?_,λg h=>?_⟩
   ·rw [Yaq];exact Ybe _ i1
   ·rw [Yaq] at h ⊢;rcases Yam.mp h with e | e
    ·exact Yam.mpr (.inl e)
    ·exact Ybe _ (i2 g e)
theorem UI (f:Str)(v:V):∀fs:List (Str×V),(Ui f v fs).length<=fs.length+1
 | []=>by simp [Ui]
 | (k,x)::r=>by
  have ih:=UI f v r;rw [show Ui f v ((k,x)::r)=(if k=f then (k,v)::r else (k,x)::Ui f v r) from rfl];by_cases j:k=f
  ·rw [if_pos j,Ybm,Ybm];lia
  ·rw [if_neg j,Ybm,Ybm];lia
theorem RelO.some_of (r:RelO (some v) o):∃u,o=some u/\RelV v u:=by
 cases o with
 | none=>exact (show False from r).elim
 | some u=>exact ⟨u,rfl,r⟩
theorem RelO.none_of (r:RelO none o):o=none:=by
 cases o with
 | none=>rfl
 | some u=>exact (show False from r).elim
theorem ZM (r:RelV v u):W.handedIn u=true:=by
 cases v with
 | non=>cases (show u=Value.none from r);rfl
 | bl b=>cases (show u=Value.bool b from r);rfl
 | int i=>obtain ⟨t,e⟩:=(show ∃t,u=Value.int i t from r);cases e;rfl
 | str x=>obtain ⟨t,e⟩:=(show ∃t,u=Value.str x t from r);cases e;rfl
 | byt b=>obtain ⟨t,e⟩:=(show ∃t,u=Value.bytes b t from r);cases e;rfl
 | flt b=>obtain ⟨t,e⟩:=(show ∃t,u=Value.float b t from r);cases e;rfl
 | ref a=>cases (show u=Value.ref a from r);rfl
 | ty n=>cases (show u=Value.type n from r);rfl
section
variable {P:PP}{w:Ab}{H H':Hp}{h h':Heap}{a C dx:AD}{fs fs':List (Str×V)}
theorem VJ (j:HOk P w H h)(e:H a=some (.ins C dx fs)):∃mA,ObjM h a dx C mA/\(∀f,RelO (fs.lookup f) (mA f))/\PySem.Within mA (fs.map (·.1))/\fs.length<=1000/\H dx=some (.own a):=by
 obtain ⟨d,z,B,D,mA,n,r,q⟩:=(show ObjOk P w H h a (.ins C dx fs) from j a _ e);exact ⟨mA,⟨D,n,B⟩,r,q,z,d⟩
end
structure Cls (K:FG)(C:AD):Prop where
 pg:W.plainGet K C Str.empty=true
 hd:W.hasDictIn K C=true
 po:W.plainOver K C=true
 sa:W.findIn K (.ref C) "__setattr__" = some (some (.builtin "object.__setattr__"))
theorem Cls.get {K:FG}(c:Cls K C)(f:Str):W.plainGet K C f=true:=c.pg
noncomputable def NoAttr (K:FG)(C:AD)(f:Str):Prop:=W.findIn K (.ref C) f=some none
theorem NoAttr.taker {K:FG}(n:NoAttr K C f):W.takerIn K C f=some none:=by
 unfold W.takerIn;rw [show W.findIn K (.ref C) f=some none from n]
 rfl
structure Zho (K:FG)(C:AD)(m:Str)(f:AD):Prop where
 at_:W.findIn K (.ref C) m=some (some (.ref f))
 fn:W.isFn K (.ref f)=true
 kp:W.keepIn K (.ref f)=true
section
variable {X:Cx}{qQ:List (AD×Obj)}{σ:St}{H:Hp}{s:SS}{a C dx:AD}{fs:List (Str×V)}{f:Str}{v:V}{A:Around}{E:Aa->SS->Prop}
theorem YM (I:Inv X qQ σ H s)(e:H a=some (.ins C dx fs))(c:Cls X.K C)(n:NoAttr X.K C f)(l:fs.lookup f=some v)(h:∀u s',Inv X qQ σ H s'->RelV v u->Q u s'):wpAny (model X.prog X.w) A (getAttr (.ref a) f b) Q E s:=by
 obtain ⟨mA,O,r,_,_,_⟩:=VJ I.hok e;obtain ⟨u,q,j⟩:=RelO.some_of (v:=v) (o:=mA f) (by rw [<-l];exact r f);exact ZdG I.kIn O (c.get f) c.hd n q (ZM j) (h u _ (I.tok _) j)
theorem YN (I:Inv X qQ σ H s)(e:H a=some (.ins C dx fs))(c:Cls X.K C)(k:Zho X.K C m g)(l:fs.lookup m=none)(h:Q (.ref g,[.ref a]) s):wpAny (model X.prog X.w) A (getMethod (.ref a) m pl) Q E s:=by
 obtain ⟨mA,O,r,_,_,_⟩:=VJ I.hok e;have j:mA m=none:=RelO.none_of (by rw [<-l];exact r m);exact ZbK I.kIn O (c.get m) k.at_ k.fn j h
theorem YO (I:Inv X qQ σ H s)(e:H a=some (.ins C dx fs))(c:Cls X.K C)(n:NoAttr X.K C f)(hl:fs.length<1000)(D:RelV y u)(h:∀s',Inv X qQ σ (upd H a (.ins C dx (Ui f y fs))) s'->Q () s'):wpAny (model X.prog X.w) A (setAttr (.ref a) f u) Q E s:=by
 obtain ⟨mA,O,r,wi,_,B⟩:=VJ I.hok e;have L:(fs.map (·.1)).length<=sizeLine:=by rw [Yac,Yav];lia
 refine ZdH I.kIn O c.sa c.po n.taker c.hd wi L λh' j N=>h _ ?_;have U:∃o,h'.get? dx=some o:=let ⟨o,_,_,e',_⟩:=j.ns;⟨o,e'⟩;refine I.write (x:=a) (e:=dx) (by rw [e];exact True.intro) (.inr B) (λb q Y z=>(N.2 b Y).trans z) U ?_;refine ⟨by rw [Gj O.ne];exact B,?_,O.ne,j.obj,_,j.ns,λg=>?_,λg Z=>?_⟩
 ·have:=UI f y fs;lia
 ·show RelO ((Ui f y fs).lookup g) (if g=f then some u else mA g);rw [Gx];by_cases q:g=f
  ·rw [if_pos q,if_pos q];exact D
  ·rw [if_neg q,if_neg q];exact r g
 ·by_cases q:g=f
  ·rw [q];exact (UH f y fs).1
  ·refine (UH f y fs).2 g (wi g λz=>Z ?_);show (if g=f then some u else mA g)=none;rw [if_neg q];exact z
theorem Inv.made (I:Inv X qQ σ H s):Inv X qQ σ (upd (upd H s.heap.objs.size (.own (s.heap.objs.size+1))) (s.heap.objs.size+1) (.ins C s.heap.objs.size []))
  { s with heap:=(s.heap.push W.emptyDict).push (W.instObj C s.heap.objs.size) }:=by
 have j:(s.heap.push W.emptyDict).get? s.heap.objs.size=some W.emptyDict:=Yaw s.heap rfl;have D:((s.heap.push W.emptyDict).push (W.instObj C s.heap.objs.size)).get? (s.heap.objs.size+1)=some (W.instObj C s.heap.objs.size):=by
  have:=Yaw (s.heap.push W.emptyDict) (o:=W.instObj C s.heap.objs.size) rfl
  rwa [Ybn] at this
 have L:(s.heap.push W.emptyDict).Ns s.heap.objs.size (λ_=>none):=⟨W.emptyDict,#[],_,j,rfl,(λe N=>absurd N (by simp)),λ_=>rfl⟩;have O:=I.laid (a:=s.heap.objs.size) (o:=.own (s.heap.objs.size+1)) (h':=s.heap.push W.emptyDict) (t':=s.toks) (λb u q=>Yae _ q) (Yaf _) ⟨_,j⟩;refine O.laid (a:=s.heap.objs.size+1) (o:=.ins C s.heap.objs.size []) (t':=s.toks) (λb u q=>Yae _ q) (Nat.le_of_eq (Ybn _ _)) ?_;have B:s.heap.objs.size≠s.heap.objs.size+1:=Yar (Nat.lt_succ_self _);refine ⟨by rw [Gj B,Gc],Yat _,B,D,λ_=>none,(Heap.Ns1.of_empty L).at λo q=>Yae _ q,λ_=>True.intro,λy U=>absurd rfl U⟩
theorem ZdI {f:Str}{s:SS}(j:attributeBase e f env (eval e env)=eval e env)(h:wpAny (model prog w) A (eval e env) (λo q=>wpAny (model prog w) A (getAttr o f true) Q E q) E s):wpAny (model prog w) A (eval (.Attribute e f pos) env) Q E s:=
 Attribute_any_ h (by rw [arm_eval_Attribute,j])
end
noncomputable def Zir (K:FG)(ta:TE)(f:Str):TE:=λσ H Q=>ta σ H λx H1=>∃a C dx fs v,x=.ref a/\H1 a=some (.ins C dx fs)/\Cls K C/\NoAttr K C f/\fs.lookup f=some v/\Q v H1
noncomputable def Zis (K:FG)(ta tv:TE)(f:Str):TS:=λD σ H=>tv σ H λy H1=>ta σ H1 λx H2=>∃a C dx fs,x=.ref a/\H2 a=some (.ins C dx fs)/\Cls K C/\NoAttr K C f/\fs.length<1000 /\
 D.nx σ (upd H2 a (.ins C dx (Ui f y fs)))
section
variable {X:Cx}{o e value:Expr}{f:Str}{pos pos' tpos:Pos}{ta tv:TE}
theorem OD (j:PE X e ta)(B:attributeBase e f X.env (eval e X.env)=eval e X.env):PE X (.Attribute e f pos) (Zir X.K ta f):=by
 intro qQ s σ H Q I h;refine ZdI B (thG (j qQ s σ H _ I h) λu Y x H1 D L ⟨a,C,dx,fs,v,ex,N,c,n,l,q⟩=>?_);subst ex;obtain rfl:u=Value.ref a:=L;exact YM D N c n l λZ s2 O U=>⟨v,H1,O,U,q⟩
theorem ZN (ha:PE X o ta)(j:PE X value tv)(B:swapsWith value (some (.Attribute o f pos')) pos.line X.env=pure false):PS X (.Assign [.Attribute o f pos'] value pos) (Zis X.K ta tv f):=by
 intro qQ s σ H D I h;refine plainObj_wpAny_Assign_Attribute (thG (j qQ s σ H _ I h) λu L y H1 N O q=>thG (ha qQ L σ H1 _ N q) λU s2 x H2 Y Z ⟨a,C,dx,fs,ex,ea,c,n,l,q2⟩=>?_) B;subst ex;obtain rfl:U=Value.ref a:=Z;exact YO Y ea c n l O λs3 I3=>⟨σ,_,I3,q2⟩
end
section
variable {X:Cx}{qQ:List (AD×Obj)}{σ:St}{H:Hp}{s:SS}{A:Around}{E:Aa->SS->Prop}{Q:Aa->SS->Prop}{c:Aa}{b:Bool}
inductive YQ (K:FG)(H:Hp):V->Aa->Prop where
 | non:YQ K H .non (.type "NoneType")
 | bl (x:Bool):YQ K H (.bl x) (.type "bool")
 | int (i:Int):YQ K H (.int i) (.type "int")
 | str (x:Str):YQ K H (.str x) (.type "str")
 | flt (x:UInt64):YQ K H (.flt x) (.type "float")
 | lst {a:AD} {xs:List V} (e:H a=some (.lst xs)):YQ K H (.ref a) (.type "list")
 | frz {a:AD} {o:Obj} {xs:List V} (e:H a=some (.frz o (.lst xs))):YQ K H (.ref a) (.type "list")
 | tup {a:AD} {xs:List V} (e:H a=some (.tup xs)):YQ K H (.ref a) (.type "tuple")
 | dK {a:AD} {kvs:List (Key×V)} (e:H a=some (.dK kvs)):YQ K H (.ref a) (.type "dict")
 | dT {a:AD} {kvs:List (List Key×V)} (e:H a=some (.dT kvs)):YQ K H (.ref a) (.type "dict")
 | ins {a C dx:AD} {fs:List (Str×V)} (e:H a=some (.ins C dx fs)) (cl:Cls K C) (ha:W.findIn K (.ref C) "__class__" = some (some (.builtin "object.__class__")))
   (hn:W.specialIn K (.builtin "object.__class__") "__get__" = some (some (.builtin "getset_descriptor.__get__"))) (htk:W.takesIn K (.builtin "object.__class__")=some true)
   (hm:W.mroIn K C (.type "object")=some true):YQ K H (.ref a) (.ref C)
theorem ZO (I:Inv X qQ σ H s)(j:RelV x u)(ty:YQ X.K H x t)(e:W.kitOne X.K t c=some b)(h:∀tk,Q (.bool b) { s with toks:=tk }) :
  wpAny (model X.prog X.w) A (call (.builtin "isinstance") [u,c]) Q E s:=by
 cases ty with
 | non=>cases (show u=Value.none from j);exact Yde W.kitx_none I.kIn True.intro e (λz=>nomatch z) h
 | bl y=>cases (show u=Value.bool y from j);exact Yde W.kitx_bool I.kIn True.intro e (λz=>nomatch z) h
 | int i=>obtain ⟨t,q⟩:=(show ∃t,u=Value.int i t from j);cases q;exact Yde W.kitx_int I.kIn True.intro e (λz=>nomatch z) h
 | str y=>obtain ⟨t,q⟩:=(show ∃t,u=Value.str y t from j);cases q;exact Yde W.kitx_str I.kIn True.intro e (λz=>nomatch z) h
 | flt y=>obtain ⟨t,q⟩:=(show ∃t,u=Value.float y t from j);cases q;exact Yde W.kitx_float I.kIn True.intro e (λz=>nomatch z) h
 | @lst a xs ea=>
  cases (show u=Value.ref a from j);obtain ⟨_,_,n,_,h1⟩:=(show ObjOk X.prog X.w H s.heap a (.lst xs) from I.hok a _ ea);exact Yde W.kitx_list I.kIn ⟨_,h1,rfl⟩ e (λz=>nomatch z) h
 | @frz a ob xs ea=>
  cases (show u=Value.ref a from j);obtain ⟨_,_,_,n,_,h1⟩:=(show ObjOk X.prog X.w H s.heap a (.frz ob (.lst xs)) from I.hok a _ ea);exact Yde W.kitx_list I.kIn ⟨_,h1,rfl⟩ e (λz=>nomatch z) h
 | @tup a xs ea=>
  cases (show u=Value.ref a from j);obtain ⟨_,_,_,p⟩:=(show ObjOk X.prog X.w H s.heap a (.tup xs) from I.hok a _ ea);obtain ⟨o,h1,h2,_⟩:=p;exact Yde W.kitx_tuple I.kIn ⟨o,h1,h2⟩ e (λz=>nomatch z) h
 | @dK a kvs ea=>
  cases (show u=Value.ref a from j);obtain ⟨_,_,vs,_,p⟩:=(show ObjOk X.prog X.w H s.heap a (.dK kvs) from I.hok a _ ea);obtain ⟨o,es,ep,h1,h2,_⟩:=p;exact Yde W.kitx_dict I.kIn ⟨o,h1,h2.1⟩ e (λz=>nomatch z) h
 | @dT a kvs ea=>
  cases (show u=Value.ref a from j);obtain ⟨_,_,xs,_,o,es,ep,h1,h2,_⟩:=(show ObjOk X.prog X.w H s.heap a (.dT kvs) from I.hok a _ ea);exact Yde W.kitx_dict I.kIn ⟨o,h1,h2.1⟩ e (λz=>nomatch z) h
 | @ins a C dx fs ea cl ha hn htk hm=>
  cases (show u=Value.ref a from j);obtain ⟨mA,O,_⟩:=VJ I.hok ea;obtain ⟨B,J,_⟩:=O.look;exact Yde (W.kitx_own (cl.get _) cl.hd ha hn htk hm) I.kIn J e (λz=>nomatch z) h
end
structure Room (k:Nat)(A:Around):Prop where
 hd:A.handled=none
 dp:A.depth+3 * k+5<recursionLimit
 un:A.units+16 * k+200<cLine
theorem Room.mono (r:Room k A)(h:j<=k):Room j A:=⟨r.hd,by have:=r.dp;lia,by have:=r.un;lia⟩
theorem Room.deeper (r:Room (k+1) A)(env:Env):Room k (A.deeper env):=
 ⟨r.hd,by have:=r.dp;show A.depth+1+3 * k+5<_;lia,by have:=r.un;show A.units+3+16 * k+200<_;lia⟩
theorem YR {A:Around}:(A.under (.builtin "type.__call__" ⟨.ref C::us,kw⟩)).depth=A.depth+1:=by
 first | rfl | simp [Around.under,Code.weight,Code.isCreation,Code.isGuard,Code.isCaller,Code.frames,Code.isFrame,guardIds]
theorem YS {A:Around}:(A.under (.builtin "type.__call__" ⟨.ref C::us,kw⟩)).units=A.units+1:=by
 first | rfl | simp [Around.under,Code.cUnits,Code.frames,Code.isFrame]
theorem Room.make (r:Room (k+1) A)(C:AD)(us:LW)(kw:List (Str×Aa)):Room k (A.under (.builtin "type.__call__" ⟨.ref C::us,kw⟩)):=
 ⟨r.hd,by have:=r.dp;rw [YR];lia,by have:=r.un;rw [YS];lia⟩
theorem Room.depth (r:Room k A):A.depth<recursionLimit:=by have:=r.dp;lia
theorem Room.units (r:Room k A):A.units+64<cLine:=by have:=r.un;lia
noncomputable def ZP:TA:=λ_ H Q=>Q [] H
noncomputable def UJ (ta:TE)(j:TA):TA:=λσ H Q=>ta σ H λx H1=>j σ H1 λxs H2=>Q (x::xs) H2
section
variable {X:Cx}{e:Expr}{es:List Expr}{te:TE}{t:TA}{pos:Pos}
theorem Ge:PA X [] ZP:=λ_ _ _ _ H Q I h=>Calls.spliced_nil ⟨[],H,I,.nil,h⟩
theorem Ga (ha:PE X e te)(j:PA X es t)(q:starEach (e::es) X.env=(false,eval e X.env)::starEach es X.env:=by rfl):PA X (e::es) (UJ te t):=by
 intro pos qQ s σ H Q I h;rw [q];show wpAny _ _ (spliced ((false,eval e X.env)::backTo pos (starEach es X.env))) _ _ s;refine Calls.spliced_cons (thG (ha qQ s σ H _ I h) λu B x H1 D L N=>?_);exact thG (j pos qQ B σ H1 _ D N) λus Z xs H2 O U Y=>⟨x::xs,H2,O,.cons L U,Y⟩
noncomputable def Zhp (t:TA):TE:=λσ H Q=>t σ H λxs H1=>xs.length<=sizeLine/\∀p,H1 p=none->Q (.ref p) (upd H1 p (.tup xs))
noncomputable def Zfd (t:TA):TE:=λσ H Q=>t σ H λxs H1=>xs.length<=sizeLine/\∀p,H1 p=none->Q (.ref p) (upd H1 p (.lst xs))
theorem GT {x1}(h:PA X es t):PE X (.Tuple es x1 pos) (Zhp t):=by
 intro qQ s σ H Q I D;refine wpAny_Tuple_spliced (thG (h pos qQ s σ H _ I D) λus j xs H1 B r ⟨z,q⟩=>⟨by rw [<-r.length];exact z,?_⟩);have L:H1 j.heap.objs.size=none:=B.hok.fresh (Yaf _);refine ⟨.ref j.heap.objs.size,upd H1 j.heap.objs.size (.tup xs),B.laid (t':=j.toks) (λb u e=>Yae _ e) (Yaf _) ?_,rfl,q _ L⟩;exact ⟨z,us,r,⟨_,Yaw _ rfl,rfl,_,rfl⟩⟩
theorem GD (h:PA X es t):PE X (.List es pos) (Zfd t):=by
 intro qQ s σ H Q I D;refine wpAny_List_spliced (thG (h pos qQ s σ H _ I D) λus j xs H1 B r ⟨z,q⟩=>⟨by rw [<-r.length];exact z,?_⟩);have L:H1 j.heap.objs.size=none:=B.hok.fresh (Yaf _);refine ⟨.ref j.heap.objs.size,upd H1 j.heap.objs.size (.lst xs),B.laid (t':=j.toks) (λb u e=>Yae _ e) (Yaf _) ?_,rfl,q _ L⟩;exact ⟨z,us,0,r,Yaw _ rfl⟩
end
noncomputable abbrev Sp:=List V->Hp->VK->XK->Prop
noncomputable abbrev CXT:=List Env->Hp->SS->XK->Aa->SS->Prop
structure Env0 (P:PP)(w:Ab)(K:FG)(mg:Str->Option Aa)(base:Heap)(A:Around)(outer:List Env)(s:SS)(H:Hp):Prop where
 frames:A.frames=some outer
 mod:Mod K mg base
 bs:∀b o,base.get? b=some o->s.heap.get? b=some o/\H b=none
 bsz:base.objs.size<=s.heap.objs.size
 funs:s.heap.FunFrames base outer
 frf:∀b∈frs outer,H b=none
 hok:HOk P w H s.heap
 bare:AllBare s.gens
noncomputable def CE (outer:List Env)(P:PP)(w:Ab)(H:Hp)(s:SS)(Q:VK)(u:Aa)(s':SS):Prop:=
 ∃v H',s'.os=s.os/\AllBare s'.gens/\Un (frs outer) [] H H' s.heap s'.heap/\HOk P w H' s'.heap/\RelV v u/\Q v H'
noncomputable def CR (CX:CXT)(outer:List Env)(P:PP)(w:Ab)(H:Hp)(s:SS)(Q:VK)(E:XK)(r:Result)(s':SS):Prop:=
 match r with
 | .ok (.ret u)=>CE outer P w H s Q u s'
 | .ok _=>False
 | .error e=>CX outer H s E e s'
structure GE (P:PP)(w:Ab)(K:FG)(mg:Str->Option Aa)(base:Heap)(CX:CXT)(k:Nat)(f:AD)(fd:FuncData)(ps:List Str)(sp:Sp):Prop where
 len:∀vs H Q E,sp vs H Q E->vs.length=ps.length
 run:∀(A:Around)(outer:List Env)(s:SS)(H:Hp)(args:Args)(us:LW)(vs:List V)(Q:VK)(E:XK),Room k A->Env0 P w K mg base A outer s H->BindsTo s fd args (ps.zip us)->Vals vs us->sp vs H Q E ->
  codeAny (model P w) A (.call (.ref f) args) (CR CX outer P w H s Q E) s
theorem Env0.make {K:FG}(e:Env0 P w K mg base A outer s H)(C:AD)(us:LW)(kw:List (Str×Aa)) :
  Env0 P w K mg base (A.under (.builtin "type.__call__" ⟨.ref C::us,kw⟩)) outer s H:=⟨by first | exact e.frames | (simpa [Around.under,Code.envs,Code.isFrame,pushEnvs] using e.frames),e.mod,e.bs,e.bsz,e.funs,e.frf,e.hok,e.bare⟩
section
variable {X:Cx}{qQ:List (AD×Obj)}{σ:St}{H:Hp}{s s':SS}
theorem Inv.env0 (I:Inv X qQ σ H s):Env0 X.prog X.w X.K X.mg X.base X.A X.stack s H:=
 ⟨I.ok.frames,I.ok.mod,I.bs,Ybq I.ok.bsz I.sz,I.stack,I.stkFree,I.hok,I.bare⟩
theorem Inv.after (I:Inv X qQ σ H s)(h:CE X.stack X.prog X.w H s Q u s'):EP X qQ σ Q u s':=by
 obtain ⟨v,H',L,j,un,B,r,q⟩:=h;obtain ⟨N,g,d,t,D⟩:=s';obtain rfl:D=s.os:=L;exact ⟨v,H',I.call (h':=N) (g':=g) (d':=d) (t':=t) (ch:=[]) un B j (λb z=>absurd z (by simp)),r,q⟩
end
noncomputable def ZdJ (sp:Sp)(dvs:List V)(E:XK)(t:TA):TE:=λσ H Q=>t σ H λvs H1=>sp (vs++dvs) H1 Q E
noncomputable def Zhq (C:AD)(m:Str)(sp:Sp)(dvs:List V)(E:XK)(ta:TE)(t:TA):TE:=λσ H Q=>ta σ H λx H1=>∃a dx fs,x=.ref a/\H1 a=some (.ins C dx fs)/\fs.lookup m=none /\
 t σ H1 λvs H2=>sp (x::(vs++dvs)) H2 Q E
noncomputable def Zhr (C:AD)(sp:Sp)(dvs:List V)(E:XK)(t:TA):TE:=λσ H Q=>t σ H λvs H1=>∀x dx,H1 x=none->H1 dx=none->dx≠x ->
 sp (.ref x::(vs++dvs)) (upd (upd H1 dx (.own x)) x (.ins C dx [])) (λv H2=>v=.non/\Q (.ref x) H2) E
noncomputable def Binds (K:FG)(fd:FuncData)(ps:List Str)(ds:LW):Prop:=
 ∀(s:SS)(us:LW),K.In s.heap->(us++ds).length=ps.length->BindsTo s fd ⟨us,[]⟩ (ps.zip (us++ds))
theorem Binds.all {K:FG}(h:∀us:LW,us.length=ps.length->bindArgs fd ⟨us,[]⟩=pure (ps.zip us)):Binds K fd ps []:=λs us _ j=>by
 rw [Yei] at j ⊢;exact .of_eq (h us j)
noncomputable def Oo (CX:CXT)(X:Cx)(E:XK):Prop:=∀(qQ:List (AD×Obj))(σ:St)(H:Hp)(s:SS)(e:Aa)(s':SS),Inv X qQ σ H s->CX X.stack H s E e s'->X.xe e s'
section
variable {X:Cx}{CX:CXT}{k:Nat}{f C:AD}{fd:FuncData}{ps:List Str}{sp:Sp}{dvs:List V}{ds:LW}{E:XK}{x m:Str}{p pos apos:Pos}{e o:Expr}{es:List Expr}{ta:TE}{t:TA}
theorem ZQ (F:GE X.prog X.w X.K X.mg X.base CX k f fd ps sp)(B:Room k X.A)(D:Binds X.K fd ps ds)(L:Vals dvs ds)(N:Oo CX X E)(I:Inv X qQ σ H s)(r:Vals vs us)(h:sp (vs++dvs) H Q E):wpAny (model X.prog X.w) X.A (call (.ref f) us) (EP X qQ σ Q) X.xe s:=by
 have q:Vals (vs++dvs) (us++ds):=r.append L;have O:(us++ds).length=ps.length:=by rw [<-q.length];exact F.len _ _ _ _ h
 refine wpAny_call (codeAny_mono (F.run X.A X.stack s H ⟨us,[]⟩ (us++ds) (vs++dvs) Q E B I.env0 (D s us I.kIn O) q h) λr s' j=>?_);cases r with
 | error e=>exact N qQ σ H s e s' I j
 | ok fl=>
  cases fl with
  | ret u=>exact I.after j
  | next=>exact False.elim j
  | brk=>exact False.elim j
  | cont=>exact False.elim j
theorem VL (F:GE X.prog X.w X.K X.mg X.base CX k f fd ps sp)(L:Room k X.A)(N:Gl X x)(O:X.mg x=some (.ref f))(U:W.keepIn X.K (.ref f)=true)(Y:Binds X.K fd ps ds)(Z:Vals dvs ds)(hx:Oo CX X E)(ha:PA X (e::es) t)(j:(x == ("__debug__" : Str))=false:=by decide)(he:starEach (e::es) X.env=(false,eval e X.env)::starEach es X.env:=by rfl)(B:(backTo pos (starEach es X.env)).any (·.1)=false:=by rfl) :
  PE X (.Call (.Name x p) (e::es) [] pos) (ZdJ sp dvs E t):=by
 intro qQ s σ H Q I h;refine Yej (VH I N O ?_ j);refine W.callWith_K (h₀:=X.base) I.ok.mod.kin U (thG (ha pos qQ s σ H _ I h) λus s1 vs H1 D r q=>⟨D.kIn,?_⟩) he B;exact ZQ F L Y Z hx D r q
theorem ZdK (O:PE X o ta)(c:Cls X.K C)(D:Zho X.K C m f)(F:GE X.prog X.w X.K X.mg X.base CX k f fd ps sp)(U:Room k X.A)(Y:Binds X.K fd ps ds)(Z:Vals dvs ds)(hx:Oo CX X E)(ha:PA X (e::es) t)(j:starEach (e::es) X.env=(false,eval e X.env)::starEach es X.env:=by rfl)(B:(backTo pos (starEach es X.env)).any (·.1)=false:=by rfl)(ht:eval (.Call (.Attribute o m apos) (e::es) [] pos) X.env=(do
   let ov <- eval o X.env
   standAt apos.atName
   let (f,first) <- holding [ov] (getMethod ov m pl)
   callWith pos f first (backTo pos (starEach (e::es) X.env)) (backToKw pos (keywordEach [] X.env))):=by rfl) :
  PE X (.Call (.Attribute o m apos) (e::es) [] pos) (Zhq C m sp dvs E ta t):=by
 intro qQ s σ H Q I h;refine W.methodCall_KW (pl:=pl) (thG (O qQ s σ H _ I h) λu s1 x H1 L rx ⟨a,dx,fs,ex,ea,l,q⟩=>?_) ht;subst ex;obtain rfl:u=Value.ref a:=rx;refine YN L ea c D l ?_;refine W.callWith_K (first:=[.ref a]) (h₀:=X.base) I.ok.mod.kin D.kp (thG (ha pos qQ s1 σ H1 _ L q) λus s2 vs H2 N r q2=>⟨N.kIn,?_⟩) j B;exact ZQ (us:=.ref a::us) (vs:=.ref a::vs) F U Y Z hx N (.cons rfl r) q2
structure Mk (K:FG)(C f:AD):Prop where
 makes:W.makesIn K C=true
 init:W.findIn K (.ref C) "__init__" = some (some (.ref f))
 fn:W.isFn K (.ref f)=true
 kp:W.keepIn K (.ref C)=true
theorem ZbM (M:Mk X.K C f)(F:GE X.prog X.w X.K X.mg X.base CX k f fd ps sp)(L:Room (k+1) X.A)(N:Binds X.K fd ps ds)(O:Vals dvs ds)(U:Oo CX X E)(I:Inv X qQ σ H s)(r:Vals vs us)(h:∀x dx,H x=none->H dx=none->dx≠x->sp (.ref x::(vs++dvs)) (upd (upd H dx (.own x)) x (.ins C dx [])) (λv H2=>v=.non/\Q (.ref x) H2) E) :
  wpAny (model X.prog X.w) X.A (call (.ref C) us) (EP X qQ σ Q) X.xe s:=by
 have B:=h (s.heap.objs.size+1) s.heap.objs.size (I.hok.fresh (Ydt _)) (I.hok.fresh (Yaf _)) (Yar (Nat.lt_succ_self _));have q:=Inv.made (C:=C) I;have D:Vals (V.ref (s.heap.objs.size+1)::(vs++dvs)) (Value.ref (s.heap.objs.size+1)::(us++ds)):=.cons rfl (r.append O);have Y:(Value.ref (s.heap.objs.size+1)::us++ds).length=ps.length:=by
  have e:=D.length;rw [F.len _ _ _ _ B] at e;exact e.symm
 refine wpAny_call (ZbL (f:=f) I.kIn M.makes M.init (Ybi.mp M.fn) (codeAny_mono (F.run _ X.stack _ _ ⟨Value.ref (s.heap.objs.size+1)::us,[]⟩ (Value.ref (s.heap.objs.size+1)::(us++ds)) _ _ E (L.make C us [])
  (q.env0.make C us []) (N _ (Value.ref (s.heap.objs.size+1)::us) q.kIn Y) D B) λr s' j=>?_))
 cases r with
 | error e=>exact U qQ σ _ _ e s' q j
 | ok fl=>
  cases fl with
  | ret u=>
   obtain ⟨v,H',Z,rv,ev,q3⟩:=q.after j;subst ev;exact ⟨rv,⟨V.ref (s.heap.objs.size+1),H',Z,rfl,q3⟩⟩
  | next=>exact False.elim j
  | brk=>exact False.elim j
  | cont=>exact False.elim j
theorem ZdL (M:Mk X.K C f)(F:GE X.prog X.w X.K X.mg X.base CX k f fd ps sp)(L:Room (k+1) X.A)(N:Gl X x)(O:X.mg x=some (.ref C))(U:Binds X.K fd ps ds)(Y:Vals dvs ds)(Z:Oo CX X E)(ha:PA X (e::es) t)(j:(x == ("__debug__" : Str))=false:=by decide)(he:starEach (e::es) X.env=(false,eval e X.env)::starEach es X.env:=by rfl)(B:(backTo pos (starEach es X.env)).any (·.1)=false:=by rfl) :
  PE X (.Call (.Name x p) (e::es) [] pos) (Zhr C sp dvs E t):=by
 intro qQ s σ H Q I h;refine Yej (VH I N O ?_ j);refine W.callWith_K (h₀:=X.base) I.ok.mod.kin M.kp (thG (ha pos qQ s σ H _ I h) λus s1 vs H1 D r q=>⟨D.kIn,?_⟩) he B;exact ZbM M F L U Y Z D r q
end
noncomputable def PK (X:Cx)(kws:List Keyword)(t:TA):Prop:=
 ∀(pos:Pos)(qQ:List (AD×Obj))(s:SS)(σ:St)(H:Hp)(Q:List V->Hp->Prop),Inv X qQ σ H s->t σ H Q->wpAny (model X.prog X.w) X.A (evalAll ((backToKw pos (keywordEach kws X.env)).map (·.2))) (AP X qQ σ Q) X.xe s
section
variable {X:Cx}{CX:CXT}{k:Nat}{f C:AD}{fd:FuncData}{ps ks:List Str}{sp:Sp}{E:XK}{x m:Str}{p pos apos kpos:Pos}{e o:Expr}{es:List Expr}{kws:List Keyword}{te ta:TE}{t tk:TA}{nm:Option Str}
theorem Zc5:PK X [] ZP:=λ_ _ _ _ H Q I h=>wpAny_evalAll_nil ⟨[],H,I,.nil,h⟩
theorem VM (ha:PE X e te)(j:PK X kws t):PK X (⟨nm,e,kpos⟩::kws) (UJ te t):=by
 intro pos qQ s σ H Q I h;show wpAny _ _ (evalAll ((do let v <- eval e X.env;standAt pos;pure v)::(backToKw pos (keywordEach kws X.env)).map (·.2))) _ _ s;refine wpAny_evalAll_cons (Yaa (thG (ha qQ s σ H _ I h) λu q x H1 B D L=>Yaa (wpAny_standAt (Yab ?_))));exact thG (j pos qQ q σ H1 _ B L) λus Y xs H2 N O U=>⟨x::xs,H2,N,.cons D O,U⟩
variable {g:LW->LW->LW}{gV:List V->List V->List V}
end
structure Gn (N P:List Str)(sc:Scope):Prop where
 kind:sc.kind=.function
 co:sc.isCoroutine=false
 gen:sc.isGenerator=false
 nd:N.Nodup
 pre:N.take P.length=P
 par:∀x∈P,sc.names.lookup x=some .local\/sc.names.lookup x=some .cell
 nofree:∀y∈sc.names,y.2≠.free
theorem WA {j:Str->Option NameKind}{x:Str}:∀{binds:List (Str×Aa)}{m:Str->Option Aa},(∀v,(x,v) ∉ binds)->bindL j binds m x=m x
 | [],_,_=>rfl
 | (n,v)::r,m,h=>by
  unfold bindL;rw [WA λw q=>h w (Ybe _ q)];split
  ·have:x≠n:=by rintro rfl;exact h v Ybg
   simp [this]
  ·rfl
theorem WB {j:Str->Option NameKind}{x:Str}:∀{binds:List (Str×Aa)}{m:Str->Option Aa},(∀v,(x,v) ∉ binds)->bindC j binds m x=m x
 | [],_,_=>rfl
 | (n,v)::r,m,h=>by
  unfold bindC;rw [WB λw q=>h w (Ybe _ q)];split
  ·rfl
  ·have:x≠n:=by rintro rfl;exact h v Ybg
   simp [this]
theorem WC {kindOf:Str->Option NameKind}{x:Str}{v:Aa}:∀{P:List Str}{vs:LW}{i:Nat}{m:Str->Option Aa},P.Nodup->P[i]?=some x->vs[i]?=some v->kindOf x=some .local ->
  bindL kindOf (P.zip vs) m x=some v
 | [],_,_,_,_,h,_,_=>by simp at h
 | _::_,[],_,_,_,_,h,_=>by simp at h
 | p::P,w::vs,0,m,nd,h1,h2,hk=>by
  simp at h1 h2;subst h1;subst h2;show bindL kindOf ((p,w)::P.zip vs) m p=_;unfold bindL;rw [WA λv hv=>(List.nodup_cons.mp nd).1 (List.of_mem_zip hv).1,if_pos hk];simp
 | p::P,w::vs,i+1,m,nd,h1,h2,hk=>by
  show bindL kindOf ((p,w)::P.zip vs) m x=_;unfold bindL;exact WC (i:=i) (List.nodup_cons.mp nd).2 (by simpa using h1) (by simpa using h2) hk
theorem WD {kindOf:Str->Option NameKind}{x:Str}{v:Aa}:∀{P:List Str}{vs:LW}{i:Nat}{m:Str->Option Aa},P.Nodup->P[i]?=some x->vs[i]?=some v->kindOf x≠some .local ->
  bindC kindOf (P.zip vs) m x=some v
 | [],_,_,_,_,h,_,_=>by simp at h
 | _::_,[],_,_,_,_,h,_=>by simp at h
 | p::P,w::vs,0,m,nd,h1,h2,hk=>by
  simp at h1 h2;subst h1;subst h2;show bindC kindOf ((p,w)::P.zip vs) m p=_;unfold bindC;rw [WB λv hv=>(List.nodup_cons.mp nd).1 (List.of_mem_zip hv).1,if_neg hk];simp
 | p::P,w::vs,i+1,m,nd,h1,h2,hk=>by
  show bindC kindOf ((p,w)::P.zip vs) m x=_;unfold bindC;exact WD (i:=i) (List.nodup_cons.mp nd).2 (by simpa using h1) (by simpa using h2) hk
noncomputable def start (N:List Str)(vs:List V):St:=vs.map some++List.replicate (N.length-vs.length) none
noncomputable def YT (CX:CXT)(P:PP)(w:Ab)(K:FG)(mg:Str->Option Aa)(base:Heap)(N:List Str)(qual:Str)(scope:Scope)(f:AD)(cd:Aa)(A:Around)(outer:List Env)(s:SS)(H:Hp)(E:XK):Cx where
 prog:=P
 w:=w
 K:=K
 mg:=mg
 base:=base
 A:=A.deeper (envOfC qual scope s.heap.objs.size f cd)
 N:=N
 s₀:=s
 H₀:=H
 env:=envOfC qual scope s.heap.objs.size f cd
 outer:=outer
 stack:=envOfC qual scope s.heap.objs.size f cd::outer
 ex:=[]
 calm:=true
 fn:=λ_=>true
 pn:=[]
 xe:=λe s'=>wpAny (model P w) (A.deeper (envOfC qual scope s.heap.objs.size f cd)) (leaving (envOfC qual scope s.heap.objs.size f cd) e) (λ_ s''=>CX outer H s E e s'') (λe' s''=>CX outer H s E e' s'') s'
theorem XO {j:Scope}(h:j.names.lookup x=some .cell):∃c,(cellsFrom n j.names []).lookup x=some c:=by
 have q:=W.cellsFrom_some j.names n [] (.inl h);exact Yek.mp q
theorem ZR {K:FG}(S:Gn N ps scope)(hd:A.handled=none)(j:Env0 P w K mg base A outer s H)(hl:vs.length=ps.length)(r:Vals vs us)(x:InCallC s s.heap.objs.size (bindL (envOfC qual scope s.heap.objs.size f U).kindOf (ps.zip us) λ_=>none) (cellsFrom (s.heap.objs.size+1) scope.names []) (bindC (envOfC qual scope s.heap.objs.size f U).kindOf (ps.zip us) λ_=>none) Y) :
  Inv (YT CX P w K mg base N qual scope f U A outer s H E) [] (start N vs) H Y:=by
 have aa:ps.length<=N.length:=by have:=Ybh List.length S.pre;rw [Ybo] at this;lia
 obtain ⟨h1,tk,rfl,Z⟩:=x.done;have B:∀b:AD,b ∉ (YT CX P w K mg base N qual scope f U A outer s H E).ex:=λb z=>absurd (show b∈([]:List AD) from z) (by simp);refine ⟨⟨j.mod,S.kind,rfl,rfl,Yaf _,λy z c h1 h2=>?_,λy D=>?_,λy c _ h=>?_,λ_=>hd,Around.frames_deeper j.frames,.inr ⟨rfl,rfl⟩,λb z=>absurd z (B b),j.bs,j.bsz,λb _ _=>B b,λb z=>absurd z (B b),j.funs,j.frf⟩,
  rfl,j.bare,Un.kept Z,⟨_,x.toInCall.ns,λi y v h1 h2 h3=>?_⟩,λy c h=>⟨_,x.cell y c h⟩,j.hok.fresh (Yaf _),λy c h=>?_,λp L=>absurd (show p∈([]:List (AD×Obj)) from L) (by simp),j.hok.kept Z,?_⟩
 ·exact name_of_addr x.apart (Ydu h1) (Ydu h2)
 ·have D:scope.names.lookup y=some .cell\/scope.names.lookup y=some .free:=D;rcases D with D | D
  ·exact XO D
  ·exact absurd rfl (S.nofree _ (Ydu D))
 ·exact Ycw (x.above y c (Ydu h))
 ·have hi:i<vs.length:=by
   unfold start at h2;by_cases hi:i<vs.length
   ·exact hi
   ·rw [Ydv (by simpa using hi)] at h2;rw [List.getElem?_replicate] at h2;split at h2 <;> cases h2
  have ha:vs[i]?=some v:=by
   unfold start at h2;rw [Ycx (by simpa using hi),Yaz] at h2;cases e:vs[i]? with
   | none=>rw [e] at h2;cases h2
   | some a=>rw [e] at h2;cases h2;rfl
  obtain ⟨u,hu,rv⟩:=r.get ha;have L:ps[i]?=some y:=by
   rw [<-S.pre,List.getElem?_take_of_lt (by lia)];exact h1
  have O:ps.Nodup:=by rw [<-S.pre];exact S.nd.sublist (List.take_sublist _ _)
  refine ⟨u,rv,?_⟩;rcases S.par y (Ybf L) with k | k
  ·exact .inl ⟨k,WC O L hu k⟩
  ·obtain ⟨c,e⟩:=XO (n:=s.heap.objs.size+1) k;refine .inr ⟨.inl k,c,e,?_⟩;have q:=x.cell y c e;rw [WD O L hu (by show scope.names.lookup y≠_;rw [k];decide)] at q;exact q
 ·exact j.hok.fresh (Ycw (x.above y c (Ydu h)))
 ·unfold start;show _=N.length;rw [Yak,Yac,List.length_replicate]
  lia
theorem ZS {K:FG}{dV kV L pm j ct oc:Aa}(lk:K.lookup f=some ⟨oc,od,.func (W.fnOf name qual params body scope dV kV L pm an j ct),Z⟩)(aa:W.codeIn K j qual=true)(S:Gn N ps scope)(len:∀vs H Q E,sp vs H Q E->vs.length=ps.length)(jZ:∀(A:Around)(outer:List Env)(s:SS)(H:Hp)(vs:List V)(Q:VK)(E:XK),Room k (A.deeper (envOfC qual scope s.heap.objs.size f j))->sp vs H Q E ->
   ∃t,PSs (YT CX P w K mg base N qual scope f j A outer s H E) body t/\t { nx:=λ_ H'=>Q .non H',rt:=Q } (start N vs) H) :
  GE P w K mg base CX (k+1) f (W.fnOf name qual params body scope dV kV L pm an j ct) ps sp:=by
 refine ⟨len,λA outer s H ac us vs Q E hr O hb r U=>?_⟩;have hl:=len _ _ _ _ U;have KX:K.In s.heap:=O.mod.kin.keeps λb o e=>(O.bs b o e).1;have ab:s.heap.NoLimit:=O.mod.nolimit.keeps λb o e=>(O.bs b o e).1;have B:∀y∈ps.zip us,scope.names.lookup y.1=some .local\/(scope.names.lookup y.1=some .cell/\((cellsFrom (s.heap.objs.size+1) scope.names []).lookup y.1).isSome=true):=λ⟨n,v⟩ hy=>by
  rcases S.par n (List.of_mem_zip hy).1 with q | q
  ·exact .inl q
  ·exact .inr ⟨q,W.cellsFrom_some _ _ _ (.inl q)⟩
 refine codeAny_call_function hr.depth (KX _ _ lk) rfl S.co S.gen rfl (W.codeRec_of KX aa) (hb _ _ _ _ ?_);refine wpAny_newFunctionEnv_cells S.kind B λad he s1 x=>?_;subst he;refine ⟨ab.keeps x.toInCall.keep,codeAny_func ?_⟩;obtain ⟨t,ht,hq⟩:=jZ A outer s H vs Q E (hr.deeper _) U;have I:Inv (YT CX P w K mg base N qual scope f j A outer s H E) [] (start N vs) H s1:=ZR S hr.hd O hl r x;refine Ybr (ht [] s1 (start N vs) H _ I hq) (λfl s' D=>?_) λe s' D=>D;have fin:∀{Y:St}{H':Hp}{v:V}{u:Aa},Inv (YT CX P w K mg base N qual scope f j A outer s H E) [] Y H' s'->RelV v u->Q v H'->CE outer P w H s Q u s':=
  λ{Y H' v u} J rv q=>⟨v,H',J.os,J.bare,J.base,J.hok,rv,q⟩
 cases fl with
 | ret u=>
  obtain ⟨v,Y,H',J,rv,q⟩:=D;exact fin J rv q
 | next=>
  obtain ⟨Y,H',J,q⟩:=D;exact fin (v:=V.non) (u:=Value.none) J rfl q
 | brk=>
  obtain ⟨_,_,_,q⟩:=D;exact False.elim q
 | cont=>
  obtain ⟨_,_,_,q⟩:=D;exact False.elim q
section
variable {X:Cx}{x:Str}{p pos:Pos}{e:Expr}{es:List Expr}{t:TA}{id T:String}{r:List V->Hp->VK->Prop}
noncomputable def tCB (r:List V->Hp->VK->Prop)(t:TA):TE:=λσ H Q=>t σ H λvs H1=>r vs H1 Q
theorem G7 (B:JY X (.builtin id) r)(D:Gl X x)(L:X.mg x=none)(N:bootBuiltins x=some (.builtin id))(ha:PA X (e::es) t)(O:x ≠ "__name__" := by decide)(j:(x == ("__debug__" : Str))=false:=by decide)(U:starEach (e::es) X.env=(false,eval e X.env)::starEach es X.env:=by rfl)(q:(backTo pos (starEach es X.env)).any (·.1)=false:=by rfl):PE X (.Call (.Name x p) (e::es) [] pos) (tCB r t):=by
 intro qQ s σ H Q I h;refine Yej (Ol I D L N ?_ O j);exact PyProof.Rows.callWith_builtin1 (thG (ha pos qQ s σ H _ I h) λus Y vs H1 Z r1 q1=>B qQ Y σ H1 vs us Q Z r1 q1) U q
theorem ZT (B:JY X (.type T) r)(D:Gl X x)(L:X.mg x=none)(N:bootBuiltins x=some (.type T))(ha:PA X (e::es) t)(O:x ≠ "__name__" := by decide)(j:(x == ("__debug__" : Str))=false:=by decide)(U:starEach (e::es) X.env=(false,eval e X.env)::starEach es X.env:=by rfl)(q:(backTo pos (starEach es X.env)).any (·.1)=false:=by rfl):PE X (.Call (.Name x p) (e::es) [] pos) (tCB r t):=by
 intro qQ s σ H Q I h;refine Yej (Ol I D L N ?_ O j);exact Yfe (thG (ha pos qQ s σ H _ I h) λus Y vs H1 Z r1 q1=>B qQ Y σ H1 vs us Q Z r1 q1) U q
end
end L2
namespace HT
open PySem PyProof.Rows
section
variable {prog:PP}{w:Ab}{A:Around}{E:Aa->SS->Prop}{s:SS}
theorem cat_tup (ht:IsTup s.heap t vs.toArray)(hb:IsTup s.heap b j.toArray)(Z:vs≠[])(h1:j=[]->Q (.ref t) s)(h2:j≠[]->Q (.ref s.heap.objs.size) { s with heap:=s.heap.push { cls:=.type "tuple", data:=.seq (vs++j).toArray } })(hsz:vs.length+j.length<=sizeLine):wpAny (model prog w) A (binaryOp .Add (.ref t) (.ref b)) Q E s:=by
 obtain ⟨⟨cls,dd,data,sl⟩,O,hc,n,hd⟩:=id ht;obtain ⟨⟨aa,B,Y,D⟩,q,L,n2,N⟩:=id hb;simp only at hc hd L N;subst hc hd L N;have e:vs.toArray++j.toArray=(vs++j).toArray:=by simp
 by_cases U:j=[]
 ·exact concat_meets ⟨_,O,rfl⟩ ⟨_,q,rfl⟩ noFill_tuple_add seq_tuple_add PySem.F.slot_tuple_add PySem.F.entry_tuple_add (PySem.F.args_tuple_add_2 _ _)
   (tuple_addW1 t b vs.toArray j.toArray n n2 dd B sl D (by simpa using Z) (by simp [U])) ⟨O,q,h1 U⟩
 ·refine concat_meets ⟨_,O,rfl⟩ ⟨_,q,rfl⟩ noFill_tuple_add seq_tuple_add PySem.F.slot_tuple_add PySem.F.entry_tuple_add (PySem.F.args_tuple_add_2 _ _)
   (tuple_addW2 t b vs.toArray j.toArray n n2 dd B sl D (by simpa using Z) (by simpa using U) (by rw [Yau,Yau];exact hsz)) ⟨O,q,?_⟩
  rw [e];exact h2 U
noncomputable def sIx (n d:Nat):Option Int->Nat
 | none=>d
 | some v=>if v<0 then (v+(n:Int)).toNat else min v.toNat n
theorem sIx_nat (n d k:Nat):sIx n d (some (k:Int))=min k n:=by
 show (if (k:Int)<0 then ((k:Int)+(n:Int)).toNat else min (k:Int).toNat n)=min k n;rw [if_neg (by lia),Ydw]
theorem Zfe (n d:Nat)(q:d<=n)(o:Option Int):sIx n d o<=n:=by
 cases o with
 | none=>exact q
 | some v=>
  show (if v<0 then (v+(n:Int)).toNat else min v.toNat n)<=n;by_cases j:v<0
  ·rw [if_pos j];lia
  ·rw [if_neg j];exact Nat.min_le_right _ _
theorem ZU (v:Int)(n d:Nat):(if v<0 then max (v+(n:Int)) 0 else min v (n:Int))=((sIx n d (some v):Nat):Int):=by
 show (if v<0 then max (v+(n:Int)) 0 else min v (n:Int))=(((if v<0 then (v+(n:Int)).toNat else min v.toNat n):Nat):Int);by_cases j:v<0
 ·simp only [if_pos j];lia
 ·simp only [if_neg j];lia
theorem YU (lo hi:Option Int)(n:Nat):Builtin.Slice.sliceAdjust lo hi 1 (n:Int)=(((sIx n 0 lo:Nat):Int),((sIx n n hi:Nat):Int)):=by
 have h1:¬ ((1:Int)<0):=by lia
 unfold Builtin.Slice.sliceAdjust;simp only [h1,Ycy];refine Prod.ext ?_ ?_
 ·cases lo with
  | none=>rfl
  | some v=>exact ZU v n 0
 ·cases hi with
  | none=>rfl
  | some v=>exact ZU v n n
theorem YV (i j:Nat):Builtin.Slice.slicePlaces (i:Int) (j:Int) 1=j-i:=by
 unfold Builtin.Slice.slicePlaces;have h1:(1:Int) > 0:=by lia
 simp only [h1,if_true,Int.ediv_one];split <;> lia
theorem Vk (p:IsPart v o)(h:Q o s):wpAny (model prog w) A (Builtin.Slice.slicePartIndex v) Q E s:=by
 cases p with
 | none=>exact slicePart_none h
 | int i t=>exact slicePart_int h
theorem sliceApplied_gen {lo hi:Option Int}{n:Nat}(N:s.heap.IsSliceOf L B D .none)(pl:IsPart B lo)(O:IsPart D hi)(h:Q (((sIx n 0 lo:Nat):Int),1,sIx n n hi-sIx n 0 lo) s):wpAny (model prog w) A (Builtin.Slice.sliceApplied (.ref L) (pure (n:Int))) Q E s:=by
 obtain ⟨Y,j,U,q⟩:=id N;unfold Builtin.Slice.sliceApplied Builtin.Slice.sliceFields;refine Yaa (Yaa (wpAny_field j q (x:=B) rfl (Yaa (wpAny_field j q (x:=D) rfl (Yaa (wpAny_field j q (x:=.none) rfl (Yab ?_)))))));refine Yaa (slicePart_none ?_);show wpAny _ _ (if ((1:Int) == 0)=true then _ else _) _ _ s;rw [if_neg (by decide)];refine Yaa (Vk pl (Yaa (Vk O (Yaa (Yab ?_)))));show wpAny _ _ (match Builtin.Slice.sliceAdjust lo hi 1 (n:Int) with | (lo,hi)=>pure (lo,(1:Int),Builtin.Slice.slicePlaces lo hi 1)) _ _ s;rw [YU lo hi n];show wpAny _ _ (pure (((sIx n 0 lo:Nat):Int),(1:Int),Builtin.Slice.slicePlaces ((sIx n 0 lo:Nat):Int) ((sIx n n hi:Nat):Int) 1)) _ _ s;rw [YV];exact Yab h
theorem ZbN (xs:Array Aa)(i k:Nat):((List.range k).filterMap λ(m:Nat)=>xs[((i:Int)+(m:Int) * 1).toNat]?).toArray=((xs.toList.drop i).take k).toArray:=by
 have e:(λ(m:Nat)=>xs[((i:Int)+(m:Int) * 1).toNat]?)=λm=>xs[i+m]?:=by
  funext m
  have:((i:Int)+(m:Int) * 1).toNat=i+m:=by lia
  rw [this]
 rw [e];have:=pick_run xs i k;rw [List.filterMap_map] at this;have j:((λx=>xs[x]?)∘λx=>i+x)=λm=>xs[i+m]?:=rfl;rw [j] at this;rw [this]
theorem getItem_tuple_cut {lo hi:Option Int}(B:IsTup s.heap t items)(hs:s.heap.IsSliceOf D Y Z .none)(pl:IsPart Y lo)(pu:IsPart Z hi)(hw:¬ (sIx items.size 0 lo=0/\sIx items.size items.size hi=items.size))(h:Q (.ref s.heap.objs.size) { s with heap:=s.heap.push { cls:=.type "tuple", data:=.seq ((items.toList.drop (sIx items.size 0 lo)).take (sIx items.size items.size hi-sIx items.size 0 lo)).toArray } })(hsz:items.size<=sizeLine):wpAny (model prog w) A (getItem (.ref t) (.ref D)) Q E s:=by
 have j:sizeOk (.seq ((items.toList.drop (sIx items.size 0 lo)).take (sIx items.size items.size hi-sIx items.size 0 lo)).toArray):=by
  show ((items.toList.drop (sIx items.size 0 lo)).take (sIx items.size items.size hi-sIx items.size 0 lo)).toArray.size<=sizeLine;rw [Yau,Ybo,Yel,Yan]
  lia
 have hj:sIx items.size items.size hi<=items.size:=Zfe _ _ (Yaf _) hi;obtain ⟨os,L,N,aa⟩:=id hs;have O:s.TypeIs (.ref D) "slice" := ⟨os,L,N⟩;unfold getItem
 try with_reducible refine Ycb ?_
 first | refine Yaa (Yab ?_) | skip
 refine Yaa (wpAny_sequenceKey B.typeIs (by decide) ?_);refine Yaa (Ydx (name:=Str.ofString "__getitem__") B.typeIs Yfx
  (Ycc Yfx B.typeIs entry_tuple_getitem ?_ (args_tuple_getitem _ _)))
 show wpAny _ _ (Builtin.Tuple.tupleItemsOf (.ref t) >>= _) _ _ s;refine Yaa (tupleItemsOf_ B ?_);refine Yaa (Yec O ?_);rw [if_pos (by decide)];refine Yaa (sliceApplied_gen hs pl pu ?_);have U:¬ ((((sIx items.size 0 lo:Nat):Int) == 0 && (1:Int) == 1 && (sIx items.size items.size hi-sIx items.size 0 lo) == items.size)=true):=by
  intro q;rw [Ybz,Ybz] at q;have q1:((sIx items.size 0 lo:Nat):Int)=0:=eq_of_beq q.1.1;have q2:sIx items.size items.size hi-sIx items.size 0 lo=items.size:=eq_of_beq q.2;exact hw ⟨by lia,by lia⟩
 show wpAny _ _ (if (((sIx items.size 0 lo:Nat):Int) == 0 && (1:Int) == 1 && (sIx items.size items.size hi-sIx items.size 0 lo) == items.size)=true then _ else _) _ _ s;rw [if_neg U,ZbN]
 first
  | exact Yaa (m:=Builtin.Tuple.tupleExact _) (Yds (Yab ⟨_,rfl,Yab h⟩) j)
  | exact Yaa (m:=Builtin.Tuple.tupleExact _) (Yds (Yaa (Yab (Yab ⟨_,rfl,Yab h⟩))) j)
  | exact Yaa (Yaa (m:=Builtin.Tuple.tupleExact _) (Yds (Yab (Yab ⟨_,rfl,Yab h⟩)) j))
  | exact Yaa (Yaa (m:=Builtin.Tuple.tupleExact _) (Yds (Yab ⟨_,rfl,Yab h⟩) j))
end
end HT
namespace L2
open PySem PySem.Spec PyProof.Rows
noncomputable abbrev TO:=St->Hp->(Option Int->Hp->Prop)->Prop
noncomputable def PO (X:Cx)(e:Option Expr)(t:TO):Prop:=
 ∀(qQ:List (AD×Obj))(s:SS)(σ:St)(H:Hp)(Q:Option Int->Hp->Prop),Inv X qQ σ H s->t σ H Q ->
  wpAny (model X.prog X.w) X.A (evalPart e X.env) (λu s'=>∃o H',Inv X qQ σ H' s'/\IsPart u o/\Q o H') X.xe s
noncomputable def Xf:TO:=λ_ H Q=>Q none H
noncomputable def Zff (t:TE):TO:=λσ H Q=>t σ H λx H1=>∃i,x=.int i/\Q (some i) H1
theorem Oa :∀{us:LW},Vals (ns.map V.int) us->IntsAre us ns:=by
 induction ns with
 | nil=>intro us r;rw [List.map_nil] at r;cases r;exact .nil
 | cons n ns ih=>
  intro us r;rw [Yaq] at r;cases r with
  | cons r1 r2=>
   obtain ⟨t,e⟩:=r1;subst e;exact .cons n t (ih r2)
section
variable {X:Cx}{e:Expr}{te:TE}{lo hi:Option Expr}{tl th:TO}{pos p2:Pos}
theorem JS:PO X none Xf:=by
 intro qQ s σ H Q I h;rw [evalPart_none];exact Yab ⟨none,H,I,.none,h⟩
theorem J1 (h:PE X e te):PO X (some e) (Zff te):=by
 intro qQ s σ H Q I j;rw [evalPart_some];refine thG (h qQ s σ H _ I j) λu N x H1 B D L=>?_;obtain ⟨i,rfl,q⟩:=L;obtain ⟨t,rfl⟩:=D;exact ⟨some i,H1,B,.int i t,q⟩
noncomputable def SlR (X:Cx)(r:V->Option Int->Option Int->Hp->VK->Prop):Prop:=
 ∀(qQ:List (AD×Obj))(s:SS)(σ:St)(H:Hp)(x:V)(v vl vu:Aa)(lo hi:Option Int)(sl:AD)(Q:VK),Inv X qQ σ H s->RelV x v->s.heap.IsSliceOf sl vl vu .none->IsPart vl lo->IsPart vu hi->r x lo hi H Q ->
  ∃T id,typeLookup (.type T) "__getitem__" = pure (some (.builtin id))/\s.TypeIs v T/\wpAny (model X.prog X.w) X.A (getItem v (.ref sl)) (EP X qQ σ Q) X.xe s
noncomputable def tSl (r:V->Option Int->Option Int->Hp->VK->Prop)(te:TE)(tl th:TO):TE:=λσ H Q=>te σ H λx H1=>tl σ H1 λl H2=>th σ H2 λu j=>r x l u j Q
theorem JE (N:SlR X r)(O:PE X e te)(U:PO X lo tl)(Y:PO X hi th):PE X (.Subscript e (.Slice lo hi none p2) pos) (tSl r te tl th):=by
 intro qQ s σ H Q I h;refine Subscript_ (thG (O qQ s σ H _ I h) λv Z x H1 I1 r1 q1=>?_);refine wpAny_Slice (thG (U qQ Z σ H1 _ I1 q1) λB s2 l H2 I2 pl q2=>thG (Y qQ s2 σ H2 _ I2 q2) λD j u L I3 pu q3=>?_);rw [evalPart_none];refine Yab ?_;have I4:Inv X qQ σ L { j with heap:=j.heap.push { cls:=.type "slice", data:=.fields #[B,D,.none] } }:=I3.kept (t':=j.toks) λb ob q=>Yae _ q;obtain ⟨T,id,hT,ht,hg⟩:=N qQ { j with heap:=j.heap.push { cls:=.type "slice", data:=.fields #[B,D,.none] } } σ L x v B D l u j.heap.objs.size Q I4 r1 (Heap.IsSliceOf.new ..) pl pu q3;show wpAny (model X.prog X.w) X.A (subscriptTail e (.Slice lo hi none p2) v (.ref j.heap.objs.size)) (EP X qQ σ Q) X.xe { j with heap:=j.heap.push { cls:=.type "slice", data:=.fields #[B,D,.none] } };exact tail_any (ops:=[.ref j.heap.objs.size,v]) ht hT hg (by with_unfolding_all rfl)
noncomputable def VN (xs:List V)(lo hi:Option Int):List V:=(xs.drop (HT.sIx xs.length 0 lo)).take (HT.sIx xs.length xs.length hi-HT.sIx xs.length 0 lo)
theorem UK (xs:List V)(lo hi:Option Int):(VN xs lo hi).length<=xs.length:=by
 unfold VN;rw [Ybo,Yel]
 lia
noncomputable def Zh5 (K:FG):V->Option Int->Option Int->Hp->VK->Prop:=λx lo hi H Q=>∃a xs,x=.ref a/\SqT K H a xs /\
 ¬ (HT.sIx xs.length 0 lo=0/\HT.sIx xs.length xs.length hi=xs.length)/\∀p,H p=none->Q (.ref p) (upd H p (.tup (VN xs lo hi)))
theorem Zc6:SlR X (Zh5 X.K):=by
 intro qQ s σ H x v vl vu lo hi sl Q I L N O U h;obtain ⟨a,xs,rfl,Y,Z,q⟩:=h;cases L;obtain ⟨its,r,B,D⟩:=I.tuple Y;have j:its.toArray.size=xs.length:=by rw [Yau];exact r.length.symm
 refine ⟨"tuple", _,PyProof.Rows.slot_tuple_getitem.lookup,B.typeIs,?_⟩;refine HT.getItem_tuple_cut B N O U (by rw [j];exact Z) ?_ (by rw [j];exact D);rw [j];refine ⟨.ref s.heap.objs.size,_,I.laid (t':=s.toks) (o:=.tup (VN xs lo hi)) (λb ob q=>Yae _ q) (Yaf _) ?_,rfl,q _ (I.hok.fresh (Yaf _))⟩;exact ⟨Ybq (UK xs lo hi) D,_,(r.drop (HT.sIx xs.length 0 lo)).take (HT.sIx xs.length xs.length hi-HT.sIx xs.length 0 lo),IsTup.new _ _⟩
noncomputable def Zhs (K:FG):R2:=λx y H Q=>∃a b xs ys,x=.ref a/\y=.ref b/\SqT K H a xs/\SqT K H b ys/\xs≠[]/\xs.length+ys.length<=sizeLine /\
 (ys=[]->Q (.ref a) H)/\(ys≠[]->∀p,H p=none->Q (.ref p) (upd H p (.tup (xs++ys))))
theorem Vals.nil_iff (r:Vals xs us):us=[]↔xs=[]:=by
 cases r with
 | nil=>simp
 | cons _ _=>simp
theorem ZV:OpR X (binaryOp .Add) (Zhs X.K):=by
 intro qQ s σ H x y v u Q I N O h;obtain ⟨a,b,xs,ys,rfl,rfl,ha,U,Y,D,Z,q2⟩:=h;cases N;cases O;obtain ⟨its,B,p1,_⟩:=I.tuple ha;obtain ⟨L,j,p2,_⟩:=I.tuple U;refine HT.cat_tup p1 p2 (λz=>Y (B.nil_iff.mp z)) (λz=>⟨.ref a,H,I,rfl,Z (j.nil_iff.mp z)⟩) (λz=>?_) (by rw [<-B.length,<-j.length];exact D);refine ⟨.ref s.heap.objs.size,_,I.laid (t':=s.toks) (o:=.tup (xs++ys)) (λb ob q=>Yae _ q) (Yaf _) ?_,rfl,q2 (λw=>z (j.nil_iff.mpr w)) _ (I.hok.fresh (Yaf _))⟩;exact ⟨by rw [Yak];exact D,_,B.append j,IsTup.new _ _⟩
end
noncomputable def ixN (n:Nat)(i:Int):Option Nat:=if 0<=i then (if i<n then some i.toNat else none) else if -(n:Int)<=i then some (i+n).toNat else none
noncomputable def atI {α:Type}(xs:List α)(i:Int):Option α:=(ixN xs.length i).bind λj=>xs[j]?
theorem ZdM (h:ixN n i=some j):seqIndex? i n=some j/\j<n/\-(n:Int)<=i/\i<n:=by
 unfold ixN at h;by_cases h0:0<=i
 ·rw [if_pos h0] at h;by_cases h1:i<n
  ·rw [if_pos h1] at h;have e:i.toNat=j:=Ybl h;exact ⟨by rw [seqIndex_of h0 h1,e],by lia,by lia,h1⟩
  ·rw [if_neg h1] at h;cases h
 ·rw [if_neg h0] at h;by_cases h1:-(n:Int)<=i
  ·rw [if_pos h1] at h;have e:(i+n).toNat=j:=Ybl h;exact ⟨by rw [seqIndex_neg (by lia) h1,e],by lia,h1,by lia⟩
  ·rw [if_neg h1] at h;cases h
theorem ZW {α:Type}{xs:List α}{v:α}(h:atI xs i=some v):∃j,seqIndex? i xs.length=some j/\xs[j]?=some v/\j<xs.length/\-(xs.length:Int)<=i/\i<xs.length:=by
 unfold atI at h;cases e:ixN xs.length i with
 | none=>rw [e] at h;cases h
 | some j=>
  rw [e] at h;obtain ⟨h1,h2,q,B⟩:=ZdM e;exact ⟨j,h1,h,h2,q,B⟩
theorem GC {α:Type}{xs:List α}{j:Nat}{v:α}(h:xs[j]?=some v):atI xs (j:Int)=some v:=by
 have q:j<xs.length:=(Yao.mp h).1;have e:ixN xs.length (j:Int)=some j:=by
  unfold ixN;rw [if_pos (by lia),if_pos (by lia)];simp
 unfold atI;rw [e];exact h
noncomputable def ZX (b:Expr):Prop:=∀o i,subscripted b false o i=operate [o,i] (getItem o i)
noncomputable def IxR (X:Cx)(r:R2):Prop:=
 ∀(value j:Expr)(qQ:List (AD×Obj))(s:SS)(σ:St)(H:Hp)(x y:V)(v u:Aa)(Q:VK),Inv X qQ σ H s->RelV x v->RelV y u->r x y H Q ->
  subscripted j false v u=operate [v,u] (getItem v u)->wpAny (model X.prog X.w) X.A (subscriptTail value j v u) (EP X qQ σ Q) X.xe s
noncomputable def MtR (X:Cx)(id:String)(r:V->List V->Hp->VK->Prop):Prop:=
 ∀(qQ:List (AD×Obj))(s:SS)(σ:St)(H:Hp)(x:V)(xs:List V)(v:Aa)(us:LW)(Q:VK),Inv X qQ σ H s->RelV x v->Vals xs us->r x xs H Q ->
  wpAny (model X.prog X.w) X.A (call (.builtin id) (v::us)) (EP X qQ σ Q) X.xe s
section
variable {X:Cx}{a b:Expr}{ta tb:TE}{pos:Pos}
theorem Zht (j:IxR X r)(ha:PE X a ta)(B:PE X b tb)(D:ZX b):PE X (.Subscript a b pos) (tOp r ta tb):=by
 intro qQ s σ H Q I h;exact Subscript_ (Zhk ha B I h λv u L x y H2 N O U q=>j a b qQ L σ H2 x y v u Q N O U q (D _ _))
noncomputable def Zhu (K:FG):R2:=λx y H Q=>∃p xs i v,x=.ref p/\y=.int i/\SqL K H p xs/\atI xs i=some v/\Q v H
noncomputable def Zh6 (K:FG):R2:=λx y H Q=>∃p xs i v,x=.ref p/\y=.int i/\SqT K H p xs/\atI xs i=some v/\Q v H
theorem ZdN:IxR X (Zhu X.K):=by
 intro value B qQ s σ H x y v u Q I Y Z h O;obtain ⟨p,xs,i,z,rfl,rfl,hq,he,q⟩:=h;cases Y;obtain ⟨t,rfl⟩:=Z;obtain ⟨its,r,D,hz⟩:=I.list hq;obtain ⟨j,h1,h2,h3,h4,h5⟩:=ZW he;obtain ⟨w,U,L⟩:=r.get h2;have hl:=r.length;have hn:=XN;have fin:EP X qQ σ Q w s:=⟨z,H,I,L,q⟩;by_cases h0:0<=i
 ·have N:i.toNat=j:=by
   rw [seqIndex_of h0 h5] at h1;exact Ybl h1
  exact item_listR D.isList h0 (by lia) (by rw [N];simpa using U) fin O
 ·have N:(i+(its.toArray.size:Int)).toNat=j:=by
   rw [seqIndex_neg (by lia) h4] at h1;rw [Yau,<-hl];exact Ybl h1
  exact subscriptTail_builtinR (x:=w) D.isList.typeIs slot_list_getitem.lookup
   (wpAny_getItem_list_neg (Q:=λr s'=>r=w/\EP X qQ σ Q r s') D.isList (by lia) (by rw [Yau] <;> lia) (by lia) (by rw [N];simpa using U) ⟨rfl,fin⟩) O
theorem Zfg:IxR X (Zh6 X.K):=by
 intro value B qQ s σ H x y v u Q I N O h U;obtain ⟨p,xs,i,z,rfl,rfl,Y,Z,q⟩:=h;cases N;obtain ⟨t,rfl⟩:=O;obtain ⟨its,r,L,hz⟩:=I.tuple Y;obtain ⟨j,h1,h2,h3,h4,h5⟩:=ZW Z;obtain ⟨w,ew,D⟩:=r.get h2;have hl:=r.length;have hn:=XN;have fin:EP X qQ σ Q w s:=⟨z,H,I,D,q⟩;exact subscriptTail_builtinR (x:=w) L.typeIs slot_tuple_getitem.lookup
  (getItem_tuple (j:=j) (Q:=λr s'=>r=w/\EP X qQ σ Q r s') L (by lia) (by lia) (by rw [Yau,<-hl];exact h1) (by simpa using ew) ⟨rfl,fin⟩) U
theorem WE (lo hi:Option Int)(n:Nat):(sliceBounds lo hi none n).1=((HT.sIx n 0 lo:Nat):Int)/\(sliceBounds lo hi none n).2.1=((HT.sIx n n hi:Nat):Int)/\(sliceBounds lo hi none n).2.2=1:=by
 refine ⟨?_,?_,rfl⟩
 ·cases lo with
  | none=>simp [sliceBounds,HT.sIx]
  | some i=>
   simp only [sliceBounds,HT.sIx,Option.getD_none,show (1:Int) > 0 by decide,if_true];by_cases h:i<0
   ·simp only [h,if_true] <;> lia
   ·simp only [h,Ycy] <;> lia
 ·cases hi with
  | none=>simp [sliceBounds,HT.sIx]
  | some i=>
   simp only [sliceBounds,HT.sIx,Option.getD_none,show (1:Int) > 0 by decide,if_true];by_cases h:i<0
   ·simp only [h,if_true] <;> lia
   ·simp only [h,Ycy] <;> lia
theorem VO (its:LW)(lo hi:Option Int):slicePick its.toArray lo hi none=((its.drop (HT.sIx its.length 0 lo)).take (HT.sIx its.length its.length hi-HT.sIx its.length 0 lo)).toArray:=by
 obtain ⟨h1,h2,j⟩:=WE lo hi its.toArray.size;unfold slicePick;rw [h1,h2,j];simp only [sliceRange_one,pick_run,Yau] <;> rfl
noncomputable def Zhv (K:FG):V->Option Int->Option Int->Hp->VK->Prop:=λx lo hi H Q=>∃a xs,x=.ref a/\SqL K H a xs/\∀p,H p=none->Q (.ref p) (upd H p (.lst (VN xs lo hi)))
theorem ZdO:SlR X (Zhv X.K):=by
 intro qQ s σ H x v Z vu lo hi sl Q I B D L N h;obtain ⟨a,xs,rfl,O,q⟩:=h;cases B;obtain ⟨its,r,j,U⟩:=I.list O;have Y:=r.length;refine ⟨"list", _,slot_list_getitem.lookup,j.isList.typeIs,?_⟩;refine wpAny_getItem_list_slice j.isList D L N .none (by simp) ?_ (by rw [Yau] <;> lia);rw [VO,<-Y];refine ⟨.ref s.heap.objs.size,_,I.laid (t':=s.toks) (o:=.lst (VN xs lo hi)) (λb ob q=>Yae _ q) (Yaf _) ?_,rfl,q _ (I.hok.fresh (Yaf _))⟩;exact ⟨Ybq (UK xs lo hi) U,_,0,(r.drop (HT.sIx xs.length 0 lo)).take (HT.sIx xs.length xs.length hi-HT.sIx xs.length 0 lo),Yaw _ rfl⟩
theorem WF:JY X (.builtin "len") (λxs H Q=>∃p ys,xs=[.ref p]/\(SqL X.K H p ys\/SqT X.K H p ys)/\Q (.int ys.length) H):=by
 intro qQ s σ H xs us Q I r h;obtain ⟨p,ys,rfl,j,q⟩:=h;obtain ⟨u,rfl,L⟩:=Zfb r;cases L;have O:=XN;rcases j with j | j
 ·obtain ⟨its,r',B,N⟩:=I.list j;have D:=r'.length;exact Calls.call_len_list B.isList (by simp only [Yau] <;> lia) ⟨.int ys.length,H,I.tok _,⟨s.toks+1,by rw [Yau,D]⟩,q⟩
 ·obtain ⟨its,r',B,N⟩:=I.tuple j;have D:=r'.length;exact len_tuple B (by simp only [Yau] <;> lia) ⟨.int ys.length,H,I.tok _,⟨s.toks+1,by rw [Yau,D]⟩,q⟩
theorem VP:JY X (.type "tuple") (λxs H Q=>∃p ys,xs=[.ref p]/\((SqL X.K H p ys/\∀l,H l=none->Q (.ref l) (upd H l (.tup ys)))\/(SqT X.K H p ys/\Q (.ref p) H))):=by
 intro qQ s σ H xs us Q I r h;obtain ⟨p,ys,rfl,h⟩:=h;obtain ⟨u,rfl,N⟩:=Zfb r;cases N;rcases h with ⟨j,q⟩ | ⟨j,q⟩
 ·obtain ⟨its,r',B,D⟩:=I.list j;have U:=r'.length;refine call_tuple_list B.isList (λh' kp=>?_) (by simp only [Yau] <;> lia);have L:Inv X qQ σ H { s with heap:=h' }:=I.kept (t':=s.toks) kp;have O:Inv X qQ σ (upd H h'.objs.size (.tup ys)) { s with heap:=h'.push { cls:=.type "tuple", data:=.seq its.toArray } }:=
   L.laid (t':=s.toks) (λb o e=>Yae _ e) (Yaf _) (show ObjOk X.prog X.w _ _ _ (.tup ys) from ⟨D,its,r',IsTup.new _ _⟩)
  exact ⟨.ref h'.objs.size,_,O,rfl,q _ (L.hok.fresh (Yaf _))⟩
 ·obtain ⟨its,r',B,D⟩:=I.tuple j;exact call_tuple_same B ⟨.ref p,H,I,rfl,q⟩
noncomputable def tyV (K:FG)(T:String)(x:V)(H:Hp):Prop:=match x with
 | .str _=>T = "str"
 | .int _=>T = "int"
 | .ref p=>(T = "list" /\ ∃xs,SqL K H p xs)\/(T = "tuple" /\ ∃o,K.lookup p=some o/\o.cls=.type "tuple" /\ o.dict=none) \/
   (T = "dict" /\ ((∃kvs,H p=some (.dK kvs))\/∃kvs,H p=some (.dT kvs)))\/(T = "set" /\ ∃S n,H p=some (.set S n))
 | _=>False
theorem Zc7 (I:Inv X qQ σ H s)(r:RelV x v)(ty:tyV X.K T x H) :
  s.TypeIs v T/\∀a,v=.ref a->∃D,s.heap.get? a=some D/\D.dict=none:=by
 cases x with
 | str z=>
  obtain ⟨t,rfl⟩:=r;cases (show T = "str" from ty);exact ⟨typeIs_str s z t,λ_ e=>nomatch e⟩
 | int i=>
  obtain ⟨t,rfl⟩:=r;cases (show T = "int" from ty);exact ⟨typeIs_int s i t,λ_ e=>nomatch e⟩
 | ref p=>
  cases r;rcases ty with ⟨rfl,xs,N⟩ | ⟨rfl,o,j,O,q⟩ | ⟨rfl,j⟩ | ⟨rfl,S,n,j⟩
  ·obtain ⟨its,_,L,_⟩:=I.list N;refine ⟨L.isList.typeIs,λa e=>?_⟩;cases e;obtain ⟨o,n,e,c,q,_⟩:=L;exact ⟨o,e,q⟩
  ·refine ⟨⟨o,I.kIn p o j,O⟩,λa e=>?_⟩;cases e;exact ⟨o,I.kIn _ o j,q⟩
  ·have z:∃o,s.heap.get? p=some o/\o.ExactDict:=by
    rcases j with ⟨kvs,j⟩ | ⟨kvs,j⟩
    ·obtain ⟨_,_,_,_,o,_,_,e,ex,_⟩:=I.hok p _ j;exact ⟨o,e,ex⟩
    ·obtain ⟨_,_,_,_,o,_,_,e,ex,_⟩:=I.hok p _ j;exact ⟨o,e,ex⟩
   obtain ⟨o,e,ex⟩:=z;refine ⟨⟨o,e,ex.1⟩,λa B=>?_⟩;cases B;exact ⟨o,e,ex.2.1⟩
  ·obtain ⟨o,_,_,_,e,ex,_⟩:=I.hok p _ j;refine ⟨⟨o,e,ex.1⟩,λa B=>?_⟩;cases B;exact ⟨o,e,ex.2.1⟩
 | _=>exact False.elim ty
noncomputable def Zit (K:FG)(T:String)(r:V->List V->Hp->VK->Prop)(to:TE):TE:=λσ H Q=>to σ H λx H1=>tyV K T x H1/\r x [] H1 Q
noncomputable def tBM (K:FG)(T:String)(r:V->List V->Hp->VK->Prop)(to:TE)(t:TA):TE:=λσ H Q=>to σ H λx H1=>tyV K T x H1/\t σ H1 λxs H2=>r x xs H2 Q
variable {o e:Expr}{es:List Expr}{to:TE}{t:TA}{name:Str}{apos qG:Pos}{T id:String}{r:V->List V->Hp->VK->Prop}
theorem Zfh (O:PlainAttrs T)(B:Slot T name id)(D:typeOf (.builtin id)=pure (.type "method_descriptor"))(U:MtR X id r)(Y:PE X o to)(j:attributeBase o name X.env (eval o X.env)=eval o X.env:=by rfl)(q:(apos.endLine == qG.line)=true:=by rfl):PE X (.Call (.Attribute o name apos) [] [] qG) (Zit X.K T r to):=by
 intro qQ s σ H Q I h;refine wpAny_Call_method0_late j q (thG (Y qQ s σ H _ I h) λv Z x H1 L N ⟨ty,q1⟩=>?_);obtain ⟨h1,h2⟩:=Zc7 L N ty;exact ⟨T,id,O,B,D,h1,h2,Calls.callWith_builtin rfl (PySem.evalArgs_none (U qQ Z σ H1 x [] v [] Q L N .nil q1))⟩
theorem Zhw (Z:PlainAttrs T)(D:Slot T name id)(N:typeOf (.builtin id)=pure (.type "method_descriptor"))(hm:MtR X id r)(ho:PE X o to)(ha:PA X (e::es) t)(q:attributeBase o name X.env (eval o X.env)=eval o X.env:=by rfl)(L:((backTo qG (starEach (e::es) X.env)).all (λx=>!x.1) && (backToKw qG (keywordEach [] X.env)).all (λx=>x.1.isSome)
   && decide ((e::es).length+([]:List Keyword).length+(if ([]:List Keyword).isEmpty then 0 else 1)<30))=true:=by rfl)(B:(apos.endLine == qG.line)=true:=by rfl)(hs:starEach (e::es) X.env=(false,eval e X.env)::starEach es X.env:=by rfl)(j:(backTo qG (starEach es X.env)).any (·.1)=false:=by rfl) :
  PE X (.Call (.Attribute o name apos) (e::es) [] qG) (tBM X.K T r to t):=by
 intro qQ s σ H Q I h;refine wpAny_Call_method_late q L B rfl (thG (ho qQ s σ H _ I h) λv s1 x H1 O U ⟨ty,q1⟩=>?_);obtain ⟨h1,h2⟩:=Zc7 O U ty;refine ⟨T,id,Z,D,N,h1,h2,?_⟩;have Y:=ha qG qQ s1 σ H1 _ O q1;rw [hs] at Y ⊢;refine Calls.callWith_builtin (by show (false || (backTo qG (starEach es X.env)).any (·.1))=false;rw [j] <;> rfl) (Calls.evalArgs_plain ?_);exact thn Y λus s2 ⟨vs,H2,I2,r2,q2⟩=>hm qQ s2 σ H2 x vs v us Q I2 U r2 q2
end
noncomputable def MtM (X:Cx)(id:String)(r:V->List V->Hp->VK->Prop):Prop:=
 ∀(qQ:List (AD×Obj))(s:SS)(σ:St)(H:Hp)(x:V)(xs:List V)(v:Aa)(us:LW)(Q:VK),Inv X qQ σ H s->RelV x v->Vals xs us->r x xs H Q ->
  wpAny (model X.prog X.w) X.A (call (.builtin id) (v::us)) (EP X qQ σ Q) X.xe s
theorem Vals.one (h:Vals [x] us):∃u,us=[u]/\RelV x u:=by
 cases h with
 | cons r t=>cases t;exact ⟨_,rfl,r⟩
theorem Vals.two (h:Vals [x,y] us):∃u v,us=[u,v]/\RelV x u/\RelV y v:=by
 cases h with
 | cons r t=>obtain ⟨u,rfl,q⟩:=Vals.one t;exact ⟨_,_,rfl,r,q⟩
theorem Vals.zero:∀{us:LW},Vals [] us->us=[]
 | _,.nil=>rfl
theorem Vals.dropLast (h:Vals xs us):Vals xs.dropLast us.dropLast:=by
 induction h with
 | nil=>exact .nil
 | cons r t ih=>
  cases t with
  | nil=>exact .nil
  | cons q t'=>exact .cons r ih
theorem Vals.reverse (h:Vals xs us):Vals xs.reverse us.reverse:=by
 induction h with
 | nil=>exact .nil
 | cons r t ih=>rw [List.reverse_cons,List.reverse_cons];exact Vals.append ih (.cons r .nil)
theorem YW {α:Type}(l:List α):l.eraseIdx (l.length-1)=l.dropLast:=by
 induction l with
 | nil=>rfl
 | cons a r ih=>
  cases r with
  | nil=>rfl
  | cons b r=>
   have e:(a::b::r).length-1=((b::r).length-1)+1:=by
    have h1:(a::b::r).length=r.length+2:=rfl;have h2:(b::r).length=r.length+1:=rfl
    lia
   rw [e,List.eraseIdx_cons_succ,ih]
   all_goals rfl
section
variable {X:Cx}{qQ:List (AD×Obj)}{σ:St}{H:Hp}{s:SS}{l b:AD}{xs ys zs:List V}
theorem Inv.lset {its its':LW}(I:Inv X qQ σ H s)(j:H l=some (.lst xs))(e:s.heap.get? l=some { cls:=.type "list", data:=.seq its.toArray n })(B:f its.toArray=its'.toArray)(D:Vals ys its')(hz:ys.length<=sizeLine) :
  Inv X qQ σ (upd H l (.lst ys)) { s with heap:=s.heap.update l (Obj.mapSeq f),toks:=t' }:=by
 have q:=PySem.IsL.update e f;rw [B] at q;refine I.write (x:=l) (e:=l) (by rw [j];exact trivial) (.inl rfl) (λO u L N=>(Ycn s.heap (Obj.mapSeq f) (Ne.symm L)).trans N) ⟨_,q⟩ ?_;exact ⟨hz,its',_,D,q⟩
theorem Inv.lnew (I:Inv X qQ σ H s)(j:Vals ys its)(hz:ys.length<=sizeLine) :
  Inv X qQ σ (upd H s.heap.objs.size (.lst ys)) { s with heap:=s.heap.push { cls:=.type "list", data:=.seq its.toArray },toks:=t' }:=
 I.laid (λ_ _ q=>Yae _ q) (Yaf _) ⟨hz,its,0,j,Yaw _ rfl⟩
theorem Inv.fresh (I:Inv X qQ σ H s):H s.heap.objs.size=none:=I.hok.fresh (Yaf _)
theorem Inv.lstM (I:Inv X qQ σ H s)(j:H l=some (.lst xs)):xs.length<=sizeLine/\∃(its:LW)(n:Nat),Vals xs its/\xs.length=its.length/\s.heap.get? l=some { cls:=.type "list", data:=.seq its.toArray n }:=by
 obtain ⟨z,its,n,r,e⟩:=I.hok l _ j;exact ⟨z,its,n,r,r.length,e⟩
theorem ZbO (h:n<=sizeLine):Builtin.List.listTooLong n=false:=by
 unfold Builtin.List.listTooLong;exact Ybp (by lia)
end
section
variable {X:Cx}
noncomputable def ZdP:V->List V->Hp->VK->Prop:=λx vs H Q=>∃l xs y,x=.ref l/\vs=[y]/\H l=some (.lst xs)/\xs.length<sizeLine/\Q .non (upd H l (.lst (xs++[y])))
theorem GB:MtM X "list.append" ZdP:=by
 intro qQ s σ H x vs v us Q I B D h;obtain ⟨l,xs,y,rfl,rfl,j,N,q⟩:=h;cases B;obtain ⟨u,rfl,L⟩:=D.one;obtain ⟨z,its,n,r,O,e⟩:=I.lstM j;refine call_meets F.slot_list_append ⟨_,e,rfl⟩ F.entry_list_append (F.args_list_append_2 _ _) (PySem.list_append l its.toArray n u (by rw [Yau];lia)) ⟨e,?_⟩;refine ⟨.non,_,I.lset (its':=its++[u]) j e (by simp) (r.append (.cons L .nil)) ?_,rfl,q⟩;rw [Yak,Ybc]
 lia
noncomputable def Ziu:V->List V->Hp->VK->Prop:=λx vs H Q=>∃l xs y,x=.ref l/\vs=[]/\H l=some (.lst xs)/\xs[xs.length-1]?=some y/\Q y (upd H l (.lst xs.dropLast))
theorem Zfi:MtM X "list.pop" Ziu:=by
 intro qQ s σ H x vs v us Q I L N h;obtain ⟨l,xs,y,rfl,rfl,D,O,q⟩:=h;cases L;have j:=N.zero;subst j;obtain ⟨z,its,n,r,U,e⟩:=I.lstM D;obtain ⟨u,Y,Z⟩:=r.get O;have B:its.toArray[its.toArray.size-1]?=some u:=by
  show its.toArray[its.length-1]?=some u;rw [<-Yax,<-U];exact Y
 refine call_meets F.slot_list_pop ⟨_,e,rfl⟩ F.entry_list_pop (F.args_list_pop_1 _) (MeetsSeq.list_pop_last l its.toArray n u B (by rw [Yau];lia)) ⟨e,?_⟩;refine ⟨y,_,I.lset (its':=its.dropLast) D e ?_ r.dropLast ?_,Z,q⟩
 ·show its.toArray.eraseIdxIfInBounds (its.toArray.size-1)=its.dropLast.toArray;rw [Yau,List.eraseIdxIfInBounds_toArray,YW]
 ·rw [List.length_dropLast]
  lia
noncomputable def Zhx:R2:=λx y H Q=>∃l b xs zs,x=.ref l/\y=.ref b/\H l=some (.lst xs)/\H b=some (.lst zs)/\xs.length+zs.length<=sizeLine/\∀p,H p=none->Q (.ref p) (upd H p (.lst (xs++zs)))
theorem ZY:OpR X (binaryOp .Add) Zhx:=by
 intro qQ s σ H x y v u Q I B D h;obtain ⟨l,b,xs,zs,rfl,rfl,L,N,hz,q⟩:=h;cases B;cases D;obtain ⟨z,its,n,r,hl,e⟩:=I.lstM L;obtain ⟨z2,j,n2,O,U,Y⟩:=I.lstM N;refine PySem.P.add_list e Y ?_ (by rw [Yau,Yau];lia);have Z:its.toArray++j.toArray=(its++j).toArray:=by simp
 rw [Z];exact ⟨.ref _,_,I.lnew (t':=s.toks) (r.append O) (by rw [Yak];lia),rfl,q _ I.fresh⟩
end
end L2
namespace Att
open PySem PySem.W PySem.Calls PyProof.Rows
theorem UL :∀(ns:LI)(vs:LW),WellAll P h vs (ns.map WData.int)->IntsAre vs ns:=by
 intro ns
 induction ns with
 | nil=>
  intro vs w;rw [List.map_nil] at w;cases w;exact .nil
 | cons n ns ih=>
  intro vs w;rw [Yaq] at w;cases w with
  | cons a b=>
   cases a;exact .cons _ _ (ih _ b)
theorem ZZ {l:OpenLaw}(U:l.most=some n)(j:l.row.toRowW.claim.pre args=true)(L:WellAll P h vals args) :
  ∃a vs ns,vals=[Value.ref a]/\args=[WData.list (ns.map WData.int)]/\h.get? a=some { cls:=.type "list", data:=.seq vs.toArray }/\IntsAre vs ns/\ns.length<=n:=by
 have N:WShape.hasAll [] args [.list .int]=true:=(pre_splitW j).1;have O:l.pre.holds [] { args:=args }=true:=(pre_splitW j).2;obtain ⟨d,r,rfl,h1,h2⟩:=hasAllW_cons N;obtain rfl:=hasAllW_nil h2;obtain ⟨xs,rfl,Y⟩:=hasW_list h1;obtain ⟨ns,rfl⟩:=items_int Y;have Z:ns.length<=n:=by
  unfold OpenLaw.pre at O;have B:(WTm.not (.lt (.lit (.int (n:Int))) (.len (.arg 0)))).holds [] { args:=[.list (ns.map .int)] }=true:=by
   have B:=(holds_andW O).1;rw [U] at B;exact B
  have D:=condW_of B (w_not (w_lt w_lit (w_len_list (w_arg rfl))));rw [Yac] at D;refine Nat.le_of_not_lt λq=>?_;have q':(n:Int)<((ns.length:Nat):Int):=by lia
  first
   | (rw [Yay q'] at D;exact absurd D (by decide))
   | (simp at D;lia)
 cases L with
 | cons w1 w2=>
  cases w2;cases w1 with
  | list ho qK=>exact ⟨_,_,ns,rfl,rfl,ho,UL ns _ qK,Z⟩
theorem Z0 (l:OpenLaw)(args:List WData):l.row.toRowW.claim.post args (.bool true) args=true:=
 postW_of (r:=l.row.toRowW) (X:=(true == true))
  (show WShape.has [] (.bool true) .bool=true by first | rfl | decide | simp [WShape.has,WShape.arms,WShape.armsAll])
  (show (WTm.eq .res (.lit (.bool true))).value [] { args:=args,res:=some (.bool true),after:=args }=some (.bool (true == true)) from w_eq_bool (w_res rfl) w_lit) rfl
theorem attach_call {l:OpenLaw}(hn:l.most=some n)(N:d.params.defaults=[])(call:∀(w:Ab)(s₀ s₁:SS)(mg mb:Str->Option Aa)(fa:AD)(o:Obj)(pm cd doc:Aa)(a:AD)(vs:LW)(ns:LI),
   Ground q j [] XP w s₀ mg mb s₁.heap->YP w s₁.heap ->
   s₁.heap.get? fa=some o->o.data=.func (docDef d.name d.params d.body d.scope pm cd doc)->s₁.heap.CodeRec cd d.name->mg d.name=some (.ref fa) ->
   s₁.heap.get? a=some { cls:=.type "list", data:=.seq vs.toArray }->IntsAre vs ns->ns.length<=n->s₁.gens=#[] ->
   codeAny (model l.prog w) callerA (.call (.ref fa) ⟨[.ref a],[]⟩) (λr s'=>r=.ok (.ret (.bool true))/\OldK s₁.heap s'.heap/\s'.os=s₁.os/\AllBare s'.gens) s₁) :
  WalkO q j XP YP l.row.toRowW d [] (λf vs=>PySem.call f vs):=by
 intro w s₀ s₁ mg mb G Y fa o pm cd doc dV kV ho hd O hD U hg aa ab as D ac ad Z ae;obtain rfl:dV=.none:=Dflts.none hD N;obtain rfl:kV=.none:=Dflts.noKw hD;obtain ⟨a,vs,ns,rfl,rfl,L,B,qV⟩:=ZZ hn D Z;refine enter_call (codeAny_mono (call w s₀ s₁ mg mb fa o pm cd doc a vs ns G Y ho (fd_plain hd) O U L B qV hg) λr s' hq=>?_);obtain ⟨rfl,h2,h3,h4⟩:=hq;exact ⟨.inl ⟨.bool true,.bool true,[],rfl,λ_=>rfl,.bool true,Z0 l _,λ_=>⟨List.Pairwise.nil,λ_ hm=>(nomatch hm)⟩⟩,h2,h3,h4⟩
end Att
namespace L2
open PySem PySem.Spec PyProof.Rows
theorem UM:∀{vs:LW}{ns:LI},IntsAre vs ns->Vals (ns.map V.int) vs
 | _,_,.nil=>.nil
 | _,_,.cons n t h=>.cons ⟨t,rfl⟩ (UM h)
noncomputable def Z1 (s:Stmt)(j:Nat):Stmt:=match s with
 | .ClassDef _ _ _ body _ _ _ _ _ _ _=>body.getD j (.Pass ⟨0,0,0,0⟩)
 | _=>.Pass ⟨0,0,0,0⟩
noncomputable def Jj (s:Stmt):Arguments:=match s with
 | .FunctionDef _ a _ _ _ _ _ _ _ _=>a
 | _=>{ posonlyargs:=[],args:=[],vararg:=none,kwonlyargs:=[],kw_defaults:=[],kwarg:=none,defaults:=[] }
noncomputable def GR (s:Stmt):List Stmt:=match s with
 | .FunctionDef _ _ b _ _ _ _ _ _ _=>b
 | _=>[]
noncomputable def Gf (s:Stmt):Scope:=match s with
 | .FunctionDef _ _ _ _ _ _ sc _ _ _=>sc
 | _=>{ kind:=.function,names:=[],isGenerator:=false,isCoroutine:=false }
noncomputable abbrev CX0:CXT:=λ_ _ _ _ _ _=>False
noncomputable abbrev E0:XK:=λ_ _ _=>False
theorem Gu :Oo CX0 X E0:=λ_ _ _ _ _ _ _ h=>h.elim
structure Fun (K:FG)(x qual:Str)(st:Stmt)(f:AD)(fd:FuncData):Prop where
 ex:∃(oc:Aa)(od:Option AD)(kV doc pm:Aa)(an:Option AD)(cdv ct:Aa)(osl:Array (Option Aa)),
  fd=W.fnOf x qual (Jj st) (GR st) (Gf st) .none kV doc pm an cdv ct/\K.lookup f=some ⟨oc,od,.func fd,osl⟩/\W.codeIn K cdv qual=true
 kp:W.keepIn K (.ref f)=true
section
variable {P:PP}{w:Ab}{K:FG}{mg:Str->Option Aa}{base:Heap}
theorem Fun.ok {st:Stmt}(F:Fun K x qual st f fd)(S:Gn N ps (Gf st))(len:∀vs H Q E,sp vs H Q E->vs.length=ps.length)(L:∀(j:Aa)(A:Around)(outer:List Env)(s:SS)(H:Hp)(vs:List V)(Q:VK)(E:XK),Room k (A.deeper (envOfC qual (Gf st) s.heap.objs.size f j))->sp vs H Q E ->
   ∃t,PSs (YT CX0 P w K mg base N qual (Gf st) f j A outer s H E).nox (GR st) t/\t { nx:=λ_ H'=>Q .non H',rt:=Q } (start N vs) H):GE P w K mg base CX0 (k+1) f fd ps sp:=by
 obtain ⟨oc,od,kV,O,pm,an,j,ct,U,rfl,Y,B⟩:=F.ex;refine ZS Y B S len λA outer s H vs Q E Z D=>?_;obtain ⟨t,h,q⟩:=L j A outer s H vs Q E Z D;exact ⟨t,h.nox,q⟩
theorem Fun.binds {st:Stmt}(F:Fun K x qual st f fd)(h:∀(kV j q:Aa)(an:Option AD)(cdv ct:Aa)(us:LW),us.length=ps.length->bindArgs (W.fnOf x qual (Jj st) (GR st) (Gf st) .none kV j q an cdv ct) ⟨us,[]⟩=pure (ps.zip us)):Binds K fd ps []:=by
 obtain ⟨L,N,kV,j,q,an,cdv,ct,B,rfl,O,D⟩:=F.ex;exact .all (h kV j q an cdv ct)
theorem Z2 {st:Stmt}{kV q pm j ct:Aa}(l:K.lookup f=some ⟨L,N,.func (W.fnOf x qual (Jj st) (GR st) (Gf st) .none kV q pm D j ct),B⟩)(c:W.codeIn K j qual=true)(k:W.keepIn K (.ref f)=true):Fun K x qual st f (W.fnOf x qual (Jj st) (GR st) (Gf st) .none kV q pm D j ct):=⟨⟨L,N,kV,q,pm,D,j,ct,B,rfl,l,c⟩,k⟩
end
section
variable {X:Cx}
theorem pv (i:Nat)(q:X.N[i]?=some x:=by rfl)(B:Vis X.env.scope x:=by first | exact Or.inl rfl | exact Or.inr (Or.inl rfl) | exact Or.inr (Or.inr rfl))(D:(x == ("__debug__" : Str))=false:=by decide)(j:(x == ("__classdict__" : Str))=false:=by decide):PE X (.Name x pos) (Zt i):=Ze1 q B D j
end
theorem OA {A B:Prop}(h:B):if false=true then A else B:=by
 rw [if_neg Yap];exact h
theorem Ob {A B:Prop}(h:A):if true=true then A else B:=by
 rw [if_pos rfl];exact h
theorem O7 {c A B:Prop}[Decidable c](h1:c->A)(h2:¬ c->B):if c then A else B:=by
 by_cases h:c
 ·rw [if_pos h];exact h1 h
 ·rw [if_neg h];exact h2 h
noncomputable def Same (H H':Hp):Prop:=∀b o,H b=some o->H' b=some o
theorem Same.refl (H:Hp):Same H H:=λ_ _ h=>h
theorem Same.trans (a:Same H H1)(b:Same H1 H2):Same H H2:=λc o h=>b c o (a c o h)
theorem Same.free (e:Same H H')(h:H' l=Option.none):H l=Option.none:=by
 cases q:H l with
 | none=>rfl
 | some o=>
  rw [e l o q] at h;cases h
theorem Same.seq {K:FG}(e:Same H H')(h:SqL K H a xs):SqL K H' a xs:=by
 rcases h with (h | ⟨o,h⟩) | h
 ·exact .inl (.inl (e _ _ h))
 ·exact .inl (.inr ⟨o,e _ _ h⟩)
 ·exact .inr h
section
variable {prog:PP}{w:Ab}{A:Around}{R:Result->SS->Prop}{s:SS}
theorem WG (I:Nat->SS->Prop)(q:∀n s,I n s->wpAny (model prog w) A (pyNext D) (λr L=>match r with
   | none=>R (.ok .next) L
   | some v=>wpAny (model prog w) A (letOwnedTupleGo qU D v) (λ_ B=>wpAny (model prog w) A (assign qU env v) (λ_ U=>
     wpAny (model prog w) A (forIn ifs true λc r=>if r=true then do let ok <- isTrue c env (eval c env);pure (ForInStep.yield ok) else pure (ForInStep.yield r)) (λok N=>
      if ok=true then wpAny (model prog w) A (eval elt env) (λx Y=>
       wpAny (model prog w) A (call (.builtin "list.append") [acc,x]) (λ_ Z=>∃m,m<n/\I m Z) (λ_ _=>False) Y) (λ_ _=>False) N
      else ∃m,m<n/\I m N) (λ_ _=>False) U) (λ_ _=>False) B) (λ_ _=>False) L) (λ_ _=>False) s)(n:Nat)(h:I n s) :
  codeAny (model prog w) A (.compLoop (.ListComp elt [⟨qU,iter,ifs,0⟩] scope pos) 0 D acc env) R s:=by
 have j:∀{E:Aa->SS->Prop},∀(x:Aa)(s:SS),(λ(_:Aa) (_:SS)=>False) x s->E x s:=λ_ _ z=>False.elim z;refine codeAny_loop rfl I (λn s hI=>?_) n h;show wpAny _ A ((compTurn (.ListComp elt [⟨qU,iter,ifs,0⟩] scope pos) 0 D acc env).onRaise (λx=>do noteFrame x env;theTreesLotGoes x)) _ _ s;refine wpAny_noted ?_;rw [compTurn_list];refine Yaa (wpAny_standAt (Yaa (Ybr (q n s hI) (λr L h1=>?_) j)));cases r with
 | none=>exact Yab h1
 | some v=>
  refine Yaa (Ybr h1 (λ_ B O=>?_) j);refine Yaa (Ybr O (λ_ U h2=>Yaa (Ybr h2 (λok N h3=>?_) j)) j);cases ok with
  | false=>exact Yab ⟨rfl,h3⟩
  | true=>
   exact Yaa (Yaa (Ybr h3 (λx Y h4=>Yaa (Ybr h4 (λ_ Z h5=>Yab (Yab ⟨rfl,h5⟩)) j)) j))
end
noncomputable def Cx.comp (X:Cx)(scope:Scope)(cl:List (Str×AD))(N:List Str)(C:AD)(s:SS)(H:Hp)(fp:List AD):Cx:=
 { X with N:=N,s₀:=s,H₀:=H,env:=compEnvC scope cl C X.env,outer:=X.stack,ex:=fp,fn:=λ_=>false,pn:=[],xe:=λ_ _=>False }
noncomputable def Zfj (X:Cx)(ifs:List Expr)(t:TT):Prop:=
 ∀(qQ:List (AD×Obj))(s:SS)(σ:St)(H:Hp)(Q:Bool->Hp->Prop),Inv X qQ σ H s->t σ H Q ->
  wpAny (model X.prog X.w) X.A (forIn ifs true λc r=>if r=true then do let ok <- isTrue c X.env (eval c X.env);pure (ForInStep.yield ok) else pure (ForInStep.yield r)) (TP X qQ σ Q) X.xe s
noncomputable def XQ:TT:=λ_ H Q=>Q true H
theorem Gy :Zfj X [] XQ:=λ_ _ _ H _ I h=>wpAny_tests_nil ⟨H,I,h⟩
theorem Uv (h:PT X c t):Zfj X [c] t:=λqQ s σ H Q I j=>wpAny_tests_one (h qQ s σ H Q I j)
structure Jm (X:Cx)(scope:Scope)(cl:List (Str×AD))(own:List Str)(fr:List (Str×Nat)):Prop where
 clos:closureFor scope X.env=pure cl
 nocell:∀y∈scope.names,y.2≠.cell
 kind:scope.kind=.function
 names:∀y∈scope.names,y.2=.local->scope.names.lookup y.1=some .local
 cls:∀y c,cl.lookup y=some c->X.env.cells.lookup y=some c
 has:∀y,((relabel scope X.env).names.lookup y=some .cell\/(relabel scope X.env).names.lookup y=some .free)->∃c,cl.lookup y=some c
 free:∀p∈fr,X.N[p.2]?=some p.1/\(X.env.kindOf p.1=some .cell\/X.env.kindOf p.1=some .free)/\((relabel scope X.env).names.lookup p.1=some .cell\/(relabel scope X.env).names.lookup p.1=some .free)
noncomputable def JW (own:List Str)(fr:List (Str×Nat))(σ:St):St:=own.map (λ_=>none)++fr.map λp=>(σ[p.2]?).join
noncomputable def GQ:St->St->Prop
 | [],[]=>True
 | none::r,_::r'=>GQ r r'
 | some v::r,some v'::r'=>v=v'/\GQ r r'
 | _,_=>False
theorem Oc:∀{a b:St},GQ a b->∀(i:Nat)(v:V),a[i]?=some (some v)->b[i]?=some (some v)
 | [],[],_,i,v,h=>by simp at h
 | [],_::_,z,_,_,_=>z.elim
 | none::r,[],z,_,_,_=>z.elim
 | some _::r,[],z,_,_,_=>z.elim
 | some _::r,none::_,z,_,_,_=>z.elim
 | none::r,_::r',z,0,v,h=>by simp at h
 | none::r,_::r',z,i+1,v,h=>by
  have:=Oc (a:=r) (b:=r') z i v (by simpa using h);simpa using this
 | some x::r,some x'::r',z,0,v,h=>by
  obtain ⟨e,_⟩:=z;subst e;simpa using h
 | some x::r,some x'::r',z,i+1,v,h=>by
  have:=Oc (a:=r) (b:=r') z.2 i v (by simpa using h);simpa using this
noncomputable def Jv (J:It)(D:AD)(g:TG)(tc:TT)(te:TE)(σ0:St)(W:Nat->Nat->List V->Hp->Prop)(R:Hp->Prop):Prop:=
 ∀i m ys H2,W i m ys H2->(J.stop i H2/\R H2)\/(J.go i H2/\∃N:List V->Hp->Prop,(∀ys' H',N ys' H'->∃q,q<m/\W (i+1) q ys' H')/\∀x B,J.yld i H2 x B->g x σ0 B λj U=>GQ σ0 j/\tc j U λb L=>
  if b=true then te j L λy O=>O D=some (.lst ys)/\ys.length<sizeLine/\N (ys++[y]) (upd O D (.lst (ys++[y])))
  else N ys L)
noncomputable def Zfk (wi:TI)(g:TG)(tc:TT)(te:TE)(own:List Str)(fr:List (Str×Nat)):TE:=λσ H Q=>wi σ H λJ H1=>∀D,H1 D=none ->
 ∃W:Nat->Nat->List V->Hp->Prop,(∃m,W 0 m [] (upd H1 D (.lst [])))/\Jv J D g tc te (JW own fr σ) W λH2=>Q (.ref D) H2
section
variable {X:Cx}{qU iter elt:Expr}{ifs:List Expr}{scope:Scope}{cl:List (Str×AD)}{own:List Str}{fr:List (Str×Nat)}{pos:Pos}{wi:TI}{g:TG}{tc:TT}{te:TE}
theorem Inv.sub_pins (I:Inv X qQ σ H s)(h:∀p∈j,p∈qQ):Inv X j σ H s:=I.pins_of λp q=>I.pin p (Yby _ (h p q))
theorem ZdQ (S:Jm X scope cl own fr)(I:Inv X qQ σ H s)(B:∀b∈fp,ZbB X qQ H b)(L:s.heap.objs.size<=C)(D:∀b∈fp,b<s.heap.objs.size) :
  (X.comp scope cl (own++fr.map (·.1)) C s H fp).Ok:=by
 refine ⟨I.ok.mod,?_,I.ok.glob,I.ok.blt,L,λx y c h1 h2=>I.ok.inj x y c (S.cls x c h1) (S.cls y c h2),S.has,λx c z=>absurd z (by simp [Cx.comp]),I.ok.hd,I.ok.frames,.inl rfl,
  λb j=>⟨Yar (Ybk (D b j) L),λx c h=>(B b j).2.2.2.2.1 x c (S.cls x c h)⟩,I.bs,Ybq I.ok.bsz I.sz,λb o e j=>?_,λb j z=>?_,I.stack,I.stkFree⟩
 ·show (relabel scope X.env).kind=.function;exact S.kind
 ·rcases (B b j).2.2.2.1 with z | z
  ·exact I.ok.noex b o e z
  ·exact absurd (Ybk (Yah e) (Ybq I.ok.bsz z)) (Ycm _)
 ·rcases Yam.mp (I.stkSub b z) with q | q
  ·exact (B b j).2.1 q
  ·exact (B b j).2.2.1 q
theorem Vl (own:List Str)(fr:List (Str×Nat))(σ:St):(JW own fr σ).length=(own++fr.map (·.1)).length:=by
 unfold JW;simp
theorem Vm {RR:Aa->AD->Result->SS->Prop}{Rf:AD->Hp->Prop}(hc:X.calm=true)(S:Jm X scope cl own fr)(I:Inv X qQ σ H s)(T:ZbH X.prog X.w X.K qU J fp it tn)(st:tn 0 s.heap)(hf:∀b∈fp,ZbB X qQ H b)(hg:∀C s H fp,PG (X.comp scope cl (own++fr.map (·.1)) C s H fp) qU g)(ht:∀C s H fp,Zfj (X.comp scope cl (own++fr.map (·.1)) C s H fp) ifs tc)(he:∀C s H fp,PE (X.comp scope cl (own++fr.map (·.1)) C s H fp) elt te)(hw:∀D,H D=none->∃W:Nat->Nat->List V->Hp->Prop,(∃m,W 0 m [] (upd H D (.lst [])))/\Jv J D g tc te (JW own fr σ) W (Rf D))(aq:∀D C s' H',s.heap.objs.size<=C->C≠D->(∃m,s'.heap.Ns C m)->H' C=none->Un (frs X.stack) fp H H' s.heap s'.heap->HOk X.prog X.w H' s'.heap->AllBare s'.gens->s'.os=s.os->Rf D H'->RR (.ref D) C (.ok .next) s') :
  wpAny (model X.prog X.w) X.A (newList []) (λacc s3=>wpAny (model X.prog X.w) X.A (newFunctionEnv scope X.env.globals cl [] X.env.qual none .none (some X.env)) (λab s4=>
   codeAny (model X.prog X.w) X.A (.compStart (.ListComp elt [⟨qU,iter,ifs,0⟩] scope pos) 0 (.ref it) acc { ab with scope:=relabel scope X.env }) (RR acc ab.locals) s4) E s3) E s:=by
 have ag:∀b∈fp,b<s.heap.objs.size:=λb B=>by
  obtain ⟨o,e,_⟩:=T.obj 0 s.heap st b B;exact Yah e
 have hD:H s.heap.objs.size=none:=I.fresh;obtain ⟨W,⟨m0,w0⟩,ad⟩:=hw s.heap.objs.size hD;have I1:Inv X qQ σ (upd H s.heap.objs.size (.lst [])) { s with heap:=s.heap.push { cls:=.type "list", data:=.seq ([]:LW).toArray },toks:=s.toks }:=I.lnew .nil (Yat _);refine Yds (wpAny_newFunctionEnv S.nocell (by intro y hy;simp at hy) (λh1 L O=>?_) S.kind);dsimp only at L O ⊢;generalize hH2:s.heap.push { cls:=.type "list", dict:=none,data:=.seq ([]:LW).toArray }=H2 at L O ⊢ I1;have a2:H2.objs.size=s.heap.objs.size+1:=by rw [<-hH2,Ybn]
 have U:s.heap.objs.size<=H2.objs.size:=by lia
 have ai:s.heap.objs.size≠H2.objs.size:=by lia
 have aj:∀b o,H2.get? b=some o->h1.get? b=some o:=λb o e=>O.extBut b o (Yar (Yah e)) (Yae _ e);have up:∀b o,s.heap.get? b=some o->h1.get? b=some o:=λb o e=>aj b o (hH2▸Yae _ e);have aa:=ZdQ (C:=H2.objs.size) S I hf U ag;have I0:∀tk,Inv (X.comp scope cl (own++fr.map (·.1)) H2.objs.size s H fp) [] (JW own fr σ) (upd H s.heap.objs.size (.lst [])) { s with heap:=h1,toks:=tk }:=by
  intro tk;have ak:HOk X.prog X.w (upd H s.heap.objs.size (.lst [])) h1:=I1.hok.kept aj;refine ⟨aa,rfl,I.bare,⟨λb o e n _ _=>up b o e,λb o e n _ _=>⟨o.slots,up b o e⟩,λb o e n _=>?_,λb o e _=>⟨o,up b o e⟩,λb xs q=>?_,λb o u q=>?_,λb ps q=>⟨#[],?_⟩⟩,
   ⟨_,L,λi x v e1 e2 e3=>?_⟩,λx c e=>?_,?_,λx c e=>?_,λp hp=>?_,ak,Vl own fr σ⟩
  ·have e':s.heap.get? b=some o:=e;show upd H s.heap.objs.size (.lst []) b=none;rw [Gj (Yar (Yah e'))];exact n
  ·rw [Gj (Gg q hD)];exact q
  ·rw [Gj (Gg q hD)];exact q
  ·have q':H b=some (.tbl ps):=q;rw [Gj (Gg q' hD),q'];simp
  ·-- the free names
   have j:(JW own fr σ)[i]?=some (some v):=e2;have ae:(own++fr.map (·.1))[i]?=some x:=e1;unfold JW at j;by_cases hi:i<own.length
   ·rw [Ycx (by simpa using hi),Yaz] at j;cases q:own[i]? with
    | none=>rw [q] at j;cases j
    | some y=>rw [q] at j;cases j
   ·rw [Ydv (by simpa using hi),Yac,Yaz] at j;rw [Ydv (by lia),Yaz] at ae;cases q:fr[i-own.length]? with
    | none=>rw [q] at j;cases j
    | some p=>
     rw [q] at ae j;have ex:p.1=x:=Ybl ae;have ev:(σ[p.2]?).join=some v:=Ybl j;have ar:σ[p.2]?=some (some v):=by
      cases z:σ[p.2]? with
      | none=>rw [z] at ev;cases ev
      | some o=>rw [z] at ev;cases o with
       | none=>cases ev
       | some v'=>have:v'=v:=Ybl ev;rw [this]
     obtain ⟨f1,f2,f3⟩:=S.free p (Ybf q);subst ex;obtain ⟨m,hn,hl⟩:=I.loc;have as:Vis X.env.scope p.1:=by
      rcases f2 with f2 | f2
      ·exact .inr (.inl f2)
      ·exact .inr (.inr f2)
     obtain ⟨u,ru,lk⟩:=hl p.2 p.1 v f1 ar as;refine ⟨u,ru,?_⟩;rcases lk with ⟨k,_⟩ | ⟨k,c,e,z⟩
     ·rcases f2 with f2 | f2 <;> (rw [f2] at k;cases k)
     ·obtain ⟨c',al⟩:=S.has p.1 f3;have e':=S.cls _ _ al;rw [e] at e';cases e';obtain ⟨oc,ho,hd⟩:=z;exact .inr ⟨f3,c,al,⟨oc,up _ _ ho,hd⟩⟩
  ·obtain ⟨v,oc,ho,hd⟩:=I.cell x c (S.cls x c e);exact ⟨v,oc,up _ _ ho,hd⟩
  ·show upd H s.heap.objs.size (.lst []) H2.objs.size=none;rw [Gj (Ne.symm ai)];exact I.hok.fresh U
  ·obtain ⟨v,z⟩:=I.cell x c (S.cls x c e);show upd H s.heap.objs.size (.lst []) c=none;rw [Gj (Yar z.lt)];exact I.freeC x c (S.cls x c e)
  ·exact absurd (show p∈([]:List (AD×Obj)) from hp) (by simp)
 have au:∀b∈fp,upd H s.heap.objs.size (.lst []) b=none:=λb B=>by rw [Gj (Yar (ag b B))];exact (hf b B).1
 have am:tn 0 h1:=T.keep 0 _ _ st λb B o e=>up b o e;have Y:∀{H':Hp},(∀b∈fp,H' b=none)->∀b∈fp,ZbB (X.comp scope cl (own++fr.map (·.1)) H2.objs.size s H fp) [] H' b:=λhn b B=>
  ⟨hn b B,(aa.exf b B).1,aa.exfs b B,.inl B,(aa.exf b B).2,λp hp=>absurd (show p∈([]:List (AD×Obj)) from hp) (by simp)⟩
 have ac:∀s3:SS,(∃tk,s3={ s with heap:=h1,toks:=tk }) ->
   codeAny (model X.prog X.w) X.A (.compLoop (.ListComp elt [⟨qU,iter,ifs,0⟩] scope pos) 0 (.ref it) (.ref s.heap.objs.size) (compEnvC scope cl H2.objs.size X.env)) (RR (.ref s.heap.objs.size) H2.objs.size) s3:=by
  rintro s3 ⟨tk,rfl⟩;refine WG (λn s'=>∃i ys H',Inv (X.comp scope cl (own++fr.map (·.1)) H2.objs.size s H fp) [] (JW own fr σ) H' s'/\tn i s'.heap/\(∀b∈fp,H' b=none)/\W i n ys H') ?_ m0 ⟨0,[],_,I0 tk,am,au,w0⟩;rintro n s4 ⟨i,ys,H4,I4,an,ao,w4⟩;rcases ad i n ys H4 w4 with ⟨ap,q⟩ | ⟨go,N,hN,step⟩
  ·refine thn (T.done (X.comp scope cl (own++fr.map (·.1)) H2.objs.size s H fp) rfl rfl rfl hc i [] s4 _ H4 _ I4 (Y ao) an ap) λr s5 ⟨hr,I5⟩=>?_;subst hr;exact aq _ _ s5 H4 U (Ne.symm ai) ⟨_,I5.loc.choose_spec.1⟩ I5.free I5.base I5.hok I5.bare I5.os q
  ·refine thn (T.item (X.comp scope cl (own++fr.map (·.1)) H2.objs.size s H fp) rfl rfl rfl hc i [] s4 _ H4 _ I4 (Y ao) an go) λr s5 ⟨u,hr,h5⟩=>?_;subst hr;refine thn h5 λ_ s6 ⟨x,H6,I6,r6,y6,af,av⟩=>?_;have aw:=I6.pinned (Y av) (T.obj _ _ af);refine thn (hg H2.objs.size s H fp _ s6 _ H6 x u _ aw r6 (step x H6 y6)) λ_ s7 ⟨σ7,H7,I7,k7,q7⟩=>?_;refine thT (ht H2.objs.size s H fp _ s7 σ7 H7 _ I7 q7) λok s8 H8 I8 q8=>?_;have Z:∀{s9:SS}{σ9:St}{H9:Hp}{zs:List V},Inv (X.comp scope cl (own++fr.map (·.1)) H2.objs.size s H fp) ([]++Wy fp s6.heap) σ9 H9 s9->(∀(i:Nat) v,(JW own fr σ)[i]?=some (some v)->σ9[i]?=some (some v))->(∃m',m'<n/\W (i+1) m' zs H9) ->
     ∃m,m<n/\∃i ys H',Inv (X.comp scope cl (own++fr.map (·.1)) H2.objs.size s H fp) [] (JW own fr σ) H' s9/\tn i s9.heap/\(∀b∈fp,H' b=none)/\W i m ys H':=by
    intro s9 σ9 H9 zs I9 hσ ⟨m',hm,w9⟩;refine ⟨m',hm,i+1,zs,H9,(I9.sub_pins (λp hp=>absurd (show p∈([]:List (AD×Obj)) from hp) (by simp))).weak ?_ hσ,T.keep _ _ _ af λb B o e=>(I9.pin (b,o) (Yby _ (Yby _ (J8 B e)))).1,λb B=>?_,w9⟩
    ·rw [I9.len];exact Vl own fr σ
    ·obtain ⟨o,e,d⟩:=T.obj _ _ af b B;exact (I9.pin (b,o) (Yby _ (Yby _ (J8 B e)))).2.1
   cases ok with
   | false=>exact (if_neg Yap).mpr (Z I8 (Oc k7) (hN _ _ ((if_neg Yap).mp q8)))
   | true=>
    refine (if_pos rfl).mpr ?_;have ax:=(if_pos rfl).mp q8;refine thG (he H2.objs.size s H fp _ s8 σ7 H8 _ I8 ax) λy s9 yv H9 I9 r9 ⟨ay,hz,q9⟩=>?_;refine thG (GB _ s9 σ7 H9 (.ref s.heap.objs.size) [yv] (.ref s.heap.objs.size) [y] (λ_ H'=>H'=upd H9 s.heap.objs.size (.lst (ys++[yv]))) I9 rfl (.cons r9 .nil) ⟨_,ys,yv,rfl,rfl,ay,hz,rfl⟩) λ_ a3 _ a4 az _ a1=>?_;subst a1;exact Z az (Oc k7) (hN _ _ q9)
 exact codeAny_compStart_list (ac _ ⟨_,rfl⟩) (T.self _ 0 _ _ _ am (ac _ ⟨_,rfl⟩))
theorem Vn (I:Inv X qQ σ H s)(q:∀b∈fp,ZbB X qQ H b)(un:Un (frs X.stack) fp H H' s.heap s'.heap)(D:HOk X.prog X.w H' s'.heap)(j:AllBare s'.gens)(L:s'.os=s.os):Inv X qQ σ H' s':=
 I.call' L un D j λb B=>⟨(q b B).2.2.2.1,(q b B).2.1,(q b B).2.2.2.2.1,(q b B).2.2.2.2.2⟩
theorem XR (I:Inv X qQ σ H s)(q:s.heap.objs.size<=C)(B:H' C=none)(D:Inv X qQ j H' s')(L:Heap.SameBut C s'.heap h') :
  Inv X qQ j H' { s' with heap:=h' }:=by
 obtain ⟨N,O,f2,U,Y,Z⟩:=I.fpOk q B;exact D.turned (t':=s'.toks) (λb o hb e=>(L.2 b hb).trans e) N O U Y Z
theorem Jw (Z:X.calm=true)(S:Jm X scope cl own fr)(hi:PI X qU iter wi)(hg:∀C s H fp,PG (X.comp scope cl (own++fr.map (·.1)) C s H fp) qU g)(ht:∀C s H fp,Zfj (X.comp scope cl (own++fr.map (·.1)) C s H fp) ifs tc)(he:∀C s H fp,PE (X.comp scope cl (own++fr.map (·.1)) C s H fp) elt te)(hs:∀x,foldedSetIterable iter X.env x=pure x:=by intro _;rfl):PE X (.ListComp elt [⟨qU,iter,ifs,0⟩] scope pos) (Zfk wi g tc te own fr):=by
 intro qQ s σ H Q I h;rw [eval_ListComp];refine wpAny_comprehension_free (use:=none) rfl hs S.clos S.kind S.names (thn (hi qQ s σ H _ I h) λv s1 h1=>thn h1 λaa s2 h2=>?_);obtain ⟨it,fp,tn,J,H2,e,B,T,L,Y,hw⟩:=h2;subst e;refine Vm (RR:=λacc C=>compPost (model X.prog X.w) X.A X.xe none (EP X qQ σ Q) acc C) Z S B T L Y hg ht he hw ?_;rintro D C s' H' hC ab ⟨m,hn⟩ N un O j os q;refine ⟨m,hn,λh' U=>⟨.ref D,H',?_,rfl,q⟩⟩;exact XR (C:=C) (σ:=σ) B hC N (Vn B Y un O j os) U
theorem Jx (hN:X.N.Nodup)(U:X.N[i]?=some y)(hx:Loc X.env.scope y)(hc:X.calm=true)(S:Jm X scope cl own fr)(hi:PI X qU iter wi)(hg:∀C s H fp,PG (X.comp scope cl (own++fr.map (·.1)) C s H fp) qU g)(ht:∀C s H fp,Zfj (X.comp scope cl (own++fr.map (·.1)) C s H fp) ifs tc)(he:∀C s H fp,PE (X.comp scope cl (own++fr.map (·.1)) C s H fp) elt te)(hf:X.fn y=true\/X.env.scope.names.lookup y=some .local:=by first | exact .inl rfl | exact .inr rfl | assumption)(Y:swapsWith (.ListComp elt [⟨qU,iter,ifs,0⟩] scope pos) (some (.Name y B)) j.line X.env=pure true:=by rfl)(hs:∀x,foldedSetIterable iter X.env x=pure x:=by intro _;rfl):PS X (.Assign [.Name y B] (.ListComp elt [⟨qU,iter,ifs,0⟩] scope pos) j) (ZgU (Zfk wi g tc te own fr) (Gq i)):=by
 intro qQ s σ H Dn I h;rw [exec_Assign_Name_used _ _ _ _ Y];refine Yaa (wpAny_standAt (Yaa ?_));show wpAny _ X.A (do let _ <- comprehension (.ListComp elt [⟨qU,iter,ifs,0⟩] scope pos) scope X.env _ (newList []) false (eval iter X.env) (some (assign (.Name y B) X.env))) _ _ s;refine Yaa (Ybr (wpAny_comprehension_free (use:=some (assign (.Name y B) X.env)) (Q:=λ_ s'=>SP X qQ Dn .next s') rfl hs S.clos S.kind S.names (thn (hi qQ s σ H _ I h) λv s1 h1=>thn h1 λaf s2 h2=>?_))
  (λ_ s' hq=>Yab (Yab hq)) λ_ _ e=>e)
 obtain ⟨it,fp,tn,J,H2,e,L,T,Z,f2,hw⟩:=h2;subst e;refine Vm (RR:=λacc C=>compPost (model X.prog X.w) X.A X.xe (some (assign (.Name y B) X.env)) (λ_ s'=>SP X qQ Dn .next s') acc C) hc S L T Z f2 hg ht he hw ?_;rintro D C s' H' hC ag ⟨m,hn⟩ aa un ab O os q;have I3:Inv X qQ σ H' s':=Vn L f2 un ab O os;show wpAny _ X.A (assign (.Name y B) X.env (.ref D)) _ _ s';refine wpAny_assign_Name (Ww I3 hN U hx (v:=.ref D) rfl (λs4 I4 ⟨a,ac,ha⟩=>?_) hf);have ad:C≠a:=by
  rcases ha with z | z
  ·rw [z];exact Ydd (Ybk L.lt hC)
  ·obtain ⟨v,q⟩:=L.cell y a z;exact Ydd (Ybk q.lt hC)
 refine ⟨m,hn.sameBut ac ad,λh' ae=>⟨_,H',XR (C:=C) (σ:=σ) L hC aa I4 ae,q⟩⟩
end
noncomputable abbrev Vo (J:It)(D:AD)(g:TG)(tc:TT)(te:TE)(σ0:St)(R:Hp->Prop)(H1:Hp):Prop:=∃W:Nat->Nat->List V->Hp->Prop,(∃m,W 0 m [] (upd H1 D (.lst [])))/\Jv J D g tc te σ0 W R
theorem OE (j:Nat->List V->Hp->Prop)(h0:j 0 [] (upd H1 D (.lst [])))(U:∀i ys H,i<=n->j i ys H->(i<n->J.go i H)/\(i=n->J.stop i H))(Y:∀i ys H x H',i<n->j i ys H->J.yld i H x H'->g x σ0 H' λL Z=>GQ σ0 L/\tc L Z λb N=>if b=true then te L N λy O=>O D=some (.lst ys)/\ys.length<sizeLine/\j (i+1) (ys++[y]) (upd O D (.lst (ys++[y]))) else j (i+1) ys N)(hd:∀ys H,j n ys H->R H):Vo J D g tc te σ0 R H1:=by
 refine ⟨λi m ys H=>m=n-i/\i<=n/\j i ys H,⟨_,rfl,Yat _,h0⟩,?_⟩;rintro i m ys H ⟨rfl,hi,p⟩;have q:=U i ys H hi p;by_cases B:i<n
 ·exact .inr ⟨q.1 B,j (i+1),λys' H' p'=>⟨n-(i+1),by lia,rfl,B,p'⟩,λx H' y=>Y i ys H x H' B p y⟩
 ·have e:i=n:=by lia
  subst e;exact .inl ⟨q.2 rfl,hd ys H p⟩
theorem J2 {K:FG}(j:Nat->List V->Hp->Prop)(h0:j 0 [] (upd H1 D (.lst [])))(q:∀i ys H,i<=xs.length->j i ys H->SqL K H a xs)(O:∀i x ys H,xs[i]?=some x->j i ys H->g x σ0 H λB U=>GQ σ0 B/\tc B U λb L=>if b=true then te B L λy N=>N D=some (.lst ys)/\ys.length<sizeLine/\j (i+1) (ys++[y]) (upd N D (.lst (ys++[y]))) else j (i+1) ys L)(Y:∀ys H,j xs.length ys H->R H):Vo (Itl K a) D g tc te σ0 R H1:=OE j h0 (λi s H hi p=>⟨λz=>⟨xs,xs[i],q i s H hi p,by simp [z]⟩,λe=>⟨xs,q i s H hi p,by lia⟩⟩) (λi s H x H' z p y=>by obtain ⟨rfl,y⟩:=y;exact O i x s _ (y xs (q i s _ (Ycw z) p)) p) Y
theorem O8 {lo:Int}(j:Nat->List V->Hp->Prop)(h0:j 0 [] (upd H1 D (.lst [])))(N:∀i ys H,i<n->j i ys H->g (.int (lo+i)) σ0 H λq O=>GQ σ0 q/\tc q O λb B=>if b=true then te q B λy L=>L D=some (.lst ys)/\ys.length<sizeLine/\j (i+1) (ys++[y]) (upd L D (.lst (ys++[y]))) else j (i+1) ys B)(U:∀ys H,j n ys H->R H):Vo (Itr lo n) D g tc te σ0 R H1:=OE j h0 (λi s H hi p=>⟨id,λe=>Nat.le_of_eq e.symm⟩) (λi s H x H' z p y=>by obtain ⟨rfl,rfl⟩:=y;exact N i s _ z p) U
theorem UN (j:∀y∈scope.names,y.2≠.free)(D:∀y∈scope.names,y.2≠.cell)(L:scope.kind=.function)(N:∀y∈scope.names,y.2=.local->scope.names.lookup y.1=some .local):Jm X scope [] own []:=by
 have q:(relabel scope X.env).names=scope.names:=by
  unfold relabel;dsimp only;refine (List.map_congr_left λp B=>?_).trans (List.map_id _);obtain ⟨n,k⟩:=p;have:(k == NameKind.free)=false:=by
   have:=j _ B;cases k <;> first | rfl | exact absurd rfl this
  simp [this]
 refine ⟨closureFor_none j,D,L,N,λy c h=>by simp at h,λy h=>?_,λp B=>by simp at B⟩;rw [q] at h;rcases h with h | h
 ·exact absurd rfl (D _ (Ydu h))
 ·exact absurd rfl (j _ (Ydu h))
noncomputable def ZbP (a C:AD)(h:Heap):Prop:=∃j vs,h.get? a=some j/\j.cls=.ref C/\j.data=.fields vs
noncomputable def Zh7 (a C:AD):HO:=.ext (ZbP a C)
theorem ObjOk.there (ok:ObjOk P w H h a u):∃v,h.get? a=some v:=by
 cases u with
 | lst xs=>obtain ⟨_,_,_,_,e⟩:=ok;exact ⟨_,e⟩
 | tup xs=>obtain ⟨_,_,_,o,e,_⟩:=ok;exact ⟨_,e⟩
 | dK kvs=>obtain ⟨_,_,_,_,o,_,_,e,_⟩:=ok;exact ⟨_,e⟩
 | dT kvs=>obtain ⟨_,_,_,_,o,_,_,e,_⟩:=ok;exact ⟨_,e⟩
 | set S n=>obtain ⟨o,_,_,_,e,_⟩:=ok;exact ⟨_,e⟩
 | ins C dx fs=>obtain ⟨_,_,_,e,_⟩:=ok;exact ⟨_,e⟩
 | own y=>obtain ⟨_,e⟩:=ok;exact ⟨_,e⟩
 | xd fs=>obtain ⟨_,⟨_,_,_,e,_⟩,_⟩:=ok;exact ⟨_,e⟩
 | rng lo hi=>obtain ⟨_,_,_,e⟩:=ok;exact ⟨_,e⟩
 | frz ob u=>obtain ⟨e,_⟩:=ok;exact ⟨_,e⟩
 | tbl ps=>exact ⟨_,show h.get? a=some _ from ok⟩
 | met f y=>exact ⟨_,show h.get? a=some _ from ok⟩
 | ext φ=>obtain ⟨_,⟨_,e⟩,_⟩:=ok;exact ⟨_,e⟩
noncomputable def Zhy (P:PP)(w:Ab)(outer:List Env)(H H':Hp)(s:SS)(a C:AD)(s':SS):Prop:=
 ∃(t:AD)(B:Heap),s'.os=s.os/\AllBare s'.gens/\Un (frs outer) [] H H' s.heap s'.heap/\HOk P w H' s'.heap/\Heap.FlyingW B outer a (.ref C) (.ref t) s'.heap /\
  (∀b o,s'.heap.get? b=some o->H' b≠none->B.get? b=some o)/\(∀b j o,s.heap.get? b=some j->s'.heap.get? b=some o->b ∉ frs outer->B.get? b=some o)
noncomputable def CXr (P:PP)(w:Ab):CXT:=λj H s E e s'=>∃(a C:AD)(H':Hp),e=.ref a/\Zhy P w j H H' s a C s'/\E (.ref C) none H'
section
variable {X:Cx}{qQ:List (AD×Obj)}{σ:St}{H:Hp}{s:SS}
noncomputable def XS (X:Cx)(E:XK):Prop:=∀(qQ:List (AD×Obj))(σ:St)(H:Hp)(s:SS)(h':Heap)(a C:AD)(vs:LW),Inv X qQ σ H s->Heap.MadeExcOf s.heap h' a (.ref C) vs->E (.ref C) none H->X.xe (.ref a) { s with heap:=h' }
theorem Uj {K:FG}{s:SS}{H:Hp} :
  XS (YT (CXr P w) P w K mg base N qual scope f L A outer s H E) E:=by
 intro qQ σ H1 s1 h' a C vs I hx hE;have ad:=I.ok.frames;have aa:s1.heap.FunFrames base (envOfC qual scope s.heap.objs.size f L::outer):=I.stack;have ae:∀Y∈(envOfC qual scope s.heap.objs.size f L::outer),∀b,Y.frame=some b->b∈frs (envOfC qual scope s.heap.objs.size f L::outer):=λY he b O=>Ydi.mpr ⟨Y,he,O⟩;have j:∀b o,s1.heap.get? b=some o->b ∉ frs (envOfC qual scope s.heap.objs.size f L::outer)->(W.hideAll s1.heap (frs (envOfC qual scope s.heap.objs.size f L::outer))).get? b=some o:=λb o e n=>W.hideAll_get _ e n;refine wpAny_leaves_madeW (base:=W.hideAll s1.heap (frs (envOfC qual scope s.heap.objs.size f L::outer))) ad rfl (λb o q=>W.of_hideAll _ q) (W.funFrames_hide aa ae) hx λh2 t fl tu tn sm=>?_;refine ⟨a,C,H1,rfl,⟨t,_,I.os,I.bare,⟨λb o e n O _=>?_,λb o e n O _=>?_,λb o e n _=>?_,λb o e _=>?_,I.base.tups,I.base.frzs,I.base.tbls⟩,λb u e=>?_,fl,λb o e n=>?_,λb o0 o e0 e nb=>?_⟩,hE⟩
 ·have B:s1.heap.get? b=some o:=I.base.keep b o e n O (by intro z;exact absurd (show b∈([]:List AD) from z) (by simp));refine fl.1 b o (j b o B λz=>?_);rcases Yam.mp (I.stkSub b z) with q | q
  ·exact absurd (Ybk (Yah e) I.ok.above) (by rw [q];exact Ycm _)
  ·exact O q
 ·obtain ⟨sl,B⟩:=I.base.slot b o e n O (by intro z;exact absurd (show b∈([]:List AD) from z) (by simp));have nf:∀vs,o.data≠.fields vs:=by
   obtain ⟨_,o',D,Z⟩:=I.funs.mem (show b∈(outer.filterMap (·.frame)) from O);rw [B] at D;cases D;exact Z
  obtain ⟨ab,U⟩:=sm b { o with slots:=sl } (hx.keeps b _ B) nf;exact ⟨ab,U⟩
 ·exact I.base.free b o e n (by intro z;exact absurd (show b∈([]:List AD) from z) (by simp))
 ·obtain ⟨o1,B⟩:=I.base.there b o e (by intro z;exact absurd (show b∈([]:List AD) from z) (by simp));by_cases O:b∈frs (envOfC qual scope s.heap.objs.size f L::outer)
  ·obtain ⟨_,o',D,Z⟩:=aa.mem O;rw [B] at D;cases D;obtain ⟨ab,U⟩:=sm b o1 (hx.keeps b _ B) Z;exact ⟨_,U⟩
  ·exact ⟨o1,fl.1 b o1 (j b o1 B O)⟩
 ·have trk:∀c v,s1.heap.get? c=some v->H1 c≠none->h2.get? c=some v:=λc v q hc=>fl.1 c v (j c v q λz=>hc (I.stkFree c z));refine (I.hok b u e).stay (λc v hc q=>trk c v q ?_) (λ_ q=>q) λ_ _ q=>q;rcases hc with z | z
  ·rw [z,e];simp
  ·rw [z];simp
 ·cases q':H1 b with
  | none=>exact absurd q' n
  | some u=>
   obtain ⟨v,q⟩:=(I.hok b u q').there;have nb:b ∉ frs (envOfC qual scope s.heap.objs.size f L::outer):=λz=>n (I.stkFree b z);have U:=fl.1 b v (j b v q nb);rw [e] at U;cases U;exact j b _ q nb
 ·obtain ⟨o1,B⟩:=I.base.there b o0 e0 (by intro z;exact absurd (show b∈([]:List AD) from z) (by simp));have ac:b ∉ frs (envOfC qual scope s.heap.objs.size f L::outer):=λz=>by
   rcases Yam.mp (I.stkSub b z) with q | q
   ·exact absurd (Ybk (Yah e0) I.ok.above) (by rw [q];exact Ycm _)
   ·exact nb q
  have U:=fl.1 b o1 (j b o1 B ac);have e':h2.get? b=some o:=e;rw [e'] at U;cases U;exact j b _ B ac
theorem ZbQ {P:PP}{w:Ab}{outer:List Env}{H H':Hp}{s s':SS}{a C t:AD}{B h2:Heap}(un:Un (frs outer) [] H H' s.heap s'.heap)(Y:HOk P w H' s'.heap)(fr:s'.heap.FunFrames B outer)(trk:∀b o,s'.heap.get? b=some o->H' b≠none->B.get? b=some o)(old:∀b o0 o,s.heap.get? b=some o0->s'.heap.get? b=some o->b ∉ frs outer->B.get? b=some o)(st:B.StaysIn h2)(sm:s'.heap.UpToSlots h2) :
  Un (frs outer) [] H H' s.heap h2/\HOk P w H' h2:=by
 refine ⟨⟨λb o e n D O=>st b o (old b o o e (un.keep b o e n D O) D),λb o e n D O=>?_,un.free,λb o e O=>?_,un.tups,un.frzs,un.tbls⟩,λb u e=>?_⟩
 ·obtain ⟨sl,N⟩:=un.slot b o e n D O;obtain ⟨_,o',j,L⟩:=fr.mem D;rw [N] at j;cases j;obtain ⟨U,Z⟩:=sm b _ N L;exact ⟨U,Z⟩
 ·obtain ⟨o1,N⟩:=un.there b o e O;by_cases D:b∈frs outer
  ·obtain ⟨_,o',j,L⟩:=fr.mem D;rw [N] at j;cases j;obtain ⟨U,Z⟩:=sm b _ N L;exact ⟨_,Z⟩
  ·exact ⟨o1,st b o1 (old b o o1 e N D)⟩
 ·refine (Y b u e).stay (λc v hc q=>st c v (trk c v q ?_)) (λ_ q=>q) λ_ _ q=>q;rcases hc with z | z
  ·rw [z,e];simp
  ·rw [z];simp
end
abbrev Zh8:LW:=[.type "ValueError", .type "Exception", .type "BaseException", .type "object"]
abbrev ExcC (K:FG)(C:AD):Prop:=W.excIn K C Zh8 "ValueError.__new__" = true
theorem Xg {K:FG}(Z:K.In h)(ex:ExcC K C):∃q B D,(∃aa ab ac ad ae L af N O j0 j1 j2 j3 j5,
  h.get? C=some (excClassObj aa ab C B ac q ad ae L af N O j0 j1 j2 j3 j5 "ValueError.__new__"))/\h.Ns B D/\D "__init__" = none/\OwnTail h Zh8 q:=by
 have ex':=ex;unfold ExcC W.excIn at ex';split at ex'
 ·rename_i O U Y lk;have ag:=Z _ _ lk;split at ex'
  ·rename_i C' j j0 j1 j2 j3 n' j5 hm hs;rw [Ybz,Ybz,Ybz,Ybz,Ybz,Ybi,Ybi,Ybi] at ex';obtain ⟨⟨⟨⟨⟨z1,z2⟩,z3⟩,z4⟩,z5⟩,z6⟩:=ex';have ah:U.hasDel=false:=by simpa using z3
   subst z1 z2;cases U with
   | mk a1 a2 a3 a4 a5 a6 a7 a8 a9 a10 a11=>
    have ai:a3=.ref C'::j:=hm;have aj:a11=false:=ah;subst ai aj;have es:Y=#[j0,j1,j2,j3,some (.builtin "ValueError.__new__"),j5]:=by
     cases Y with
     | mk l=>exact Ybh Array.mk hs
    subst es;exact ⟨j,a4,_,⟨_,_,_,_,_,_,_,_,_,_,_,_,_,_,ag⟩,.of_isNs (W.isNs_of_in Z z5),W.nsMap_none_of_in Z z5 z6,W.tail_of_in Z z4⟩
  ·cases ex'
 ·cases ex'
section
variable {X:Cx}
noncomputable def Zfl (C:AD)(E:XK)(t:TA):TS:=λ_ σ H=>t σ H λvs H1=>vs.length<=sizeLine/\E (.ref C) none H1
theorem XT (hc:X.calm=true)(hR:XS X E)(hg:Gl X x)(U:X.mg x=some (.ref C))(ex:ExcC X.K C)(ha:PA X (e::es) t)(Y:(x == ("__debug__" : Str))=false:=by decide)(he:starEach (e::es) X.env=(false,eval e X.env)::starEach es X.env:=by rfl)(Z:(backTo qG (starEach es X.env)).any (·.1)=false:=by rfl) :
  PS X (.Raise (some (.Call (.Name x np) (e::es) [] qG)) none pos) (Zfl C E t):=by
 intro qQ s σ H D I h;obtain ⟨j,aa,ac,⟨ad,ae,af,ag,ah,B,ai,L,aj,j0,j1,j2,j3,j5,hC⟩,hN,ak,T⟩:=Xg I.mod.kin ex;refine wpAny_Raise_call_subT (C:=C) (nm:=ad) (q:=ae) (N:=aa) (bs:=af) (bm:=j) (hdct:=ag) (sn:=ah) (sub:=B) (ab:=ai) (col:=L) (dd:=aj) (k0:=j0) (k1:=j1) (k2:=j2) (k3:=j3) (k5:=j5)
  PySem.F.excBase_ValueError (mN:=ac) (T.hasType PySem.F.excBase_ValueError.hasBase) (I.ok.hd hc) (by rw [he];show (false || (backTo qG (starEach es X.env)).any (·.1))=false;rw [Z];rfl) ak (VH I hg U ⟨rfl,?_⟩ Y)
 have hA:=ha qG qQ s σ H _ I h;rw [he] at hA ⊢;refine Calls.evalArgs_plain (thn hA λus s2 ⟨vs,H2,O,r2,hl,q2⟩=>?_);exact ⟨rfl,by rw [<-r2.length];exact hl,O.bk _ _ hC,hN.keeps O.bk,T.keeps O.bk,λh' a U=>hR qQ σ H2 s2 h' a C us O U q2⟩
variable {qQ:List (AD×Obj)}{σ:St}{H:Hp}{s:SS}
end
theorem XU (j:ZbP a C h):W.Looks M h (typeOf (.ref a)) (.ref C):=by
 obtain ⟨q,vs,e,c,d⟩:=j;exact c▸(W.Looks.ld e).andThen .now
theorem Z3 {K:FG}(q:K.In s.heap)(hx:ZbP a C s.heap)(D:W.findIn K (.ref C) "__getattribute__" = some (some (.builtin "BaseException.__getattribute__")))(B:W.findIn K (.ref C) "__getattr__" = some none)(L:W.findIn K (.ref C) "__class__" = some (some (.builtin "object.__class__")))(hm:W.mroIn K C (.type "object")=some true)(hB:W.subIn K (.ref C) (.type "BaseException")=some true)(h:Q (some (.ref C)) { s with toks:=s.toks+1 }):wpAny (model prog w) A (getAttr? (.ref a) "__class__") Q E s:=by
 have j:=XU (M:=model prog w) hx;have L1:=W.looks_findIn (M:=model prog w) q D;have L2:=W.looks_findIn (M:=model prog w) q B;have L3:=W.looks_findIn (M:=model prog w) q L;have L4:=W.looks_subIn (M:=model prog w) q hB;obtain ⟨h0,g,d,t,Z⟩:=s;have f3:=PySem.F.attr_ValueError.ga.bind (.ref a);unfold getAttr? getAttrBy? getAttrBy;refine Yaa (wpAny_mkText (Yaa (Ydj (Ycb (Yaa (j.at (Yaa (L1.at ?_))))))));dsimp only;have N:(onTheHeap (Value.ref C) && Value.builtin "BaseException.__getattribute__" == Value.builtin "object.__getattribute__")=false:=by
  have z:(Value.builtin "BaseException.__getattribute__" == Value.builtin "object.__getattribute__")=false:=by decide +kernel
  rw [z,Bool.and_false]
 rw [N];simp only [Yem,Ycy];unfold getAttrByItsOwn
 repeat (any_goals (first | assumption | with_reducible refine j.at ?_ | with_reducible refine L2.at ?_ | wp_step))
 have O:splitId "BaseException.__getattribute__" = some ("BaseException", "__getattribute__"):=by decide +kernel
 have U:builtinKind "BaseException.__getattribute__" = some .slot:=by decide +kernel
 have aa:=PySem.F.args_bexc_ga (.ref a) (.str (Str.ofString "__class__") t);refine codeAny_call_builtin PySem.F.attr_ValueError.ga.plain PySem.F.entry_bexc_ga ?_;show wpAny _ _ (checkBuiltinCall "BaseException.__getattribute__" ⟨[.ref a,.str (Str.ofString "__class__") t],[]⟩) _ _ _;simp only [checkBuiltinCall,U,O];refine Yaa ?_;unfold isInstance;have f5:=PySem.F.typeOf_object_class;have f6:=PySem.F.slot_gs_get.lookup;have f7:=PySem.F.slot_gs_set.lookup;have ab:(⟨h0,g,d,t+1,Z⟩:SS).TypeIs (.builtin "object.__class__") "getset_descriptor" := PySem.F.typeOf_object_class;refine Yaa (j.at (L4.at ?_))
 repeat (any_goals (first | assumption | with_reducible refine j.at ?_ | with_reducible refine L3.at ?_ | wp_step))
 have Lo:W.Looks (model prog w) h0 (isSubtype (.ref C) (.type (".".intercalate ("object.__class__".cutAt '.').dropLast))) true:=by
  rw [PySem.F.owner_object_class];exact W.looks_mroIn q hm
 have Y:(⟨h0,g,d,t+1,Z⟩:SS).TypeIs (.builtin "object.__class__") "getset_descriptor" := PySem.F.typeOf_object_class;refine codeAny_call_builtin PySem.F.slot_gs_get.plain PySem.F.entry_gs_get (PySem.F.slot_gs_get.check _ _ _ _ _ _ _ _ Y (PySem.F.args_gs_get _ _ _) ?_)
 repeat (any_goals (first | assumption | with_reducible refine j.at ?_ | with_reducible refine Lo.at ?_ | wp_step))
 refine ⟨Code.quiet_builtin _ (by decide +kernel),Ycz PySem.F.entry_object_class ?_⟩
 repeat (any_goals (first | assumption | with_reducible refine j.at ?_ | wp_step))
structure Zhz (K:FG)(C:AD):Prop where
 ex:ExcC K C
 ga:W.findIn K (.ref C) "__getattribute__" = some (some (.builtin "BaseException.__getattribute__"))
 nga:W.findIn K (.ref C) "__getattr__" = some none
 cl:W.findIn K (.ref C) "__class__" = some (some (.builtin "object.__class__"))
 ob:W.mroIn K C (.type "object")=some true
 be:W.subIn K (.ref C) (.type "BaseException")=some true
theorem XV {K:FG}{a C:AD}(k:Zhz K C):W.KitX K (.ref a) (.ref C) (ZbP a C) where
 ty:=λ_ _ _ p=>XU p
 it:=λM h KX _=>by
  obtain ⟨_,_,_,⟨_,_,_,_,_,_,_,_,_,_,_,_,_,_,hC⟩,_⟩:=Xg KX k.ex;intro A Q E s kk q;unfold isType loadHead;exact Yaa (wpAny_loadPart (kk _ _ hC) (Yab q))
 ne:=λh tp dd its n sl KX htp=>by
  obtain ⟨_,_,_,⟨_,_,_,_,_,_,_,_,_,_,_,_,_,_,hC⟩,_⟩:=Xg KX k.ex;refine Yed.mpr λq=>?_;have e:C=tp:=Value.ref.inj (Ybi.mp q);rw [<-e,hC] at htp;have z:=Ybh Obj.data (Ybl htp);unfold excClassObj at z;cases z
 ca:=λKX p q=>Z3 KX p k.ga k.nga k.cl k.ob k.be q
noncomputable def WH:V->Aa
 | .ty n=>.type n
 | .ref a=>.ref a
 | _=>.none
noncomputable def Z4:V->Bool
 | .ty _=>true
 | .ref _=>true
 | _=>false
theorem RelV.cls (r:RelV c u)(h:Z4 c=true):u=WH c:=by
 cases c with
 | ty n=>exact r
 | ref a=>exact r
 | _=>cases h
theorem Vals.cls:∀{cs:List V}{us:LW},Vals cs us->cs.all Z4=true->us=cs.map WH
 | _,_,.nil,_=>rfl
 | _,_,.cons r t,h=>by
  rw [List.all_cons,Ybz] at h;rw [Yaq,r.cls h.1,Vals.cls t h.2]
noncomputable def Zh9 (K:FG):List V->Hp->VK->Prop:=λxs H Q=>∃x c b,xs=[x,c]/\Q (.bl b) H /\
 ((∃t,YQ K H x t/\Z4 c=true/\W.kitOne K t (WH c)=some b) \/
  (∃a C,x=.ref a/\H a=some (Zh7 a C)/\Zhz K C/\Z4 c=true/\W.kitOne K (.ref C) (WH c)=some b) \/
  (∃a C tp cs,x=.ref a/\H a=some (Zh7 a C)/\Zhz K C/\c=.ref tp/\H tp=some (.tup cs)/\cs.all Z4=true/\W.kitAny K (.ref C) (cs.map WH)=some b))
theorem ZbR :JY X (.builtin "isinstance") (Zh9 X.K):=by
 intro qQ s σ H xs us Q I O h;obtain ⟨x,c,b,rfl,q,h⟩:=h;obtain ⟨u,U,rfl,B,D⟩:=O.two;have fin:∀tk,EP X qQ σ Q (.bool b) { s with toks:=tk }:=λtk=>⟨.bl b,H,I.tok tk,rfl,q⟩;rcases h with ⟨t,ty,j,e⟩ | ⟨a,C,rfl,ha,k,j,e⟩ | ⟨a,C,tp,cs,rfl,ha,k,rfl,Y,j,e⟩
 ·rw [D.cls j];exact ZO I B ty e fin
 ·rw [D.cls j];cases (show u=Value.ref a from B);obtain ⟨p,_⟩:=I.hok a _ ha;exact Yde (XV k) I.kIn p e (λz=>nomatch z) fin
 ·cases (show u=Value.ref a from B);cases (show U=Value.ref tp from D);obtain ⟨p,_⟩:=I.hok a _ ha;obtain ⟨_,its,r,o,Z,co,n,dn⟩:=I.hok tp _ Y;obtain ⟨L,aa,N,ab⟩:=o;cases (show L=.type "tuple" from co);cases (show N=.seq its.toArray n from dn);exact W.kia_tup (its:=its) (XV k) I.kIn p Z (by rw [r.cls j];exact e) (λz=>nomatch z) fin
mutual
inductive DatV (K:FG)(H:Hp):V->PyData->Prop
 | non:DatV K H .non .none
 | bl (b:Bool):DatV K H (.bl b) (.bool b)
 | int (i:Int):DatV K H (.int i) (.int i)
 | str (x:Str):DatV K H (.str x) (.str x)
 | lst {a:AD} {xs:List V} {ds:List PyData}:SqL K H a xs->DatVs K H xs ds->DatV K H (.ref a) (.list ds)
 | tup {a:AD} {xs:List V} {ds:List PyData}:SqT K H a xs->DatVs K H xs ds->DatV K H (.ref a) (.tuple ds)
inductive DatVs (K:FG)(H:Hp):List V->List PyData->Prop
 | nil:DatVs K H [] []
 | cons {x:V} {d:PyData} {xs:List V} {ds:List PyData}:DatV K H x d->DatVs K H xs ds->DatVs K H (x::xs) (d::ds)
end
section
variable {X:Cx}{qQ:List (AD×Obj)}{σ:St}{H:Hp}{s:SS}
mutual
theorem DatV.reads (I:Inv X qQ σ H s):∀{x:V}{d:PyData}{u:Aa},DatV X.K H x d->RelV x u->∃j,Reads s.heap u d j
 | _,_,_,.non,r=>by cases r;exact ⟨_,.none⟩
 | _,_,_,.bl b,r=>by cases r;exact ⟨_,.bool b⟩
 | _,_,_,.int i,r=>by obtain ⟨t,rfl⟩:=r;exact ⟨_,.int i t⟩
 | _,_,_,.str x,r=>by obtain ⟨t,rfl⟩:=r;exact ⟨_,.str x t⟩
 | _,_,_,.lst hq hs,r=>by
  cases r;obtain ⟨its,q,⟨o,n,e,c,L,B⟩,_⟩:=I.list hq;obtain ⟨j,D⟩:=DatVs.reads I hs q;exact ⟨_,.list e c B (by simpa using D)⟩
 | _,_,_,.tup hq hs,r=>by
  cases r;obtain ⟨its,q,⟨o,e,c,n,B⟩,_⟩:=I.tuple hq;obtain ⟨j,D⟩:=DatVs.reads I hs q;exact ⟨_,.tuple e c B (by simpa using D)⟩
theorem DatVs.reads (I:Inv X qQ σ H s):∀{xs:List V}{ds:List PyData}{us:LW},DatVs X.K H xs ds->Vals xs us->∃j,ReadsAll s.heap us ds j
 | _,_,_,.nil,.nil=>⟨_,.nil⟩
 | _,_,_,.cons h hs,.cons r rs=>by
  obtain ⟨j,ra⟩:=DatV.reads I h r;obtain ⟨bs,q⟩:=DatVs.reads I hs rs;exact ⟨_,.cons ra q⟩
end
end
noncomputable def ZgW (K:FG)(j:Bool):R2:=λx y H Q=>∃q B,DatV K H x q/\DatV K H y B/\SeqAt.shaped q=true/\SeqAt.shaped B=true/\Q (.bl (j != PyData.eqv q B)) H
theorem Zfm (j:X.A.units+64<cLine):OpR X (compareOp .Eq) (ZgW X.K false):=by
 intro qQ s σ H x y v u Q I B D h;obtain ⟨L,N,h1,h2,O,U,q⟩:=h;obtain ⟨as,Y⟩:=h1.reads I B;obtain ⟨bs,Z⟩:=h2.reads I D;exact eq_dataH Y Z O U j ⟨.bl _,H,I,by cases PyData.eqv L N <;> rfl,q⟩
theorem Zfn (j:X.A.units+64<cLine):OpR X (compareOp .NotEq) (ZgW X.K true):=by
 intro qQ s σ H x y v u Q I B D h;obtain ⟨L,N,h1,h2,O,U,q⟩:=h;obtain ⟨as,Y⟩:=h1.reads I B;obtain ⟨bs,Z⟩:=h2.reads I D;exact ne_dataH Y Z O U j ⟨.bl _,H,I,by cases PyData.eqv L N <;> rfl,q⟩
noncomputable def Lt2 (p:Nat)(a:Int):Prop:=a.natAbs<2 ^ p
noncomputable def ZhA (i j:Int):Prop:=0<j/\Lt2 9000 j
theorem Gz :OpR X (binaryOp .FloorDiv) (rI ZhA λi j=>.int (i / j)):=opI λi j _ _ _ _ _ B q=>by
 have h1:(0:Int)<j:=B.1;have h2:j.natAbs<2 ^ 9000:=B.2;refine floordiv_int (by lia) (by rw [Int.fdiv_eq_ediv_of_nonneg i (by lia)];exact q) (.inl (PyProof.noPylong_of_log2 ?_));exact (Nat.log2_lt (by lia)).mpr h2
theorem Same.new (h:H p=none):Same H (upd H p o):=λb u e=>by rw [Gj (Gg e h)];exact e
theorem nwU (h:H p=none):∃H1,upd H p o=H1/\Same H H1/\H1 p=some o:=⟨_,rfl,Same.new h,Gc⟩
theorem Same.put (s:Same H H1)(h:H p=none):Same H (upd H1 p o):=λb u e=>by rw [Gj (Gg e h)];exact s b u e
theorem Gm (h:H b=some u)(n:b≠p):upd H p o b=some u:=by rw [Gj n];exact h
theorem G8 (h:H l=some (.lst zs)):∀p ys,H p=some (.tup ys)->upd H l o p=some (.tup ys):=λp ys e=>Gm e (G6 e h (λz=>by cases z))
section
variable {P:PP}{w:Ab}{K:FG}{mg:Str->Option Aa}{base:Heap}
theorem Fun.okR {st:Stmt}(F:Fun K x qual st f fd)(S:Gn N ps (Gf st))(len:∀vs H Q E,sp vs H Q E->vs.length=ps.length)(L:∀(j:Aa)(A:Around)(outer:List Env)(s:SS)(H:Hp)(vs:List V)(Q:VK)(E:XK),Room k (A.deeper (envOfC qual (Gf st) s.heap.objs.size f j))->sp vs H Q E ->
   ∃t,PSs (YT (CXr P w) P w K mg base N qual (Gf st) f j A outer s H E) (GR st) t/\t { nx:=λ_ H'=>Q .non H',rt:=Q } (start N vs) H):GE P w K mg base (CXr P w) (k+1) f fd ps sp:=by
 obtain ⟨oc,od,kV,O,pm,an,j,ct,U,rfl,Y,B⟩:=F.ex;refine ZS Y B S len λA outer s H vs Q E Z D=>?_;obtain ⟨t,h,q⟩:=L j A outer s H vs Q E Z D;exact ⟨t,h,q⟩
theorem Xh :Oo (CXr X.prog X.w) X E0:=λ_ _ _ _ _ _ _ ⟨_,_,_,_,_,h⟩=>h.elim
end
section
variable {X:Cx}
theorem XW (j:X.mg x=none)(q:bootBuiltins x=some (.type T))(B:Gl X x:=by rfl)(D:x ≠ "__name__" := by decide)(L:(x == ("__debug__" : Str))=false:=by decide):PE X (.Name x pos) (tC (.ty T)):=Zdz B j q rfl D L
end
theorem Uw:bootBuiltins "isinstance" = some (.builtin "isinstance"):=by first | rfl | decide +kernel
theorem Js:bootBuiltins "tuple" = some (.type "tuple"):=by first | rfl | decide +kernel
theorem Z5:bootBuiltins "bool" = some (.type "bool"):=by first | rfl | decide +kernel
theorem ZbS:bootBuiltins "int" = some (.type "int"):=by first | rfl | decide +kernel
theorem Ux {K:FG}:W.kitOne K t t=some true:=by
 unfold W.kitOne;rw [if_pos (Yff t)]
section
variable {X:Cx}(K:FG)
theorem ZgX (h:X.K=K:=by rfl):JY X (.builtin "isinstance") (Zh9 K):=h▸ZbR
theorem Uy (h:X.K=K:=by rfl):IxR X (Zhu K):=h▸ZdN
theorem Zc8 (h:X.K=K:=by rfl):IxR X (Zh6 K):=h▸Zfg
theorem VQ (h:X.K=K:=by rfl):JY X (.builtin "len") (λxs H Q=>∃p ys,xs=[.ref p]/\(SqL K H p ys\/SqT K H p ys)/\Q (.int ys.length) H):=h▸WF
theorem Zfo (j:X.A.units+64<cLine)(h:X.K=K:=by rfl):OpR X (compareOp .Eq) (ZgW K false):=h▸Zfm j
theorem Ziv (j:X.A.units+64<cLine)(h:X.K=K:=by rfl):OpR X (compareOp .NotEq) (ZgW K true):=h▸Zfn j
theorem kSl (h:X.K=K:=by rfl):SlR X (Zhv K):=h▸ZdO
theorem VR (q:X.calm=true)(h:PGs X es t)(B:X.K=K:=by rfl)(D:(assignEach es X.env).length=n:=by rfl)(j:(assignEach es X.env).findIdx? (·.1)=none:=by rfl):PG X (.Tuple es k pos) (ZgT K n t):=B▸Ze2 q h D j
theorem Ou (j:PE X l tl)(h:X.K=K:=by rfl):PI X tg l (Ze5 K tl):=h▸ZdB j
end
end L2
namespace L2
open PySem PySem.Spec PyProof.Rows
noncomputable def AllP {α:Type}(P:α->Prop):List α->Prop
 | []=>True
 | x::r=>P x/\AllP P r
theorem AllP.mem {α:Type}{P:α->Prop}:∀{l:List α},AllP P l->∀x∈l,P x
 | _::_,h,_,.head _=>h.1
 | _::_,h,x,.tail _ m=>AllP.mem h.2 x m
theorem Vc (L:List (Str×NameKind))(j:closureFor scope X.env=pure cl)(D:(relabel scope X.env).names=L)(U:∀y∈scope.names,y.2≠.cell)(Y:scope.kind=.function)(Z:∀y∈scope.names,y.2=.local->scope.names.lookup y.1=some .local)(q:AllP (λp=>X.env.cells.lookup p.1=some p.2) cl)(O:AllP (λp=>(p.2=.cell\/p.2=.free)->∃c,cl.lookup p.1=some c) L)(B:AllP (λp=>X.N[p.2]?=some p.1/\(X.env.kindOf p.1=some .cell\/X.env.kindOf p.1=some .free)/\(L.lookup p.1=some .cell\/L.lookup p.1=some .free)) fr):Jm X scope cl own fr:=
 ⟨j,U,Y,Z,λy c h=>q.mem (y,c) (Ydu h),λy h=>by
  rw [D] at h;rcases h with h | h
  ·exact O.mem _ (Ydu h) (.inl rfl)
  ·exact O.mem _ (Ydu h) (.inr rfl),λp hp=>by
  rw [D];exact B.mem p hp⟩
theorem ZhB {k:NameKind}{P:Prop}(h:k=.cell\/k=.free)(h1:(k == .cell)=false:=by rfl)(h2:(k == .free)=false:=by rfl):P:=by
 rcases h with z | z
 ·subst z;exact absurd h1 (by decide)
 ·subst z;exact absurd h2 (by decide)
theorem Od:bootBuiltins "min" = some (.builtin "min"):=by first | rfl | decide +kernel
theorem Go (q:St->Hp->Prop)(h2:∀ j H',q j H'->u D j H')(h1:(∀ j H',q j H'->u D j H')->t { D with nx:=u D } σ H):GG t u D σ H:=h1 h2
theorem XX {α:Type}:∀(ps rs:List α)(k:Nat)(y:α),ps[k]?=some y->((rs++[y])++ps.eraseIdx k).Perm (rs++ps)
 | [],_,k,y,h=>by simp at h
 | x::r,rs,0,y,h=>by
  simp at h;subst h;rw [Ybu];exact List.Perm.refl _
 | x::r,rs,k+1,y,h=>by
  have ih:=XX r [] k y (by simpa using h);rw [List.eraseIdx_cons_succ,Ybu];refine Yfq rs ?_;have j:(y::r.eraseIdx k).Perm r:=by simpa using ih
  exact (List.Perm.swap x y _).trans (j.cons x)
section
variable {X:Cx}
theorem ZdR:UnR X (unaryOp .USub) (rU λi=>.int (-i)):=by
 intro qQ s σ H x v Q I j h;obtain ⟨i,rfl,q⟩:=h;obtain ⟨t,rfl⟩:=j;exact neg_int ⟨.int (-i),H,I.tok _,⟨_,rfl⟩,q⟩
theorem GV {K:FG}{H:Hp}:∀ns:LI,DatVs K H (ns.map V.int) (ns.map PyData.int)
 | []=>.nil
 | n::ns=>.cons (.int n) (GV ns)
theorem OF:∀ns:LI,PyData.canLayAll0 (ns.map PyData.int)=true
 | []=>by simp [PyData.canLayAll0]
 | n::ns=>by
  rw [Yaq];simp [PyData.canLayAll0,PyData.canLay0,OF ns]
theorem Jt:∀ns:LI,PyData.depthAll (ns.map PyData.int)<=1
 | []=>by simp [PyData.depthAll]
 | n::ns=>by
  have ih:=Jt ns;rw [Yaq];simp only [PyData.depthAll,PyData.depth]
  lia
theorem JT (ns:LI):SeqAt.shaped (.list (ns.map PyData.int))=true:=by
 unfold SeqAt.shaped;rw [Ybz];have:=Jt ns;refine ⟨by simp only [PyData.canLay0];exact OF ns,Yay ?_⟩;simp only [PyData.depth]
 lia
theorem OG (ns ms:LI):PyData.eqv (.list (ns.map PyData.int)) (.list (ms.map PyData.int))=decide (ns=ms):=by
 rw [<-W.ked_eqvAll];simp only [PyData.eqv]
theorem ZdS {K:FG} :
  Oo (CXr P w) (YT (CXr P w) P w K mg base N qual scope f U A outer s H E) E:=by
 intro qQ σ H1 s1 ev s' I h;obtain ⟨a,C,H',rfl,⟨t,B,os,Y,un,Z,fl,trk,old⟩,hE⟩:=h;have ac:=I.ok.frames;have nox:∀b:AD,b ∉ (YT (CXr P w) P w K mg base N qual scope f U A outer s H E).ex:=λb z=>absurd (show b∈([]:List AD) from z) (by simp);refine wpAny_leaves_onW ac rfl fl λh2 D sm=>?_;obtain ⟨u2,k2⟩:=ZbQ (t:=t) (a:=a) (C:=C) un Z fl.2.2.1 trk old D.1 sm;have u1:Un (frs (envOfC qual scope s.heap.objs.size f U::outer)) [] H H1 s.heap s1.heap:=Un.mono I.base (λb j=>by
  have ad:b∈frs outer:=j;obtain ⟨L,he,q⟩:=Ydi.mp ad;exact Ydi.mpr ⟨L,Ybe _ he,q⟩) (λb j=>absurd j (nox b))
 have O:=u1.trans u2;have aa:∀b o,s.heap.get? b=some o->b ∉ frs outer->b ∉ frs (envOfC qual scope s.heap.objs.size f U::outer):=λb o e j z=>by
  rcases Yam.mp (I.stkSub b z) with q | q
  ·exact absurd (Ybk (Yah e) I.ok.above) (by rw [q];exact Ycm _)
  ·exact j q
 have ab:∀b,b∈frs outer->b∈frs (envOfC qual scope s.heap.objs.size f U::outer):=λb j=>by
  obtain ⟨L,he,q⟩:=Ydi.mp j;exact Ydi.mpr ⟨L,Ybe _ he,q⟩
 refine ⟨a,C,H',rfl,⟨t,B,os.trans I.os,Y,⟨λb o e n j hx=>O.keep b o e n (aa b o e j) hx,λb o e n j hx=>O.slot b o e n (ab b j) hx,O.free,O.there,O.tups,O.frzs,O.tbls⟩,k2,D,λb o e n=>?_,λb o0 o e0 e nb=>?_⟩,hE⟩
 ·cases q':H' b with
  | none=>exact absurd q' n
  | some u=>
   obtain ⟨v,q⟩:=(Z b u q').there;have e1:=trk b v q n;have e2:=D.1 b v e1;have e':h2.get? b=some o:=e;rw [e'] at e2;cases e2;exact e1
 ·obtain ⟨o1,e1⟩:=u1.there b o0 e0 (by simp);obtain ⟨o2,e2⟩:=un.there b o1 e1 (by simp);have e3:=old b o1 o2 e1 e2 (aa b o0 e0 nb);have e4:=D.1 b o2 e3;have e':h2.get? b=some o:=e;rw [e'] at e4;cases e4;exact e3
noncomputable def Zia (K:FG)(j:Bool):R2:=λx y H Q=>∃p xs d ds,y=.ref p/\(SqL K H p xs\/SqT K H p xs)/\DatV K H x d/\DatVs K H xs ds/\SeqAt.shaped d=true/\(∀e∈ds,SeqAt.shaped e=true)/\Q (.bl (j != ds.any λe=>PyData.eqv e d)) H
open Classical in
noncomputable def O9 (h:Heap)(u:Aa):PyData:=if q:∃d j,Reads h u d j/\SeqAt.shaped d=true then choose q else .none
theorem ZbT (r:Reads h u d j)(B:SeqAt.shaped d=true):O9 h u=d:=by
 have q:∃d j,Reads h u d j/\SeqAt.shaped d=true:=⟨d,j,r,B⟩;unfold O9;rw [dif_pos q];obtain ⟨D,r',s'⟩:=Classical.choose_spec q;exact SeqAt.Reads.unique _ _ _ _ _ (SeqAt.canLay_of_shaped s') r' r
theorem Zc9 {h:Heap}:∀{us:LW}{ds:List PyData}{as:List AD},ReadsAll h us ds as->(∀e∈ds,SeqAt.shaped e=true)->(∀u∈us,∃q,Reads h u (O9 h u) q/\SeqAt.shaped (O9 h u)=true)/\us.map (O9 h)=ds
 | _,_,_,.nil,_=>⟨λu j=>by simp at j,rfl⟩
 | _,_,_,.cons r rs,hs=>by
  obtain ⟨i1,i2⟩:=Zc9 rs λe D=>hs e (Ybe _ D);have h0:=hs _ (Ybg ..);have B:=ZbT r h0;refine ⟨λu j=>?_,by rw [Yaq,B,i2]⟩;rcases Yam.mp j with rfl | j
  ·rw [B];exact ⟨_,r,h0⟩
  ·exact i1 u j
theorem ZbU {us:LW}(e:us.map (O9 h)=ds):us.any (λu=>PyData.eqv (O9 h u) d)=ds.any λe=>PyData.eqv e d:=by
 rw [<-e,List.any_map]
 rfl
theorem Zfp (hc:(B=false/\c=.In)\/(B=true/\c=.NotIn))(hu:X.A.units+65<cLine):OpR X (compareOp c) (Zia X.K B):=by
 intro qQ s σ H x y v u Q I rx ry h;obtain ⟨p,xs,d,ds,rfl,N,hd,U,sd,Y,q⟩:=h;cases ry;obtain ⟨as,ra⟩:=hd.reads I rx;have Z:X.A.in1.units+64<cLine:=by rw [Ydk];lia
 have key:∀its:LW,Vals xs its->(∀w∈its,SeqAt.EqAt X.A.in1 s w v (PyData.eqv (O9 s.heap w) d))/\its.toArray.any (λw=>PyData.eqv (O9 s.heap w) d)=ds.any λe=>PyData.eqv e d:=λits r=>by
  obtain ⟨bs,rb⟩:=U.reads I r;obtain ⟨D,L⟩:=Zc9 rb Y;refine ⟨λw j=>?_,?_⟩
  ·obtain ⟨aa,r',s'⟩:=D w j;exact W.keq_at r' ra s' sd Z
  ·rw [List.any_toArray];exact ZbU L
 rcases N with N | N
 ·obtain ⟨its,r,O,hz⟩:=I.list N;obtain ⟨D,L⟩:=key its r;rcases hc with ⟨rfl,rfl⟩ | ⟨rfl,rfl⟩
  ·refine SeqAt.in_listAt (λw=>PyData.eqv (O9 s.heap w) d) O.isList (λw j=>D w (by simpa using j)) ⟨.bl _,H,I,rfl,?_⟩;rw [L];simpa using q
  ·refine SeqAt.notIn_listAt (λw=>PyData.eqv (O9 s.heap w) d) O.isList (λw j=>D w (by simpa using j)) ⟨.bl _,H,I,rfl,?_⟩;rw [L];simpa using q
 ·obtain ⟨its,r,O,hz⟩:=I.tuple N;obtain ⟨D,L⟩:=key its r;rcases hc with ⟨rfl,rfl⟩ | ⟨rfl,rfl⟩
  ·refine SeqAt.in_tupleAt (λw=>PyData.eqv (O9 s.heap w) d) O (λw j=>D w (by simpa using j)) ⟨.bl _,H,I,rfl,?_⟩;rw [L];simpa using q
  ·refine SeqAt.notIn_tupleAt (λw=>PyData.eqv (O9 s.heap w) d) O (λw j=>D w (by simpa using j)) ⟨.bl _,H,I,rfl,?_⟩;rw [L];simpa using q
theorem ZdT (K:FG)(j:X.A.units+65<cLine)(h:X.K=K:=by rfl):OpR X (compareOp .NotIn) (Zia K true):=h▸Zfp (.inr ⟨rfl,rfl⟩) j
end
section
variable {X:Cx}
theorem Vals.drop' (h:Vals xs us):∀k:Nat,Vals (xs.drop k) (us.drop k):=by
 induction h with
 | nil=>intro k;rw [List.drop_nil,List.drop_nil];exact .nil
 | cons r t ih=>
  intro k;cases k with
  | zero=>exact .cons r t
  | succ k=>rw [List.drop_succ_cons,List.drop_succ_cons];exact ih k
noncomputable def Ite (K:FG)(a:AD):It:=
 ⟨λi H=>∃xs x,SqL K H a xs/\xs[i]?=some x,λi H x H'=>∃T y,x=.ref T/\H T=none/\H'=upd H T (.tup [.int (i:Nat),y])/\∀xs,SqL K H a xs->xs[i]?=some y,λi H=>∃xs,SqL K H a xs/\xs.length<=i⟩
theorem Z6 {P:PP}{w:Ab}{K:FG}{elts:List Expr}{k:Nat}{pos:Pos}(a e it:AD)(hne:e≠it) :
  ZbH P w K (.Tuple elts k pos) (Ite K a) [e,it] e (λi h=>(∃old,IsEnum h e it ((i:Nat):Int) old)/\h.IsListIter it a i) where
 mem:=by simp
 obj:=λi h st b hb=>by
  obtain ⟨⟨old,he⟩,⟨o,ei,c,d⟩⟩:=st;rcases Yam.mp hb with rfl | hb
  ·exact ⟨_,he,λv z=>by
    have z':Data.fields _=Data.cell v:=z;cases z'⟩
  ·have eb:b=it:=by simpa using hb
   subst eb;exact ⟨o,ei,λv z=>by rw [d] at z;cases z⟩
 keep:=λi h h' st q=>by
  obtain ⟨⟨old,he⟩,hi⟩:=st;exact ⟨⟨old,q e (by simp) _ he⟩,hi.at λo ho=>q it (by simp) o ho⟩
 item:=by
  intro X hP hw hK hc i qQ s σ H E I hf st hg;subst hP hw hK;obtain ⟨xs,x,hq,hx⟩:=hg;obtain ⟨its,rv,p,hz⟩:=I.list hq;obtain ⟨u,hu,ru⟩:=rv.get hx;obtain ⟨⟨old,he⟩,hit⟩:=st;refine wpAny_pyNext_enum_item he hit p.isList (x:=u) (by simpa using hu) hne λh1 heo hit1 ht1 hz1 hk1=>?_;refine ⟨_,rfl,wpAny_letOwnedTupleGo_enum (s:={ s with heap:=h1,toks:=s.toks+1 }) heo λh2 he2 hs2=>?_⟩;have hs2':Heap.SameBut e h1 h2:=hs2;have hfr:H s.heap.objs.size=none:=I.fresh;have hel:e<s.heap.objs.size:=Yah he;have kk:∀b o,b ∉ [e,it]->s.heap.get? b=some o->h2.get? b=some o:=λb o hb q=>by
   have n1:b≠e:=λz=>hb (by simp [z]);have n2:b≠it:=λz=>hb (by simp [z]);exact (hs2'.2 b n1).trans (hk1 b o n1 n2 q)
  have nT:∀b o,s.heap.get? b=some o->b≠s.heap.objs.size:=λb o q=>Yar (Yah q);have trk:∀c u,H c=some u->c ∉ [e,it]:=λc u q z=>by
   rw [(hf c z).1] at q;cases q
  refine ⟨.ref s.heap.objs.size,upd H s.heap.objs.size (.tup [.int (i:Nat),x]),I.call' (ch:=[e,it]) rfl ⟨λb o q _ _ hb=>kk b o hb q,λb o q _ _ hb=>⟨o.slots,kk b o hb q⟩,λb o q n _=>by rw [Gj (nT b o q)];exact n,
   λb o q hb=>⟨o,kk b o hb q⟩,λb ys q=>by rw [Gj (Gg q hfr)];exact q,λb o u q=>by rw [Gj (Gg q hfr)];exact q,λb ps q=>⟨#[],by rw [Gj (Gg q hfr),q];simp⟩⟩ (λb v q=>?_) I.bare (λb hb=>?_),
   rfl,⟨_,x,rfl,hfr,rfl,λys hy=>by rw [I.list_inj hy hq];exact hx⟩,⟨⟨_,by rw [Int.natCast_add];exact he2⟩,hit1.extBut hs2'.extBut (Ne.symm hne)⟩,λb hb=>?_⟩
  ·by_cases hb:b=s.heap.objs.size
   ·subst hb;rw [Gc] at q;cases q;refine ⟨by have h16:=Yav.symm;rw [<-h16];show 2<=16777216;lia,[.int (i:Nat) s.toks,u],.cons ⟨_,rfl⟩ (.cons ru .nil),⟨_,(hs2'.2 _ (Ydd hel)).trans ht1,rfl,_,rfl⟩⟩
   ·rw [Gj hb] at q;refine (I.hok b v q).stay (λc v' hc z=>kk c v' ?_ z) (λc z=>by rw [Gj (Gg z hfr)];exact z) λc ys z=>by rw [Gj (Gg z hfr)];exact z
    rcases hc with rfl | hc
    ·exact trk _ _ q
    ·exact trk _ _ hc
  ·obtain ⟨f0,f1,f2,f3,f4,f5⟩:=hf b hb;exact ⟨f3,f1,f4,f5⟩
  ·have ho:∃o,s.heap.get? b=some o:=by
    rcases Yam.mp hb with rfl | hb
    ·exact ⟨_,he⟩
    ·have eb:b=it:=by simpa using hb
     subst eb;obtain ⟨o,ei,_⟩:=hit;exact ⟨o,ei⟩
   obtain ⟨o,ho⟩:=ho;rw [Gj (nT b o ho)];exact (hf b hb).1
 done:=by
  intro X hP hw hK hc i qQ s σ H E I hf st hg;subst hP hw hK;obtain ⟨xs,hq,hx⟩:=hg;obtain ⟨its,rv,p,hz⟩:=I.list hq;obtain ⟨⟨old,he⟩,hit⟩:=st;obtain ⟨f0,f1,f2,f3,f4,f5⟩:=hf it (by simp);have hl:=rv.length;exact wpAny_pyNext_enum_end (I.ok.hd hc) he hit p.isList (by simp;lia) λh' eb=>⟨rfl,I.turned (t':=s.toks) (λb o hb q=>eb b o hb q) f0 f1 f3 f4 f5⟩
 self:=λ_ _ _ _ _ ⟨⟨_,he⟩,_⟩ h=>wpAny_pyIter_enum he h
noncomputable def Zfq (K:FG)(ta:TA):TI:=λσ H R=>ta σ H λvs H1=>∃a xs,vs=[.ref a]/\SqL K H1 a xs/\R (Ite K a) H1
theorem ZdU (U:Gl X "enumerate")(Y:X.mg "enumerate" = none)(ha:PA X [l] ta)(Z:starEach [l] X.env=[(false,eval l X.env)]:=by rfl) :
  PI X (.Tuple B k O) (.Call (.Name "enumerate" p) [l] [] pos) (Zfq X.K ta):=by
 intro qQ s σ H R I h;refine Call_ (Ol I U Y boot_enumerate (Yfe (thG (ha pos qQ s σ H _ I h) λus j vs H1 D r1 q1=>?_) Z rfl));obtain ⟨a,xs,e,hq,q⟩:=q1;subst e;obtain ⟨u,rfl,ru⟩:=r1.one;cases ru;obtain ⟨its,rv,pl,hz⟩:=D.list hq;refine call_enumerate_list pl.isList λh' N hI aa hk=>?_;refine wpAny_pyIter_enum N ?_;refine ⟨j.heap.objs.size+1,[j.heap.objs.size+1,j.heap.objs.size],_,_,H1,rfl,D.kept (t':=j.toks) hk,Z6 a _ _ (Nat.succ_ne_self _),⟨⟨_,N⟩,hI⟩,λb L=>?_,q⟩;have e:j.heap.objs.size<=b:=by
  rcases Yam.mp L with rfl | L
  ·exact Ydt _
  ·have eb:b=j.heap.objs.size:=by simpa using L
   rw [eb];exact Yaf _
 exact D.fpOk e (D.hok.fresh e)
theorem ZhC (K:FG)(B:Gl X "enumerate")(D:X.mg "enumerate" = none)(ha:PA X [l] ta)(h:X.K=K:=by rfl)(L:starEach [l] X.env=[(false,eval l X.env)]:=by rfl) :
  PI X (.Tuple j k q) (.Call (.Name "enumerate" p) [l] [] pos) (Zfq K ta):=h▸ZdU B D ha L
end
section
variable {X:Cx}{a b c d:Expr}{ta tb tc td:TE}{pos:Pos}
theorem ZbV:bootBuiltins "all" = some (.builtin "all"):=by first | rfl | decide +kernel
theorem ZbW:bootBuiltins "set" = some (.type "set"):=by first | rfl | decide +kernel
theorem WI:∀{bs:List Bool}{us:LW},Vals (bs.map V.bl) us->us=bs.map Value.bool
 | [],_,.nil=>rfl
 | b::bs,_,.cons r t=>by rw [Yaq,<-WI t];cases r;rfl
theorem Z7 (bs:List Bool):(List.range bs.length).all (λi=>bs.getD i false)=bs.all id:=by
 induction bs with
 | nil=>rfl
 | cons b bs ih=>
  rw [Ybm,List.range_succ_eq_map,List.all_cons,List.all_map,List.all_cons];show (b && _)=(b && _)
  congr 1
theorem Ziw (K:FG)(O:X.calm=true)(h:X.K=K:=by rfl):JY X (.builtin "all") (λxs H Q=>∃(p:AD)(bs:List Bool),xs=[.ref p]/\SqL K H p (bs.map V.bl)/\Q (.bl (bs.all id)) H):=by
 subst h;intro qQ s σ H xs us Q I U h;obtain ⟨p,bs,rfl,Y,q⟩:=h;obtain ⟨u,rfl,Z⟩:=U.one;cases Z;obtain ⟨its,r,B,hz⟩:=I.list Y;have e:=WI r;have hh:X.A.in1.handled=none:=I.ok.hd O;obtain ⟨o,eo,_⟩:=id B.isList;have D:p<s.heap.objs.size:=Yah eo;refine call_all_walk (wpAny_pyIter_list B.isList ?_);refine ⟨s.heap.objs.size,_,_,_,_,_,λi=>bs.getD i false,rfl,Walks.list hh s.heap.objs.size p (Yar D) its.toArray,⟨⟨_,Yaw _ rfl,rfl,rfl⟩,B.isList.at λo e=>Yae _ e⟩,?_,λh' tk hk=>?_⟩
 ·intro i v s' Q' E' hv L;have j:its[i]?=some v:=by simpa using hv
  rw [e,Yaz] at j;cases z:bs[i]? with
  | none=>rw [z] at j;cases j
  | some b=>
   rw [z] at j;cases j;have eb:bs.getD i false=b:=by rw [Ybv,z];rfl
   exact Yeb (by rw [<-eb];exact L)
 ·have hl:its.toArray.size=bs.length:=by rw [Yau,e,Yac]
  have I1:Inv X qQ σ H { s with heap:=s.heap.push { cls:=.type "list_iterator", data:=.fields #[.ref p,.int 0 0] } }:=I.kept (t':=s.toks) λb o e=>Yae _ e;refine ⟨.bl _,H,I.kept λb o N=>hk b o ?_ (Yae _ N),?_,q⟩
  ·intro z;have:b=s.heap.objs.size:=by simpa using z
   exact absurd (Yah N) (by rw [this];exact Ycm _)
  ·show Value.bool _=Value.bool _;rw [hl,Z7]
end
section
variable {κ:Type}[DecidableEq κ]
noncomputable def JC (kvs:List (κ×V))(k:κ):Option V:=(kvs.find? λj=>decide (j.1=k)).map (·.2)
noncomputable def JD (kvs:List (κ×V))(k:κ)(v:V):List (κ×V):=
 if (kvs.any λj=>decide (j.1=k))=true then kvs.map (λj=>if j.1=k then (j.1,v) else j) else kvs++[(k,v)]
theorem Jd {k:κ}(e:p.1=k):JC (p::r) k=some p.2:=by simp [JC,Ydl,e]
theorem Je {k:κ}(e:¬ p.1=k):JC (p::r) k=JC r k:=by simp [JC,Ydl,e]
theorem Uz (k:κ):∀kvs:List (κ×V),(kvs.any λkv=>decide (kv.1=k))=(JC kvs k).isSome
 | []=>rfl
 | p::r=>by
  rw [List.any_cons];by_cases e:p.1=k
  ·simp only [Jd e,Yay e,Bool.true_or,Option.isSome_some]
  ·rw [Je e,Ybp e,Bool.false_or];exact Uz k r
theorem XY (k j:κ)(y:V):∀kvs:List (κ×V),JC (kvs.map λq=>if q.1=k then (q.1,y) else q) j=(JC kvs j).map λx=>if j=k then y else x
 | []=>rfl
 | p::r=>by
  have ih:=XY k j y r;rw [Yaq];by_cases h:p.1=k
  ·rw [if_pos h];by_cases e:p.1=j
   ·rw [Jd (p:=(p.1,y)) e,Jd e,Option.map_some,if_pos (e.symm.trans h)]
   ·rw [Je (p:=(p.1,y)) e,Je e,ih]
  ·rw [if_neg h];by_cases e:p.1=j
   ·rw [Jd (p:=p) e,Jd e,Option.map_some,if_neg (λz=>h (e.trans z))]
   ·rw [Je (p:=p) e,Je e,ih]
theorem WJ (k j:κ)(y:V):∀kvs:List (κ×V),JC kvs k=none->JC (kvs++[(k,y)]) j=if j=k then some y else JC kvs j
 | [],_=>by
  by_cases e:k=j
  ·rw [if_pos e.symm];exact Jd (p:=(k,y)) e
  ·rw [if_neg (λz=>e z.symm)];exact Je (p:=(k,y)) e
 | p::r,hn=>by
  rw [List.cons_append];have hk:¬ p.1=k:=λz=>by rw [Jd z] at hn;cases hn
  rw [Je hk] at hn;have q:=WJ k j y r hn;by_cases e:p.1=j
  ·rw [Jd e,Jd e,if_neg (λz=>hk (e.trans z))]
  ·rw [Je e,Je e,q]
theorem GY (kvs:List (κ×V))(k j:κ)(y:V):JC (JD kvs k y) j=if j=k then some y else JC kvs j:=by
 unfold JD;by_cases a:(kvs.any λB=>decide (B.1=k))=true
 ·rw [if_pos a,XY];rw [Uz] at a;by_cases e:j=k
  ·obtain ⟨x,D⟩:=Yek.mp a;rw [if_pos e,e,D,Option.map_some,if_pos rfl]
  ·rw [if_neg e];cases JC kvs j with
   | none=>rfl
   | some x=>rw [Option.map_some,if_neg e]
 ·rw [if_neg a];refine WJ k j y kvs ?_;rw [Uz] at a;cases q:JC kvs k with
  | none=>rfl
  | some x=>rw [q] at a;exact (a rfl).elim
theorem GW (kvs:List (κ×V))(k:κ)(v:V):(JD kvs k v).length<=kvs.length+1:=by
 unfold JD;split
 ·rw [Yac];lia
 ·rw [Yak,Ybm,List.length_nil];lia
theorem RelO.isSome_eq (r:RelO o u):o.isSome=u.isSome:=by
 cases o with
 | none=>cases u with
  | none=>rfl
  | some _=>exact (show False from r).elim
 | some _=>cases u with
  | none=>exact (show False from r).elim
  | some _=>rfl
theorem KV.val (r:KV kvs vs)(k:κ):RelO (JC kvs k) (valueAt vs k):=by
 unfold KV at r
 induction r with
 | nil=>exact True.intro
 | @cons p q ps qs h t B=>
  obtain ⟨h1,h2⟩:=h;by_cases e:p.1=k
  ·have j:q.1=k:=h1.symm.trans e;have b:valueAt (q::qs) k=some q.2:=by simp [valueAt,Ydl,j]
   rw [Jd e,b];exact h2
  ·have j:¬ q.1=k:=λz=>e (h1.trans z);have b:valueAt (q::qs) k=valueAt qs k:=by simp [valueAt,Ydl,j]
   rw [Je e,b];exact B
theorem KV.any (r:KV kvs vs)(k:κ):(kvs.any λj=>decide (j.1=k))=vs.any λj=>decide (j.1=k):=by
 unfold KV at r
 induction r with
 | nil=>rfl
 | cons h t ih=>rw [List.any_cons,List.any_cons,ih,h.1]
theorem KV.repl (r:KV kvs vs)(k:κ)(B:RelV y u) :
  KV (kvs.map λj=>if j.1=k then (j.1,y) else j) (vs.map λj=>if j.1=k then (j.1,u) else j):=by
 unfold KV at r ⊢
 induction r with
 | nil=>exact .nil
 | @cons p q ps qs h t ih=>
  rw [Yaq,Yaq];refine .cons ?_ ih;obtain ⟨h1,h2⟩:=h;by_cases e:p.1=k
  ·rw [if_pos e,if_pos (h1.symm.trans e)];exact ⟨h1,B⟩
  ·rw [if_neg e,if_neg (λz=>e (h1.trans z))];exact ⟨h1,h2⟩
theorem KV.put (r:KV kvs vs)(k:κ)(j:RelV y u):KV (JD kvs k y) (stored vs k u):=by
 unfold JD stored;rw [r.any k];by_cases e:(vs.any λq=>decide (q.1=k))=true
 ·rw [if_pos e,if_pos e];exact r.repl k j
 ·rw [if_neg e,if_neg e];exact Paired.snoc r ⟨rfl,j⟩
theorem KV.length {kvs:List (κ×V)}{vs:List (κ×Aa)}(r:KV kvs vs):kvs.length=vs.length:=Ycv r
end
theorem Z8 (r:RelV (kV k) u):(G5 P w).is k u=true:=by
 cases k with
 | inl i=>obtain ⟨t,e⟩:=(show ∃t,u=Value.int i t from r);subst e;exact Xc P w i t
 | inr x=>obtain ⟨t,e⟩:=(show ∃t,u=Value.str x t from r);subst e;exact Xd P w x t
theorem WK {P:PP}{w:Ab}:∀{ks:List Key}{us:LW},Vals (ks.map kV) us->ItemsAre (G5 P w) ks us
 | [],_,r=>by rw [List.map_nil] at r;cases r;exact .nil
 | k::ks,_,r=>by
  rw [Yaq] at r;cases r with
  | cons h t=>exact .cons (Z8 h) (WK t)
noncomputable abbrev KT (H:Hp):List (List Key×V)->List (List Key×AD×Aa)->Prop:=Paired λp q=>p.1=q.1/\H q.2.1=some (.tup (p.1.map kV))/\RelV p.2 q.2.2
theorem KT.val (r:KT H kvs xs)(k:List Key):RelO (JC kvs k) ((atKey xs k).map (·.2)):=by
 induction r with
 | nil=>exact True.intro
 | @cons p q ps qs h t B=>
  obtain ⟨h1,_,h2⟩:=h;by_cases e:p.1=k
  ·have j:q.1=k:=h1.symm.trans e;have b:atKey (q::qs) k=some q.2:=by simp [atKey,Ydl,j]
   rw [Jd e,b];exact h2
  ·have j:¬ q.1=k:=λz=>e (h1.trans z);have b:atKey (q::qs) k=atKey qs k:=by simp [atKey,Ydl,j]
   rw [Je e,b];exact B
theorem KT.repl (r:KT H kvs xs)(k:List Key)(B:RelV y u) :
  KT H (kvs.map λj=>if j.1=k then (j.1,y) else j) (xs.map (putAt k u)):=by
 induction r with
 | nil=>exact .nil
 | @cons p q ps qs h t ih=>
  rw [Yaq,Yaq];refine .cons ?_ ih;obtain ⟨h1,h2,D⟩:=h;unfold putAt;by_cases e:p.1=k
  ·rw [if_pos e,if_pos (h1.symm.trans e)];exact ⟨h1,h2,B⟩
  ·rw [if_neg e,if_neg (λz=>e (h1.trans z))];exact ⟨h1,h2,D⟩
theorem KT.put (r:KT H kvs xs)(k:List Key)(B:H b=some (.tup (k.map kV)))(j:RelV y u) :
  KT H (JD kvs k y) (storedH xs k b u):=by
 have e:(kvs.any λD=>decide (D.1=k))=(atKey xs k).isSome:=by
  rw [Uz,(r.val k).isSome_eq,Option.isSome_map]
 unfold JD storedH;rw [e];by_cases q:(atKey xs k).isSome=true
 ·rw [if_pos q,if_pos q];exact r.repl k j
 ·rw [if_neg q,if_neg q];exact Paired.snoc r ⟨rfl,B,j⟩
theorem KT.keeps (r:KT H kvs xs)(j:∀b ys,H b=some (.tup ys)->H' b=some (.tup ys)):KT H' kvs xs:=
 Paired.mapP r λ_ _ z=>⟨z.1,j _ _ z.2.1,z.2.2⟩
section
variable {P:PP}{w:Ab}{H:Hp}{h:Heap}{a:AD}
theorem Zfr (ok:HOk P w H h)(e:Rd H a u):ObjOk P w H h a u:=e.ok ok
theorem ZbX (ok:HOk P w H h)(e:Rd H a (.dK kvs)):kvs.length<=sizeLine/\(a == sysModules)=false/\∃vs,KV kvs vs/\h.DictOf (G5 P w) a vs:=
 show ObjOk P w H h a (.dK kvs) from Zfr ok e
theorem Zfs (ok:HOk P w H h)(e:H a=some (.dK kvs)):kvs.length<=sizeLine/\(a == sysModules)=false/\∃vs,KV kvs vs/\h.DictOf (G5 P w) a vs:=ZbX ok (.inl e)
theorem XZ (ok:HOk P w H h)(e:H a=some (.tup (ks.map kV))):(tupleKind (G5 P w)).is h ks a:=by
 obtain ⟨_,its,r,o,h1,h2,n,j⟩:=(show ObjOk P w H h a (.tup (ks.map kV)) from ok a _ e);exact ⟨o,its.toArray,n,h1,h2,j,by simpa using WK r⟩
theorem ZbY (ok:HOk P w H h)(e:Rd H a (.dT kvs)):kvs.length<=sizeLine/\(a == sysModules)=false /\
  ∃xs,KT H kvs xs/\h.DictOfH (tupleKind (G5 P w)) a xs:=by
 obtain ⟨z,y,xs,r,o,es,ep,h1,h2,B,D,L⟩:=(show ObjOk P w H h a (.dT kvs) from Zfr ok e);refine ⟨z,y,xs,r,o,es,ep,h1,h2,B,D,λx j=>?_,L⟩;have all:∀{l:List (List Key×V)}{m:List (List Key×AD×Aa)},KT H l m->∀x∈m,(tupleKind (G5 P w)).is h x.1 x.2.1:=by
  intro l m q
  induction q with
  | nil=>intro x j;exact nomatch j
  | @cons p q ps qs hq t ih=>
   intro x j;rcases Yam.mp j with e | j
   ·subst e;exact XZ ok (by rw [<-hq.1];exact hq.2.1)
   ·exact ih x j
 exact all r x j
theorem ZhD (ok:HOk P w H h)(e:H a=some (.dT kvs)):kvs.length<=sizeLine/\(a == sysModules)=false /\
  ∃xs,KT H kvs xs/\h.DictOfH (tupleKind (G5 P w)) a xs:=ZbY ok (.inl e)
end
noncomputable def DGet (H:Hp)(a:AD)(y:V)(r:Option V):Prop:=
 (∃kvs k,Rd H a (.dK kvs)/\y=kV k/\r=JC kvs k)\/∃kvs k b,Rd H a (.dT kvs)/\y=.ref b/\H b=some (.tup (k.map kV))/\r=JC kvs k
noncomputable def DPut (H:Hp)(a:AD)(y v:V)(H':Hp):Prop:=
 (∃kvs k,H a=some (.dK kvs)/\y=kV k/\kvs.length<sizeLine/\H'=upd H a (.dK (JD kvs k v))) \/
 ∃kvs k b,H a=some (.dT kvs)/\y=.ref b/\H b=some (.tup (k.map kV))/\kvs.length<sizeLine/\H'=upd H a (.dT (JD kvs k v))
theorem DGet.k {k:Key}(e:H a=some (.dK kvs)):DGet H a (kV k) (JC kvs k):=.inl ⟨kvs,k,.inl e,rfl,rfl⟩
theorem DGet.t {k:List Key}(e:H a=some (.dT kvs))(j:H b=some (.tup (k.map kV))):DGet H a (.ref b) (JC kvs k):=.inr ⟨kvs,k,b,.inl e,rfl,j,rfl⟩
theorem DPut.k {k:Key}(e:H a=some (.dK kvs))(j:kvs.length<sizeLine):DPut H a (kV k) v (upd H a (.dK (JD kvs k v))):=.inl ⟨kvs,k,e,rfl,j,rfl⟩
theorem DPut.t {k:List Key}(e:H a=some (.dT kvs))(j:H b=some (.tup (k.map kV)))(q:kvs.length<sizeLine) :
  DPut H a (.ref b) v (upd H a (.dT (JD kvs k v))):=.inr ⟨kvs,k,b,e,rfl,j,q,rfl⟩
section
variable {X:Cx}{qQ:List (AD×Obj)}{σ:St}{H:Hp}{s:SS}{a:AD}{y v:V}{u r:Aa}{o:Option V}{A:Around}{E:Aa->SS->Prop}
theorem Inv.big (I:Inv X qQ σ H s):sysModules<s.heap.objs.size:=by
 have h:mainGlobals<s.heap.objs.size:=(I.mod.glob.keeps I.bk).lt;exact Nat.lt_trans (by decide) h
theorem Z9 (Y:A.units+1<cLine)(I:Inv X qQ σ H s)(g:DGet H a y (some v))(U:RelV y u)(h:∀B s',Inv X qQ σ H s'->RelV v B->Q B s') :
  wpAny (model X.prog X.w) A (getItem (.ref a) u) Q E s:=by
 rcases g with ⟨kvs,k,e,D,l⟩ | ⟨kvs,k,b,e,D,Z,l⟩
 ·subst D;obtain ⟨z,hd,vs,j,L⟩:=ZbX I.hok e;obtain ⟨B,N,q⟩:=RelO.some_of (v:=v) (o:=valueAt vs k) (by rw [l];exact j.val k);exact wpAny_getItem_of (Z8 U) L.mapOf N (h B _ (I.tok _) q)
 ·subst D;cases (show u=Value.ref b from U);obtain ⟨z,hd,xs,j,L⟩:=ZbY I.hok e;obtain ⟨B,N,q⟩:=RelO.some_of (v:=v) (o:=(atKey xs k).map (·.2)) (by rw [l];exact j.val k);obtain ⟨p,hp,O⟩:=Ybw.mp N;refine wpAny_getItem_heap (tupleKind_room_in1 Y) (XZ I.hok Z) L hp ?_;rw [O];exact h B _ (I.tok _) q
theorem ZdV (O:A.units+1<cLine)(I:Inv X qQ σ H s)(g:DGet H a y o)(N:RelV y u)(h:∀s',Inv X qQ σ H s'->Q (.bool (!o.isSome)) s') :
  wpAny (model X.prog X.w) A (compareOp .NotIn u (.ref a)) Q E s:=by
 rcases g with ⟨kvs,k,e,B,l⟩ | ⟨kvs,k,b,e,B,U,l⟩
 ·subst B;obtain ⟨z,D,vs,j,L⟩:=ZbX I.hok e;refine wpAny_notIn_of (Z8 N) D L.mapOf ?_;rw [<-(j.val k).isSome_eq,<-l];exact h _ (I.tok _)
 ·subst B;cases (show u=Value.ref b from N);obtain ⟨z,D,xs,j,L⟩:=ZbY I.hok e;refine wpAny_notIn_heap (tupleKind_room_in1 O) (XZ I.hok U) D L ?_;have q:=(j.val k).isSome_eq;rw [Option.isSome_map] at q;rw [<-q,<-l];exact h _ (I.tok _)
theorem VS (I:Inv X qQ σ H s)(B:Mut (H a))(D:Heap.SameBut a s.heap h')(L:∃q,h'.get? a=some q)(new:ObjOk X.prog X.w (upd H a j) h' a j) :
  Inv X qQ σ (upd H a j) { s with heap:=h',toks:=t' }:=
 I.write (x:=a) (e:=a) B (.inl rfl) (λb q N z=>(D.2 b N).trans z) L new
theorem Zda (z:kvs.length<=sizeLine)(q:(a == sysModules)=false)(j:KV kvs vs)(dd:h'.DictOf (G5 P w) a vs) :
  ObjOk P w H' h' a (.dK kvs):=⟨z,q,vs,j,dd⟩
theorem Zaa (hu:A.units+1<cLine)(I:Inv X qQ σ H s)(g:DPut H a y v H')(ry:RelV y u)(rv:RelV v r)(h:∀s',Inv X qQ σ H' s'->Q () s') :
  wpAny (model X.prog X.w) A (setItem (.ref a) u r) Q E s:=by
 rcases g with ⟨kvs,k,e,L,l,N⟩ | ⟨kvs,k,b,e,L,eb,l,N⟩
 ·subst L N;obtain ⟨z,O,vs,j,U⟩:=Zfs I.hok e;have Y:vs.length<=sizeLine:=by rw [<-j.length];exact z
  have Z:(JD kvs k v).length<=sizeLine:=by have:=GW kvs k v;lia
  refine wpAny_setItem_pairs (hsz:=Y) (Z8 ry) U λh' B hs=>h _ ?_;have he:∃q,h'.get? a=some q:=let ⟨q,_,_,D,_⟩:=B;⟨q,D⟩;exact VS I (by rw [e];exact True.intro) hs he (Zda Z O (j.put k rv) B)
 ·subst L N;cases (show u=Value.ref b from ry);obtain ⟨z,O,xs,j,U⟩:=ZhD I.hok e;have Y:xs.length<=sizeLine:=by rw [<-Ycv j];exact z
  have Z:(JD kvs k v).length<=sizeLine:=by have:=GW kvs k v;lia
  refine wpAny_setItem_heap (hsz:=Y) (tupleKind_room_in1 hu) (XZ I.hok eb) U λh' B hs=>h _ ?_;obtain ⟨q,es,ep,D,h2,h3,h4,_,h5⟩:=B;refine VS I (by rw [e];exact True.intro) hs ⟨q,D⟩ ⟨Z,O,_,(j.put k eb rv).keeps λc ys ec=>?_,q,es,ep,D,h2,h3,h4,h5⟩;rw [Gj (G6 ec e (λz=>nomatch z))];exact ec
end
noncomputable def Zft (i:Expr):Prop:=∀j q,subscripted i false j q=operate [j,q] (getItem j q)
theorem Zab {T id:String}(O:typeLookup (.type T) "__getitem__" = pure (some (.builtin id)))(U:Zft j)(h:wpAny (model prog w) A (eval value env) (λo D=>wpAny (model prog w) A (eval j env) (λi q=>q.TypeIs o T/\wpAny (model prog w) A (getItem o i) Q E q) E D) E s) :
  wpAny (model prog w) A (eval (.Subscript value j pos) env) Q E s:=by
 refine Subscript_ (Ybr h (λo D Y=>Ybr Y (λi q B=>?_) λ_ _ x=>x) λ_ _ x=>x);obtain ⟨L,B⟩:=B;unfold subscriptTail;refine Yaa ?_;rw [getitemInPython_of_ne L.not_modules];refine Yaa (wpAny_specialOf L O ?_);have fin:wpAny (model prog w) A (subscripted j false o i) (λr N=>wpAny (model prog w) A (letTemporaryGo value o r >>= λ_=>pure r) Q E N) E q:=by
  rw [U o i];exact wpAny_operating (Ybr B (λr N Z=>Yaa (wpAny_letTemporaryGo (Yab Z))) λ_ _ x=>x)
 first
  | exact Yab (Yaa fin)
  | exact Yaa (Yab (Yaa fin))
  | exact Yaa fin
theorem Xi (I:Inv X qQ σ H s)(g:DGet H a y o):s.TypeIs (.ref a) "dict" := by
 rcases g with ⟨kvs,k,e,_,_⟩ | ⟨kvs,k,b,e,_,_,_⟩
 ·obtain ⟨_,_,vs,_,j⟩:=ZbX I.hok e;exact j.typeIs
 ·obtain ⟨_,_,xs,_,j⟩:=ZbY I.hok e;exact j.typeIs
noncomputable def ZdW (td ty:TE):TE:=λσ H Q=>td σ H λx H1=>ty σ H1 λy H2=>∃a v,x=.ref a/\DGet H2 a y (some v)/\Q v H2
noncomputable def ZdX (ty td:TE):TE:=λσ H Q=>ty σ H λy H1=>td σ H1 λx H2=>∃a o,x=.ref a/\DGet H2 a y o/\Q (.bl (!o.isSome)) H2
noncomputable def ZhE (td ty tv:TE):TS:=λD σ H=>tv σ H λv H1=>td σ H1 λx H2=>ty σ H2 λy q=>∃a j,x=.ref a/\DPut q a y v j/\D.nx σ j
section
variable {X:Cx}{o i e value:Expr}{pos pos' tpos:Pos}{td ty tv:TE}
theorem ZdY (B:X.A.units+1<cLine)(D:PE X o td)(hi:PE X i ty)(L:Zft i):PE X (.Subscript o i pos) (ZdW td ty):=by
 intro qQ s σ H Q I h;refine Zab PySem.F.slot_dict_getitem.lookup L (thG (D qQ s σ H _ I h) λu N x H1 O U Y=>thG (hi qQ N σ H1 _ O Y) λiv s2 y H2 q Z ⟨a,v,ex,g,q2⟩=>?_);subst ex;obtain rfl:u=Value.ref a:=U;exact ⟨Xi q g,Z9 B q g Z λw' s3 I3 j=>⟨v,H2,I3,j,q2⟩⟩
theorem UO (j:X.A.units+1<cLine)(hi:PE X i ty)(q:PE X o td):PC X .NotIn i o (ZdX ty td):=by
 intro qQ s σ H Q I h;refine thG (hi qQ s σ H _ I h) λiv B y H1 D L N=>thG (q qQ B σ H1 _ D N) λu s2 x H2 O U ⟨a,Y,ex,g,Z⟩=>?_;subst ex;obtain rfl:u=Value.ref a:=U;exact ZdV j O g L λs3 I3=>⟨.bl (!Y.isSome),H2,I3,rfl,Z⟩
theorem Ua (j:X.A.units+1<cLine)(q:PE X o td)(hi:PE X i ty)(B:PE X value tv)(L:swapsWith value (some (.Subscript o i pos')) pos.line X.env=pure false) :
  PS X (.Assign [.Subscript o i pos'] value pos) (ZhE td ty tv):=by
 intro qQ s σ H D I h;refine wpAny_Assign_Subscript (thG (B qQ s σ H _ I h) λr N v H1 O U Y=>thG (q qQ N σ H1 _ O Y) λu Z x H2 I2 rx q2=>thG (hi qQ Z σ H2 _ I2 q2) λiv s3 y H3 I3 ry ⟨a,H4,ex,g,q3⟩=>?_) L;subst ex;obtain rfl:u=Value.ref a:=rx;exact Zaa j I3 g ry U λs4 I4=>⟨σ,H4,I4,q3⟩
end
theorem ZbZ (h:Heap)(j:sysModules<h.objs.size):ObjOk P w H (h.push { cls:=.type "dict", data:=.dict #[] }) h.objs.size (.dK []):=
 ⟨Yat _,Yea.mpr (Ne.symm (Yar j)),[],.nil,Heap.DictOf.new h⟩
theorem Zb0 (h:Heap)(j:sysModules<h.objs.size):ObjOk P w H (h.push { cls:=.type "dict", data:=.dict #[] }) h.objs.size (.dT []):=
 ⟨Yat _,Yea.mpr (Ne.symm (Yar j)),[],.nil,_,#[],0,Yaw _ rfl,⟨rfl,rfl,rfl⟩,rfl,rfl,Yee⟩
noncomputable def Zfu:TE:=λ_ H Q=>∀p,H p=none->Q (.ref p) (upd H p (.dT []))
section
variable {X:Cx}{pos:Pos}
theorem Zb1:PE X (.Dict [] [] pos) Zfu:=λqQ s σ H Q I h=>
 wpAny_Dict_empty ⟨.ref s.heap.objs.size,_,I.laid (a:=s.heap.objs.size) (o:=.dT []) (t':=s.toks) (λ_ _ q=>Yae _ q) (Yaf _) (Zb0 s.heap I.big),rfl,h _ (I.hok.fresh (Yaf _))⟩
end
noncomputable def Zac:List (TE×TE)->St->Hp->(List (V×V)->Hp->Prop)->Prop
 | [],_,H,Q=>Q [] H
 | (tk,tv)::r,σ,H,Q=>tk σ H λx H1=>tv σ H1 λy H2=>Zac r σ H2 λps H3=>Q ((x,y)::ps) H3
noncomputable abbrev VV:List (V×V)->List (Aa×Aa)->Prop:=Paired λp q=>RelV p.1 q.1/\RelV p.2 q.2
noncomputable def PPs (X:Cx)(pos:Pos)(q:List (Option Expr))(j:List Expr)(B:List (TE×TE)):Prop:=
 ∀(qQ:List (AD×Obj))(s:SS)(σ:St)(H:Hp)(Q:List (V×V)->Hp->Prop),Inv X qQ σ H s->Zac B σ H Q ->
  wpAny (model X.prog X.w) X.A (evalPairs (pairTrees q j X.env pos)) (λvs s'=>∃ps H',Inv X qQ σ H' s'/\VV ps vs/\Q ps H') X.xe s
theorem VT :PPs X pos [] [] []:=λqQ s σ H Q I h=>pairTrees_nil_walk ⟨[],H,I,.nil,h⟩
theorem JF (B:PE X k tk)(D:PE X v tv)(L:PPs X pos ks vs j) :
  PPs X pos (some k::ks) (v::vs) ((tk,tv)::j):=λqQ s σ H Q I h=>
 pairTrees_cons_walk (thG (B qQ s σ H _ I h) λu N x H1 O U Y=>thG (D qQ N σ H1 _ O Y) λw2 Z y H2 I2 ry q2=>
  thG (L qQ Z σ H2 _ I2 q2) λws s3 ps H3 I3 q q3=>⟨(x,y)::ps,H3,I3,.cons ⟨U,ry⟩ q,q3⟩)
noncomputable def G4 (kvs more:List (Key×V)):List (Key×V):=more.foldl (λacc j=>JD acc j.1 j.2) kvs
theorem KV.merge:∀{more:List (Key×V)}{rs:List (Key×Aa)}{kvs:List (Key×V)}{vs:List (Key×Aa)},KV more rs->KV kvs vs->KV (G4 kvs more) (merged vs rs):=by
 intro more rs kvs vs r;unfold KV at r
 induction r generalizing kvs vs with
 | nil=>intro q;exact q
 | @cons p q ps qs h t ih=>
  intro j;have e:KV (JD kvs p.1 p.2) (stored vs q.1 q.2):=by
   have:=j.put p.1 h.2;rw [<-h.1];exact this
  exact ih e
theorem OH:∀(more kvs:List (Key×V)),(G4 kvs more).length<=kvs.length+more.length
 | [],kvs=>by show kvs.length<=kvs.length+0;lia
 | p::r,kvs=>by
  have h1:=OH r (JD kvs p.1 p.2);have h2:=GW kvs p.1 p.2;show (G4 (JD kvs p.1 p.2) r).length<=_;rw [Ybm];lia
theorem Vp {P:PP}{w:Ab}:∀{kvs:List (Key×V)}{ws:List (Aa×Aa)},VV (kvs.map λj=>(kV j.1,j.2)) ws->∃rs,Carries (G5 P w) ws rs/\KV kvs rs
 | [],_,r=>by rw [List.map_nil] at r;cases r;exact ⟨[],True.intro,.nil⟩
 | p::kvs,_,r=>by
  rw [Yaq] at r;cases r with
  | @cons a b as bs h t=>
   obtain ⟨rs,c,q⟩:=Vp (P:=P) (w:=w) t;obtain ⟨D,B⟩:=b;exact ⟨(p.1,B)::rs,⟨Z8 h.1,rfl,c⟩,.cons ⟨rfl,h.2⟩ q⟩
noncomputable def Zfv (j:List (TE×TE)):TE:=λσ H Q=>∀p,H p=none->Zac j σ (upd H p (.dK [])) λps H2=>H2 p=some (.dK [])/\∃kvs:List (Key×V),ps=kvs.map (λq=>(kV q.1,q.2))/\kvs.length<=15/\Q (.ref p) (upd H2 p (.dK (G4 [] kvs)))
theorem VU {X:Cx}{pos:Pos}{j:List (Option Expr)}{B:List Expr}{D:List (TE×TE)}(h:PPs X pos j B D)(Y:j.all (·.isSome)=true)(Z:j.length=B.length)(h0:j≠[])(N:j.length<=15):PE X (.Dict j B pos) (Zfv D):=by
 intro qQ s σ H Q I q;have hn:=I.hok.fresh (Yaf s.heap.objs.size);have I1:=I.laid (a:=s.heap.objs.size) (o:=.dK []) (h':=s.heap.push { cls:=.type "dict", data:=.dict #[] }) (t':=s.toks) (λ_ _ q=>Yae _ q) (Yaf _) (ZbZ s.heap I.big);refine wpAny_Dict_walk (knd:=G5 X.prog X.w) Y Z h0 N (thG (h qQ _ σ _ _ I1 (q _ hn)) λws s2 ps H2 U O ⟨e,kvs,ep,lk,q2⟩=>?_);subst ep;obtain ⟨rs,c,rk⟩:=Vp (P:=X.prog) (w:=X.w) O;obtain ⟨z,hd,aa,r0,dd⟩:=Zfs U.hok e;cases r0;refine ⟨rs,c,dd,λh' L hs=>⟨.ref s.heap.objs.size,_,?_,rfl,q2⟩⟩;have hz:(G4 [] kvs).length<=sizeLine:=by
  have h1:=OH kvs [];rw [List.length_nil] at h1;rw [Yav];lia
 have he:∃q,h'.get? s.heap.objs.size=some q:=let ⟨q,_,_,hq,_⟩:=L;⟨q,hq⟩;exact VS U (by rw [e];exact True.intro) hs he (Zda hz hd (rk.merge .nil) L)
section
variable {X:Cx}
theorem kBm {id:String}(K:FG)(O:PlainAttrs T)(D:Slot T name id)(N:typeOf (.builtin id)=pure (.type "method_descriptor"))(U:MtM X id r)(Y:PE X o to)(ha:PA X (e::es) t)(Z:X.K=K:=by rfl)(q:attributeBase o name X.env (eval o X.env)=eval o X.env:=by rfl)(L:((backTo qG (starEach (e::es) X.env)).all (λx=>!x.1) && (backToKw qG (keywordEach [] X.env)).all (λx=>x.1.isSome)
   && decide ((e::es).length+([]:List Keyword).length+(if ([]:List Keyword).isEmpty then 0 else 1)<30))=true:=by rfl)(B:(apos.endLine == qG.line)=true:=by rfl)(hs:starEach (e::es) X.env=(false,eval e X.env)::starEach es X.env:=by rfl)(j:(backTo qG (starEach es X.env)).any (·.1)=false:=by rfl) :
  PE X (.Call (.Attribute o name apos) (e::es) [] qG) (tBM K T r to t):=Z▸Zhw O D N U Y ha q L B hs j
theorem Zad:bootBuiltins "zip" = some (.type "zip"):=by first | rfl | decide +kernel
end
theorem Zb2 {K:FG}(j:Nat->St->Hp->Prop)(h0:j 0 σ H)(q:∀i σ H,i<=xs.length->j i σ H->SqL K H a xs)(B:∀i x σ H T,xs[i]?=some x->j i σ H->H T=none->g (.ref T) σ (upd H T (.tup [.int (i:Nat),x])) λL H2=>tb { D with nx:=j (i+1),ct:=j (i+1),bk:=D.nx } L H2)(N:∀ σ H,j xs.length σ H->D.nx σ H) :
  YK (Ite K a) g tb D σ H:=UG j h0 (λi s H hi p=>⟨λz=>⟨xs,xs[i],q i s H hi p,by simp [z]⟩,λe=>⟨xs,q i s H hi p,by lia⟩⟩) (λi s H x H' z p y=>by obtain ⟨T,O,rfl,U,rfl,y⟩:=y;exact B i O s H T (y xs (q i s _ (Ycw z) p)) p U) N
theorem VW (its:LW):∀m:Nat,m<=its.length->((List.range m).map λ(k:Nat)=>((its.length:Int)-1+(-1) * (k:Int)).toNat).filterMap (its.toArray[·]?)=(its.drop (its.length-m)).reverse
 | 0,_=>by simp
 | m+1,h=>by
  have ih:=VW its m (by lia);have hi:its.length-(m+1)<its.length:=by lia
  have j:((its.length:Int)-1+(-1) * (m:Int)).toNat=its.length-(m+1):=by lia
  rw [List.range_succ,Yas,List.filterMap_append,ih,Yaq,List.map_nil,j];rw [Yfr hi,show its.length-(m+1)+1=its.length-m by lia,List.reverse_cons]
  congr 1
  have q:its.toArray[its.length-(m+1)]?=some its[its.length-(m+1)]:=by simp [hi]
  rw [List.filterMap_cons,q]
  rfl
theorem VX (its:LW):slicePick its.toArray none none (some (-1))=its.reverse.toArray:=by
 unfold slicePick sliceBounds sliceRange;simp only [Option.getD_some,Yau,show ¬ ((-1:Int) > 0) by decide,Ycy];have e:((if ((its.length:Int)-1 > -1) then (((its.length:Int)-1 - -1 - -1-1) / - -1) else 0:Int)).toNat=its.length:=by
  rw [show (- -1:Int)=1 by decide,Int.ediv_one];split <;> lia
 rw [e,VW its its.length (Yaf _),Nat.sub_self,List.drop_zero]
theorem Vd (its:LW):slicePick its.toArray none (some 0) (some (-1))=(its.drop 1).reverse.toArray:=by
 unfold slicePick sliceBounds sliceRange;simp only [Option.getD_some,Yau,show ¬ ((-1:Int) > 0) by decide,show ¬ ((0:Int)<0) by decide,Ycy];have e:((if ((its.length:Int)-1 > max (-1) (min 0 ((its.length:Int)-1))) then (((its.length:Int)-1-max (-1) (min 0 ((its.length:Int)-1)) - -1-1) / - -1) else 0:Int)).toNat=its.length-1:=by
  rw [show (- -1:Int)=1 by decide,Int.ediv_one];split <;> lia
 rw [e,VW its (its.length-1) (Nat.sub_le _ _)];cases its with
 | nil=>rfl
 | cons a r=>
  rw [show (a::r).length-((a::r).length-1)=1 by simp]
section
variable {X:Cx}
noncomputable def ZgY (hi:Option Int)(xs:List V):List V:=match hi with
 | none=>xs.reverse
 | some _=>(xs.drop 1).reverse
noncomputable def Zix (K:FG)(te:TE)(th:TO):TE:=λσ H Q=>te σ H λx H1=>th σ H1 λu H2=>∃a xs,x=.ref a/\SqL K H2 a xs/\(u=none\/u=some 0)/\∀p,H2 p=none->Q (.ref p) (upd H2 p (.lst (ZgY u xs)))
theorem Zae {e st:Expr}(K:FG)(he:PE X e te)(hu:PO X hi th)(L:PE X st (tUn (rU λi=>.int (-i)) (tC (.int 1))))(hK:X.K=K:=by rfl)(ht:∀o r,letTemporaryGo e o r=pure ():=by intro _ _;rfl) :
  PE X (.Subscript e (.Slice none hi (some st) p2) pos) (Zix K te th):=by
 subst hK;intro qQ s σ H Q I h;refine wpAny_Subscript_Slice_step slot_list_getitem.lookup (thG (he qQ s σ H _ I h) λv s1 x H1 I1 r1 q1=>?_) ht;refine wpAny_Slice ?_;rw [evalPart_none];refine Yab (thG (hu qQ s1 σ H1 _ I1 q1) λvu s3 u U I3 pu q3=>?_);rw [evalPart_some];refine thG (L qQ s3 σ U (λy N=>y=.int (-1)/\N=U) I3 ⟨1,rfl,rfl,rfl⟩) λvs j y N I4 r4 ⟨ey,eH⟩=>?_;subst ey eH;obtain ⟨Y,rfl⟩:=r4;obtain ⟨a,xs,rfl,hx,O,q⟩:=q3;cases r1;have D:Inv X qQ σ N { j with heap:=j.heap.push { cls:=.type "slice", data:=.fields #[.none,vu,.int (-1) Y] } }:=I4.kept (t':=j.toks) λb ob q=>Yae _ q;obtain ⟨its,r,Z,hz⟩:=D.list hx;have qV:=r.length;refine ⟨Z.isList.typeIs,?_⟩;refine wpAny_getItem_list_slice Z.isList ⟨_,Yaw _ rfl,rfl,rfl⟩ .none pu (.int (-1) Y) (by decide) ?_ (by rw [Yau] <;> lia);have B:=D.fresh;rcases O with rfl | rfl
 ·rw [VX];exact ⟨.ref _,_,D.lnew (ys:=xs.reverse) (t':=j.toks) r.reverse (by rw [List.length_reverse];exact hz),rfl,q _ B⟩
 ·rw [Vd];exact ⟨.ref _,_,D.lnew (ys:=(xs.drop 1).reverse) (t':=j.toks) (Vals.reverse (Vals.drop' r 1)) (by rw [List.length_reverse,Yel];lia),rfl,q _ B⟩
end
structure FunD (K:FG)(x qual:Str)(st:Stmt)(dV:Aa)(f:AD)(fd:FuncData):Prop where
 ex:∃(oc:Aa)(od:Option AD)(kV doc pm:Aa)(an:Option AD)(cdv ct:Aa)(osl:Array (Option Aa)),
  fd=W.fnOf x qual (Jj st) (GR st) (Gf st) dV kV doc pm an cdv ct/\K.lookup f=some ⟨oc,od,.func fd,osl⟩/\W.codeIn K cdv qual=true
 kp:W.keepIn K (.ref f)=true
section
variable {P:PP}{w:Ab}{K:FG}{mg:Str->Option Aa}{base:Heap}
theorem FunD.ok {st:Stmt}(F:FunD K x qual st L f fd)(S:Gn N ps (Gf st))(len:∀vs H Q E,sp vs H Q E->vs.length=ps.length)(O:∀(j:Aa)(A:Around)(outer:List Env)(s:SS)(H:Hp)(vs:List V)(Q:VK)(E:XK),Room k (A.deeper (envOfC qual (Gf st) s.heap.objs.size f j))->sp vs H Q E ->
   ∃t,PSs (YT CX0 P w K mg base N qual (Gf st) f j A outer s H E).nox (GR st) t/\t { nx:=λ_ H'=>Q .non H',rt:=Q } (start N vs) H):GE P w K mg base CX0 (k+1) f fd ps sp:=by
 obtain ⟨oc,od,kV,U,pm,an,j,ct,Y,rfl,Z,B⟩:=F.ex;refine ZS Z B S len λA outer s H vs Q E hr D=>?_;obtain ⟨t,h,q⟩:=O j A outer s H vs Q E hr D;exact ⟨t,h.nox,q⟩
theorem ZdZ {st:Stmt}{L kV q pm j ct:Aa}(l:K.lookup f=some ⟨N,O,.func (W.fnOf x qual (Jj st) (GR st) (Gf st) L kV q pm D j ct),B⟩)(c:W.codeIn K j qual=true)(k:W.keepIn K (.ref f)=true):FunD K x qual st L f (W.fnOf x qual (Jj st) (GR st) (Gf st) L kV q pm D j ct):=⟨⟨N,O,kV,q,pm,D,j,ct,B,rfl,l,c⟩,k⟩
end
end L2
namespace L2
open PySem
noncomputable def itf (M:Nat):Nat->Nat->Nat
 | 0,x=>x
 | k+1,x=>itf M k ((x * 5+1) % M)
theorem VY (M:Nat):∀(a b x:Nat),itf M (a+b) x=itf M b (itf M a x)
 | 0,b,x=>by rw [Ydm];rfl
 | a+1,b,x=>by rw [Nat.add_right_comm];exact VY M a b _
noncomputable def ZgZ (M:Nat):Nat->Nat->Nat->Nat
 | 0,_,m=>m
 | n+1,x,m=>ZgZ M n ((x * 5+1) % M) (m ||| 2 ^ x)
theorem X0 {M j:Nat}:∀{n x m:Nat},(ZgZ M n x m).testBit j=true->m.testBit j=true\/∃k,k<n/\itf M k x=j
 | 0,x,m,h=>.inl h
 | n+1,x,m,h=>by
  rcases X0 (n:=n) h with z | ⟨k,h1,h2⟩
  ·rw [Nat.testBit_or,Bool.or_eq_true] at z;rcases z with z | z
   ·exact .inl z
   ·rw [Nat.testBit_two_pow,decide_eq_true_eq] at z;exact .inr ⟨0,by lia,z⟩
  ·exact .inr ⟨k+1,by lia,h2⟩
noncomputable def X1 (M:Nat):Bool:=ZgZ M M 0 0 == 2 ^ M-1 && itf M M 0 == 0
theorem Ziy:X1 8=true:=by decide +kernel
theorem Zfw:X1 32=true:=by decide +kernel
theorem Zdb:X1 128=true:=by decide +kernel
theorem Zdc:X1 512=true:=by decide +kernel
theorem Zaf:X1 2048=true:=by decide +kernel
theorem Zd0 (h:X1 M=true)(hi:i<M)(q:j<M):∃k,k<M/\itf M k i=j:=by
 unfold X1 at h;rw [Ybz,Ybi,Ybi] at h;obtain ⟨h1,h2⟩:=h;have all:∀j,j<M->∃k,k<M/\itf M k 0=j:=λj q=>by
  have z:(ZgZ M M 0 0).testBit j=true:=by rw [h1,Nat.testBit_two_pow_sub_one];exact Yay q
  rcases X0 z with z | z
  ·simp at z
  ·exact z
 obtain ⟨a,ha,D⟩:=all i hi;obtain ⟨b,N,L⟩:=all j q;by_cases B:a<=b
 ·refine ⟨b-a,by lia,?_⟩;rw [<-D,<-VY,Ydn B];exact L
 ·refine ⟨b+M-a,by lia,?_⟩;rw [<-D,<-VY,show a+(b+M-a)=M+b by lia,VY,h2];exact L
noncomputable def adv (mask:Nat)(p:SetTable.Probe):SetTable.Probe:=
 if p.more > 0 then { p with j:=p.j+1,more:=p.more-1 }
 else { p with j:=(SetTable.leap mask p.i p.perturb).1,more:=SetTable.runEnd mask (SetTable.leap mask p.i p.perturb).1-(SetTable.leap mask p.i p.perturb).1,i:=(SetTable.leap mask p.i p.perturb).1,perturb:=(SetTable.leap mask p.i p.perturb).2 }
theorem Zdd (t:SetTable)(p:SetTable.Probe):t.advance p=adv t.mask p:=rfl
noncomputable def GJ (mask:Nat):Nat->SetTable.Probe->SetTable.Probe
 | 0,p=>p
 | n+1,p=>GJ mask n (adv mask p)
theorem GZ (mask:Nat):∀(a b:Nat)(p:SetTable.Probe),GJ mask (a+b) p=GJ mask b (GJ mask a p)
 | 0,b,p=>by rw [Ydm];rfl
 | a+1,b,p=>by rw [Nat.add_right_comm];exact GZ mask a b _
theorem WL (mask n:Nat)(p:SetTable.Probe):GJ mask (n+1) p=adv mask (GJ mask n p):=GZ mask n 1 p
theorem WM (mask:Nat)(p:SetTable.Probe):(adv mask p).dummy=p.dummy:=by
 unfold adv;split <;> rfl
theorem Vq (mask:Nat):∀(n:Nat)(p:SetTable.Probe),(GJ mask n p).dummy=p.dummy
 | 0,_=>rfl
 | n+1,p=>(Vq mask n (adv mask p)).trans (WM mask p)
noncomputable def rs (mask i pt:Nat):SetTable.Probe:={ j:=i,more:=SetTable.runEnd mask i-i,i:=i,perturb:=pt,dummy:=none }
noncomputable def st0 (mask:Nat)(h:Int):SetTable.Probe:=rs mask (SetTable.bits h % (mask+1)) (SetTable.bits h)
theorem Zfx (t:SetTable)(h:Int):t.probeStart h=st0 t.mask h:=rfl
theorem UP (h:i<=mask):SetTable.runEnd mask i<=mask:=by
 unfold SetTable.runEnd;split <;> lia
theorem YX (mask i:Nat):SetTable.runEnd mask i-i<=9:=by
 unfold SetTable.runEnd;split <;> lia
theorem UQ (mask i:Nat):i<=SetTable.runEnd mask i:=by
 unfold SetTable.runEnd;split <;> lia
theorem Oe (mask i pt:Nat):∀k,k<=SetTable.runEnd mask i-i->GJ mask k (rs mask i pt)={ j:=i+k,more:=SetTable.runEnd mask i-i-k,i:=i,perturb:=pt,dummy:=none }
 | 0,_=>rfl
 | k+1,h=>by
  rw [WL,Oe mask i pt k (by lia)];unfold adv;rw [if_pos (by show SetTable.runEnd mask i-i-k > 0;lia)];show SetTable.Probe.mk _ _ _ _ _=_
  congr 1
theorem OI (mask i pt:Nat):GJ mask (SetTable.runEnd mask i-i+1) (rs mask i pt)=rs mask (SetTable.leap mask i pt).1 (SetTable.leap mask i pt).2:=by
 rw [WL,Oe mask i pt _ (Yaf _)];unfold adv;rw [if_neg (by show ¬ (SetTable.runEnd mask i-i-(SetTable.runEnd mask i-i) > 0);lia)]
 rfl
theorem Vr (x mask:Nat):x % (mask+1)<=mask:=Nat.le_of_lt_succ (Nat.mod_lt _ (Nat.succ_pos _))
noncomputable def lps (mask:Nat):Nat->Nat×Nat->Nat×Nat
 | 0,x=>x
 | m+1,x=>lps mask m (SetTable.leap mask x.1 x.2)
theorem Zag (mask:Nat):∀(a b:Nat)(x:Nat×Nat),lps mask (a+b) x=lps mask b (lps mask a x)
 | 0,b,x=>by rw [Ydm];rfl
 | a+1,b,x=>by rw [Nat.add_right_comm];exact Zag mask a b _
theorem X2 (mask:Nat):∀(m:Nat)(x:Nat×Nat),∃n,n<=10 * m/\GJ mask n (rs mask x.1 x.2)=rs mask (lps mask m x).1 (lps mask m x).2
 | 0,x=>⟨0,Yaf _,rfl⟩
 | m+1,x=>by
  obtain ⟨n,h1,h2⟩:=X2 mask m (SetTable.leap mask x.1 x.2);refine ⟨SetTable.runEnd mask x.1-x.1+1+n,?_,?_⟩
  ·have:=YX mask x.1
   lia
  ·rw [GZ,OI];exact h2
theorem X3 (mask:Nat):∀(m i:Nat),lps mask m (i,0)=(itf (mask+1) m i,0)
 | 0,i=>rfl
 | m+1,i=>by
  show lps mask m (SetTable.leap mask i 0)=_;have e:SetTable.leap mask i 0=((i * 5+1) % (mask+1),0):=by unfold SetTable.leap;simp
  rw [e];exact X3 mask m _
theorem X4 (mask:Nat):∀(m i b:Nat),(lps mask m (i,b)).2=b / 32 ^ m
 | 0,i,b=>by simp [lps]
 | m+1,i,b=>by
  show (lps mask m (SetTable.leap mask i b)).2=_;have e:SetTable.leap mask i b=((SetTable.leap mask i b).1,b / 32):=rfl;rw [e,X4 mask m _ _,Nat.div_div_eq_div_mul,Nat.pow_succ,Nat.mul_comm]
theorem Zde (mask:Nat):∀(m i b:Nat),i<=mask->(lps mask m (i,b)).1<=mask
 | 0,i,b,h=>h
 | m+1,i,b,h=>Zde mask m _ _ (Vr _ _)
theorem Zd1 (h:Int):SetTable.bits h<2 ^ 64:=by
 unfold SetTable.bits;have h1:=Ycj h (show (2 ^ 64:Int)≠0 by decide);have h2:=Yco h (show (0:Int)<2 ^ 64 by decide)
 lia
theorem WN (D:X1 (mask+1)=true)(h:Int)(L:j<=mask):∃m,m<mask+14/\(lps mask m (SetTable.bits h % (mask+1),SetTable.bits h)).1=j:=by
 have B:=Zd1 h;generalize SetTable.bits h=b at B ⊢;have q:(lps mask 13 (b % (mask+1),b)).2=0:=by
  rw [X4];exact Nat.div_eq_of_lt (Nat.lt_trans B (by decide))
 have hi:(lps mask 13 (b % (mask+1),b)).1<=mask:=Zde mask 13 _ _ (Vr _ _);obtain ⟨k,O,N⟩:=Zd0 D (Nat.lt_succ_of_le hi) (Nat.lt_succ_of_le L);refine ⟨13+k,by lia,?_⟩;rw [Zag];have e:lps mask 13 (b % (mask+1),b)=((lps mask 13 (b % (mask+1),b)).1,0):=by rw [<-q]
 rw [e,X3];exact N
theorem Zah (q:X1 (mask+1)=true)(h:Int)(B:j<=mask):∃n,n+10<10 * SetTable.turns mask/\(GJ mask n (st0 mask h)).j=j:=by
 obtain ⟨m,N,D⟩:=WN q h B;obtain ⟨n,O,L⟩:=X2 mask m (SetTable.bits h % (mask+1),SetTable.bits h);refine ⟨n,by unfold SetTable.turns;lia,?_⟩;show (GJ mask n (rs mask _ _)).j=j;rw [L];exact D
theorem Zfy (h:p.j+p.more<=mask):(adv mask p).j+(adv mask p).more<=mask:=by
 unfold adv;split
 ·show p.j+1+(p.more-1)<=mask
  lia
 ·have h1:(SetTable.leap mask p.i p.perturb).1<=mask:=Vr _ _;have h2:=UP h1;have q:=UQ mask (SetTable.leap mask p.i p.perturb).1;show (SetTable.leap mask p.i p.perturb).1+(SetTable.runEnd mask (SetTable.leap mask p.i p.perturb).1-(SetTable.leap mask p.i p.perturb).1)<=mask
  lia
theorem Zai {mask:Nat}:∀{n:Nat}{p:SetTable.Probe},p.j+p.more<=mask->(GJ mask n p).j+(GJ mask n p).more<=mask
 | 0,_,h=>h
 | n+1,p,h=>Zai (n:=n) (Zfy h)
theorem Zfz (mask:Nat)(h:Int):(st0 mask h).j+(st0 mask h).more<=mask:=by
 have h1:SetTable.bits h % (mask+1)<=mask:=Vr _ _;have h2:=UP h1;have q:=UQ mask (SetTable.bits h % (mask+1));show SetTable.bits h % (mask+1)+(SetTable.runEnd mask (SetTable.bits h % (mask+1))-SetTable.bits h % (mask+1))<=mask
 lia
theorem Zaj (mask n:Nat)(h:Int):(GJ mask n (st0 mask h)).j<=mask:=by
 have:=Zai (n:=n) (Zfz mask h)
 lia
noncomputable def Rise (xs:Array Nat):Prop:=xs.toList.Pairwise (· < ·)
theorem Rise.lt (h:Rise xs){q r a b:Nat}(j:q<r)(ha:xs[q]?=some a)(B:xs[r]?=some b):a<b:=by
 rw [<-Yax] at ha B;obtain ⟨h1,D⟩:=Yao.mp ha;obtain ⟨h2,L⟩:=Yao.mp B;have:=Yef.mp h q r h1 h2 j;rw [D,L] at this;exact this
theorem VZ {xs:Array Nat}{j:Nat}(O:Rise xs):∀(B lo hi:Nat),hi-lo<=B->lo<=hi->hi<=xs.size ->
  (∀q a,q<lo->xs[q]?=some a->a<j)->(∀q a,hi<=q->xs[q]?=some a->j<=a) ->
  SetTable.below.go xs j B lo hi<=xs.size/\(∀q a,q<SetTable.below.go xs j B lo hi->xs[q]?=some a->a<j)/\(∀q a,SetTable.below.go xs j B lo hi<=q->xs[q]?=some a->j<=a)
 | 0,lo,hi,h0,h1,h2,hl,hh=>by
  have e:hi=lo:=by lia
  subst e;exact ⟨h2,hl,hh⟩
 | B+1,lo,hi,h0,h1,h2,hl,hh=>by
  unfold SetTable.below.go;by_cases L:lo<hi
  ·rw [if_pos L];have Y:(lo+hi) / 2<xs.size:=by lia
   have N:xs[(lo+hi) / 2]?=some xs[(lo+hi) / 2]:=Ybd Y;have Z:xs.getD ((lo+hi) / 2) j=xs[(lo+hi) / 2]:=by
    rw [Yet,N];rfl
   dsimp only;rw [Z];by_cases U:xs[(lo+hi) / 2]<j
   ·rw [if_pos U];refine VZ O B _ _ (by lia) (by lia) h2 (λq a hq ha=>?_) hh;by_cases D:q=(lo+hi) / 2
    ·rw [D,N] at ha;cases ha;exact U
    ·exact Nat.lt_trans (O.lt (by lia) ha N) U
   ·rw [if_neg U];refine VZ O B _ _ (by lia) (by lia) (by lia) hl (λq a hq ha=>?_);by_cases D:q=(lo+hi) / 2
    ·rw [D,N] at ha;cases ha;lia
    ·have:=O.lt (show (lo+hi) / 2<q by lia) N ha
     lia
  ·rw [if_neg L];have e:hi=lo:=by lia
   subst e;exact ⟨h2,hl,hh⟩
theorem Ub (D:Rise xs):SetTable.below xs j<=xs.size/\(∀q a,q<SetTable.below xs j->xs[q]?=some a->a<j)/\(∀q a,SetTable.below xs j<=q->xs[q]?=some a->j<=a):=by
 unfold SetTable.below;refine VZ D xs.size 0 xs.size (by lia) (by lia) (Yaf _) (λq a B=>absurd B (Ydf _)) λq a B ha=>?_;rw [Yfs B] at ha;cases ha
theorem UA (q:Rise xs)(h:xs[i]?=some j):SetTable.below xs j=i:=by
 obtain ⟨h1,h2,D⟩:=Ub (j:=j) q;rcases Yfg (SetTable.below xs j) i with z | z | z
 ·have B:SetTable.below xs j<xs.size:=by
   have:=(Yft.mp h).1
   lia
  have:=q.lt z (Ybd B) h;have:=D _ _ (Yaf _) (Ybd B)
  lia
 ·exact z
 ·have:=h2 i j z h
  lia
theorem YY (t:SetTable)(B:Rise t.place)(D:t.dummies=#[])(j:Nat):(t.slot j=.empty/\j ∉ t.place.toList)\/∃i,t.slot j=.live i/\t.place[i]?=some j:=by
 unfold SetTable.slot;dsimp only;by_cases h:t.place[SetTable.below t.place j]?=some j
 ·refine .inr ⟨SetTable.below t.place j,?_,h⟩;rw [if_pos (by rw [h];exact Yff _)]
 ·refine .inl ⟨?_,λL=>?_⟩
  ·rw [if_neg (by rw [Ybi];exact h),D];have e:SetTable.has #[] j=false:=by unfold SetTable.has;simp
   rw [e]
   rfl
  ·obtain ⟨i,hi,e⟩:=Yck L;have q:t.place[i]?=some j:=by
    rw [<-Yax,Yba hi,e]
   rw [UA B q] at h;exact h q
theorem Zak (t:SetTable)(q:Rise t.place)(h:t.place[i]?=some j):t.slot j=.live i:=by
 unfold SetTable.slot;dsimp only;rw [UA q h,if_pos (by rw [h];exact Yff _)]
theorem JM {xs:Array Nat}{i j:Nat}(h:xs[i]?=some j):j∈xs.toList:=by
 rw [<-Yax] at h;exact Ybf h
section
variable {t:SetTable}{ha:Nat->Int}{h:Int}
theorem Zal (O:Rise t.place)(U:t.dummies=#[]):∀(F:Nat)(p:SetTable.Probe),(∃n,n<F/\(GJ t.mask n p).j ∉ t.place.toList) ->
  (∃n,SetTable.probe.go t ha h F p=some (.empty (GJ t.mask n p).j p.dummy)/\(GJ t.mask n p).j ∉ t.place.toList/\∀q,q<n->∃i,t.place[i]?=some (GJ t.mask q p).j/\ha i≠h) \/
  (∃n i,SetTable.probe.go t ha h F p=some (.candidate (GJ t.mask n p).j i (GJ t.mask (n+1) p))/\t.place[i]?=some (GJ t.mask n p).j/\ha i=h/\∀q,q<n->∃i,t.place[i]?=some (GJ t.mask q p).j/\ha i≠h)
 | 0,p,⟨n,hn,_⟩=>absurd hn (Ydf _)
 | F+1,p,⟨n,hn,hf⟩=>by
  rcases YY t O U p.j with ⟨e,hm⟩ | ⟨i,e,hi⟩
  ·refine .inl ⟨0,?_,hm,λq B=>absurd B (Ydf _)⟩;unfold SetTable.probe.go;rw [e]
   rfl
  ·by_cases hh:ha i=h
   ·refine .inr ⟨0,i,?_,hi,hh,λq B=>absurd B (Ydf _)⟩;unfold SetTable.probe.go;rw [e];dsimp only;rw [if_pos (by rw [hh];exact Yff _),Zdd]
    rfl
   ·have hs:SetTable.probe.go t ha h (F+1) p=SetTable.probe.go t ha h F (adv t.mask p):=by
     rw [SetTable.probe.go,e];dsimp only;rw [if_neg (by rw [Ybi];exact hh),Zdd]
    cases n with
    | zero=>exact absurd (JM hi) hf
    | succ n=>
     rw [hs];rcases Zal O U F (adv t.mask p) ⟨n,by lia,hf⟩ with ⟨m,D,L,N⟩ | ⟨m,Y,D,L,N,Z⟩
     ·refine .inl ⟨m+1,?_,L,λq B=>?_⟩
      ·rw [D,WM];rfl
      ·cases q with
       | zero=>exact ⟨i,hi,hh⟩
       | succ q=>exact N q (by lia)
     ·refine .inr ⟨m+1,Y,D,L,N,λq B=>?_⟩;cases q with
      | zero=>exact ⟨i,hi,hh⟩
      | succ q=>exact Z q (by lia)
theorem Vs {l:List Nat}(h:l.length<=mask):∃j,j<=mask/\j ∉ l:=by
 apply Classical.byContradiction;intro q;have B:List.range (mask+1) ⊆ l:=λj D=>Classical.byContradiction λL=>q ⟨j,by have:=Yci.mp D;lia,L⟩;have:=Ycp List.nodup_range B;rw [Ydo] at this
 lia
end
theorem isN {j:Array (Option Nat)}(q:x<j.size):(j.getD x (some 0)).isNone=true↔j[x]?=some none:=by
 rw [Yet,Ybd q];show j[x].isNone=true↔some j[x]=some none;cases j[x] <;> simp
theorem WP {mask:Nat}{B:Array (Option Nat)}(hz:B.size=mask+1):∀(F i pt:Nat),i<=mask ->
  (∃m,m<F/\B[(lps mask m (i,pt)).1]?=some none) ->
  ∃n,SetTable.layClean.free mask B F i pt=some (GJ mask n (rs mask i pt)).j/\B[(GJ mask n (rs mask i pt)).j]?=some none/\∀q,q<n->B[(GJ mask q (rs mask i pt)).j]?≠some none
 | 0,i,pt,_,⟨m,hm,_⟩=>absurd hm (Ydf _)
 | F+1,i,pt,hi,⟨m,hm,em⟩=>by
  have hre:=UP hi;have O:=UQ mask i;unfold SetTable.layClean.free;cases hf:List.find? (λk=>(B.getD (i+k) (some 0)).isNone) (List.range (SetTable.runEnd mask i+1-i)) with
  | some k=>
   obtain ⟨U,p2,Y⟩:=List.find?_range_eq_some.mp hf;have hk:=Yci.mp p2;refine ⟨k,?_,?_,λq N=>?_⟩
   ·rw [Oe mask i pt k (by lia)]
   ·rw [Oe mask i pt k (by lia)];show B[i+k]?=some none;exact (isN (by lia)).mp U
   ·rw [Oe mask i pt q (by lia)];show B[i+q]?≠some none;intro z;have h1:=Y q N;rw [(isN (by lia)).mpr z] at h1;cases h1
  | none=>
   have Z:=List.find?_eq_none.mp hf;have D:∀q,q<=SetTable.runEnd mask i-i->B[i+q]?≠some none:=λq N z=>Z q (Yci.mpr (by lia)) ((isN (by lia)).mpr z);cases m with
   | zero=>exact absurd em (D 0 (Yat _))
   | succ m=>
    obtain ⟨n,g1,g2,g3⟩:=WP hz F (SetTable.leap mask i pt).1 (SetTable.leap mask i pt).2 (Vr _ _) ⟨m,by lia,em⟩;refine ⟨SetTable.runEnd mask i-i+1+n,?_,?_,λq N=>?_⟩
    ·rw [GZ,OI];exact g1
    ·rw [GZ,OI];exact g2
    ·by_cases L:q<=SetTable.runEnd mask i-i
     ·rw [Oe mask i pt q L];exact D q L
     ·have e:q=SetTable.runEnd mask i-i+1+(q-(SetTable.runEnd mask i-i+1)):=by lia
      rw [e,GZ,OI];exact g3 _ (by lia)
noncomputable def X5 (mask:Nat)(acc:Option (Array (Option Nat)×Nat))(h:Int):Option (Array (Option Nat)×Nat):=
 acc.bind λx=>(SetTable.layClean.free mask x.1 (SetTable.turns mask) (SetTable.bits h % (mask+1)) (SetTable.bits h)).bind λj=>some (x.1.setIfInBounds j (some x.2),x.2+1)
theorem V0 (mask:Nat)(j:Array Int):SetTable.layClean mask j=(j.toList.foldl (X5 mask) (some (Array.replicate (mask+1) none,0))).map (·.1):=by
 unfold SetTable.layClean;rw [Array.foldl_toList]
 rfl
structure Lc (mask:Nat)(ow:Array (Option Nat))(js:List Nat)(hs:LI):Prop where
 sz:ow.size=mask+1
 len:js.length=hs.length
 at_:∀(q j:Nat),js[q]?=some j↔ow[j]?=some (some q)
 rch:∀(q:Nat)(h:Int)(j:Nat),hs[q]?=some h->js[q]?=some j->∃n,(GJ mask n (st0 mask h)).j=j/\∀r,r<n->ow[(GJ mask r (st0 mask h)).j]?≠some none
theorem Lc.nil (mask:Nat):Lc mask (Array.replicate (mask+1) none) [] []:=
 ⟨Array.size_replicate,rfl,λq j=>⟨λz=>by simp at z,λz=>by
  rw [Array.getElem?_replicate] at z;split at z <;> simp at z⟩,λq h j z=>by simp at z⟩
theorem Lc.step (L:Lc mask D Y B)(hc:X1 (mask+1)=true)(hl:B.length<=mask)(h:Int) :
  ∃j,X5 mask (some (D,B.length)) h=some (D.setIfInBounds j (some B.length),B.length+1)/\Lc mask (D.setIfInBounds j (some B.length)) (Y++[j]) (B++[h]):=by
 have Z:=L.len;obtain ⟨j0,ac,ad⟩:=Vs (mask:=mask) (l:=Y) (by lia);have e0:D[j0]?=some none:=by
  have aa:j0<D.size:=by rw [L.sz];lia
  rw [Ybd aa];cases q:D[j0] with
  | none=>rfl
  | some k=>
   exact absurd (Ybf ((L.at_ k j0).mpr (by rw [Ybd aa,q]))) ad
 obtain ⟨m,hm,em⟩:=WN hc h ac;obtain ⟨n,g1,g2,g3⟩:=WP L.sz (SetTable.turns mask) (SetTable.bits h % (mask+1)) (SetTable.bits h) (Vr _ _) ⟨m,by unfold SetTable.turns;lia,by rw [em];exact e0⟩;have ae:rs mask (SetTable.bits h % (mask+1)) (SetTable.bits h)=st0 mask h:=rfl;rw [ae] at g1 g2 g3;have O:(GJ mask n (st0 mask h)).j<D.size:=by rw [L.sz];have:=Zaj mask n h;lia
 refine ⟨(GJ mask n (st0 mask h)).j,?_,?_⟩
 ·unfold X5;rw [Option.bind_some,g1]
  rfl
 ·generalize hj:(GJ mask n (st0 mask h)).j=j at g2 O ⊢;have U:∀x,(D.setIfInBounds j (some B.length))[x]?=if j=x then some (some B.length) else D[x]?:=λx=>by
   rw [Array.getElem?_setIfInBounds,if_pos O]
  have af:j ∉ Y:=λhm=>by
   obtain ⟨q,hq,e⟩:=Yck hm;have:=(L.at_ q j).mp (by rw [Yba hq,e]);rw [g2] at this;cases this
  have ab:∀x,D[x]?≠some none->(D.setIfInBounds j (some B.length))[x]?≠some none:=λx N=>by
   rw [U];split
   ·simp
   ·exact N
  refine ⟨by rw [Array.size_setIfInBounds];exact L.sz,by simp [Z],λq x=>?_,λq g x e1 e2=>?_⟩
  ·rw [U];by_cases hq:q<Y.length
   ·rw [Ycx hq];by_cases N:j=x
    ·rw [if_pos N];constructor
     ·intro z;exact absurd (N▸Ybf z) af
     ·intro z;have:B.length=q:=by simpa using z
      lia
    ·rw [if_neg N];exact L.at_ q x
   ·rw [Ydv (by lia)];by_cases N:j=x
    ·rw [if_pos N];by_cases ag:q=Y.length
     ·subst ag;simp [N,Z]
     ·constructor
      ·intro z;have:([j]:List Nat)[q-Y.length]?=none:=List.getElem?_eq_none (by simp;lia);rw [this] at z;cases z
      ·intro z;have:B.length=q:=by simpa using z
       lia
    ·rw [if_neg N];constructor
     ·intro z;have:=Ybf z;simp at this;exact absurd this.symm N
     ·intro z;have:=(L.at_ q x).mpr z;rw [List.getElem?_eq_none (by lia)] at this;cases this
  ·by_cases hq:q<B.length
   ·rw [Ycx hq] at e1;rw [Ycx (by lia)] at e2;obtain ⟨n',r1,r2⟩:=L.rch q g x e1 e2;exact ⟨n',r1,λr hr=>ab _ (r2 r hr)⟩
   ·rw [Ydv (by lia)] at e1 e2;have h1:=Ybf e1;have h2:=Ybf e2;simp at h1 h2;subst h1 h2;exact ⟨n,hj,λr hr=>ab _ (g3 r hr)⟩
theorem Zam {mask:Nat}(N:X1 (mask+1)=true):∀(rest:LI)(ow:Array (Option Nat))(js:List Nat)(hs:LI),Lc mask ow js hs->hs.length+rest.length<=mask ->
  ∃q B,rest.foldl (X5 mask) (some (ow,hs.length))=some (q,(hs++rest).length)/\Lc mask q B (hs++rest)
 | [],ow,js,hs,L,_=>⟨ow,js,by simp,by simpa using L⟩
 | h::rest,ow,js,hs,L,hl=>by
  rw [Ybm] at hl;obtain ⟨j,e,L'⟩:=L.step N (by lia) h;obtain ⟨q,B,O,D⟩:=Zam N rest _ _ (hs++[h]) L' (by simp;lia);refine ⟨q,B,?_,by simpa using D⟩;rw [List.foldl_cons,e];have U:(hs++[h]).length=hs.length+1:=by simp
  rw [U] at O;rw [O];simp
theorem Uk {α β:Type}(f:α->Option β):∀(l:List α),(∀x∈l,(f x).isSome=true)->∀r:Nat,(l.filterMap f)[r]?=(l[r]?).bind f
 | [],_,r=>by simp
 | x::l,h,r=>by
  obtain ⟨y,hy⟩:=Yek.mp (h x (Ybg));rw [List.filterMap_cons_some hy];cases r with
  | zero=>simp [hy]
  | succ r=>
   rw [Yfh,Yfh];exact Uk f l (λz j=>h z (Ybe _ j)) r
structure Ziz (t:SetTable)(od:Array Nat)(mask finger moves:Nat)(led plain:Bool)(qY:Array Int):Prop where
 tm:t.mask=mask
 tl:t.led=led
 tp:t.plain=plain
 td:t.dummies=#[]
 rise:Rise t.place
 le:∀j∈t.place.toList,j<=mask
 perm:od.toList.Perm (List.range qY.size)
 sz:t.place.size=qY.size
 rch:∀(r q j:Nat)(h:Int),od[r]?=some q->t.place[r]?=some j->qY[q]?=some h->∃n,(GJ mask n (st0 mask h)).j=j/\∀r',r'<n->(GJ mask r' (st0 mask h)).j∈t.place.toList
theorem Zan (hc:X1 (mask+1)=true)(B D:Nat)(ab plain:Bool)(Y:Array Int)(hz:Y.size<=mask) :
  ∃t od,SetTable.laid mask B D ab plain Y=some (t,od)/\Ziz t od mask B D ab plain Y:=by
 obtain ⟨Z,js,e,L⟩:=Zam hc Y.toList _ [] [] (Lc.nil mask) (by simpa using hz);simp only [List.nil_append,List.length_nil] at e L;have hn:js.length=Y.size:=by rw [L.len,Yan]
 have e':SetTable.layClean mask Y=some Z:=by rw [V0,e];rfl
 generalize hlive:(List.range (mask+1)).filterMap (λj=>(Z.getD j none).map (j,·))=live;have mem:∀j q,(j,q)∈live↔j<=mask/\Z[j]?=some (some q):=by
  intro j q;rw [<-hlive,Ydi];constructor
  ·rintro ⟨a,ha,U⟩;have am:=Yci.mp ha;have N:a<Z.size:=by rw [L.sz];lia
   rw [Yet,Ybd N] at U;cases hq:Z[a] with
   | none=>rw [hq] at U;cases U
   | some k=>
    rw [hq] at U;have aa:(a,k)=(j,q):=Ybl U;cases aa;exact ⟨by lia,by rw [Ybd N,hq]⟩
  ·rintro ⟨h1,h2⟩;refine ⟨j,Yci.mpr (by lia),?_⟩;rw [Yet,h2]
   rfl
 have ac:(live.map (·.1)).Pairwise (· < ·):=by
  rw [Ybs,<-hlive];refine List.Pairwise.filterMap (R:=(· < ·)) _ (λa a' ad b U b' aa=>?_) List.pairwise_lt_range;obtain ⟨x,_,rfl⟩:=Ybw.mp U;obtain ⟨x',_,rfl⟩:=Ybw.mp aa;exact ad
 have ae:(live.map (·.2)).Nodup:=by
  unfold List.Nodup;rw [Ybs];have:=List.Pairwise.and_mem.mp (Ybs.mp ac);refine this.imp λ{a b} af z=>?_;obtain ⟨ha,U,an⟩:=af;have h1:=(L.at_ a.2 a.1).mpr ((mem a.1 a.2).mp ha).2;have h2:=(L.at_ b.2 b.1).mpr ((mem b.1 b.2).mp U).2;rw [z,h2] at h1;have:=Ybl h1
  lia
 have O:(live.map (·.2)).Perm (List.range Y.size):=by
  refine (List.perm_ext_iff_of_nodup ae List.nodup_range).mpr λq=>?_;rw [Yci,Yal];constructor
  ·rintro ⟨⟨j,q'⟩,hm,rfl⟩;have h1:=(L.at_ q' j).mpr ((mem j q').mp hm).2;have:=(Yao.mp h1).1;show q'<_
   lia
  ·intro hq;have ag:q<js.length:=by lia
   have h1:=(L.at_ q js[q]).mp (Yba ag);have h2:=(Yft.mp h1).1;rw [L.sz] at h2;exact ⟨(js[q],q),(mem _ _).mpr ⟨by lia,h1⟩,rfl⟩
 refine ⟨_,_,by unfold SetTable.laid;rw [e'];rfl,rfl,rfl,rfl,rfl,?_,?_,?_,?_,?_⟩
 ·unfold Rise;dsimp only;rw [hlive];exact ac
 ·dsimp only;rw [hlive];intro j hj;obtain ⟨⟨a,q⟩,hm,rfl⟩:=Yal.mp (show j∈live.map (·.1) from hj);exact ((mem a q).mp hm).1
 ·dsimp only;rw [hlive];exact O
 ·dsimp only;rw [hlive,Yau,Yac];have:=O.length_eq;rw [Yac,Ydo] at this;exact this
 ·dsimp only;rw [hlive];intro r q j h e1 e2 e3;rw [List.getElem?_toArray,Yaz] at e1 e2;cases hl:live[r]? with
  | none=>rw [hl] at e1;cases e1
  | some x=>
   rw [hl] at e1 e2;have ah:x.2=q:=Ybl e1;have ai:x.1=j:=Ybl e2;subst ah ai;have h1:=(L.at_ x.2 x.1).mpr ((mem x.1 x.2).mp (Ybf hl)).2;obtain ⟨n,r1,r2⟩:=L.rch x.2 h x.1 (by rw [Yax];exact e3) h1;refine ⟨n,r1,λr' aj=>?_⟩;have h2:=r2 r' aj;have ak:=Zaj mask r' h;have N:(GJ mask r' (st0 mask h)).j<Z.size:=by rw [L.sz];lia
   rw [Ybd N] at h2;cases hq:Z[(GJ mask r' (st0 mask h)).j] with
   | none=>rw [hq] at h2;exact absurd rfl h2
   | some k=>
    show _∈live.map (·.1);exact Yal.mpr ⟨(_,k),(mem _ _).mpr ⟨ak,by rw [Ybd N,hq]⟩,rfl⟩
noncomputable def ins {α:Type}(l:List α)(p:Nat)(x:α):List α:=l.take p++x::l.drop p
theorem X6 {α:Type}{l:List α}{x:α}(q:p<=l.length)(i:Nat):(ins l p x)[i]?=if i<p then l[i]? else if i=p then some x else l[i-1]?:=by
 unfold ins;have j:(l.take p).length=p:=by rw [Ybo];lia
 by_cases h:i<p
 ·rw [if_pos h,Ycx (by lia),Yeu,if_pos h]
 ·rw [if_neg h,Ydv (by lia),j];by_cases h':i=p
  ·subst h';simp
  ·rw [if_neg h'];have e:i-p=(i-p-1)+1:=by lia
   rw [e,Yfh,Yev]
   congr 1
   lia
theorem V1 {α:Type}{l:List α}{x:α}(j:p<=l.length):(ins l p x).length=l.length+1:=by
 unfold ins;simp
 lia
theorem Zd2 {α β:Type}(f:α->β)(l:List α)(p:Nat)(x:α):(ins l p x).map f=ins (l.map f) p (f x):=by
 unfold ins;simp
theorem ins_mem {α:Type}{l:List α}{x y:α}:y∈ins l p x↔y=x\/y∈l:=by
 unfold ins;rw [Yaj,Yam];constructor
 ·rintro (h | h | h)
  ·exact .inr (Yfu h)
  ·exact .inl h
  ·exact .inr (List.mem_of_mem_drop h)
 ·rintro (h | h)
  ·exact .inr (.inl h)
  ·rw [<-Ydp p l,Yaj] at h;rcases h with h | h
   ·exact .inl h
   ·exact .inr (.inr h)
structure TOk (t:SetTable)(hs:LI):Prop where
 mask:t.mask=7\/t.mask=31\/t.mask=127\/t.mask=511\/t.mask=2047
 dum:t.dummies=#[]
 len:t.place.size=hs.length
 rise:Rise t.place
 le:∀j∈t.place.toList,j<=t.mask
 rch:∀(i:Nat)(h:Int)(j:Nat),hs[i]?=some h->t.place[i]?=some j->∃n,(GJ t.mask n (st0 t.mask h)).j=j/\∀q,q<n->(GJ t.mask q (st0 t.mask h)).j∈t.place.toList
theorem TOk.cov (T:TOk t j):X1 (t.mask+1)=true:=by
 rcases T.mask with e | e | e | e | e <;> rw [e]
 ·exact Ziy
 ·exact Zfw
 ·exact Zdb
 ·exact Zdc
 ·exact Zaf
theorem TOk.fill (T:TOk t j):t.fill=j.length:=by
 unfold SetTable.fill;rw [T.dum,T.len]
 rfl
theorem TOk.fits (T:TOk t j)(h:j.length<=t.mask):t.fits j.length=true:=by
 unfold SetTable.fits;rw [Ybz,Ybi,decide_eq_true_eq,T.fill];exact ⟨T.len,h⟩
theorem TOk.odd (T:TOk t j):t.gaveWay=false:=by
 unfold SetTable.gaveWay;rcases T.mask with e | e | e | e | e <;> rw [e] <;> rfl
theorem TOk.fresh (f m:Nat)(q:Bool):TOk (SetTable.fresh f m q) []:=
 ⟨.inl rfl,rfl,rfl,List.Pairwise.nil,λj B=>by simp [SetTable.fresh] at B,λi h j e=>by simp at e⟩
theorem TOk.empty (T:TOk t q)(B:q.length<=t.mask)(h:Int):∃n,n+10<10 * SetTable.turns t.mask/\(GJ t.mask n (st0 t.mask h)).j ∉ t.place.toList:=by
 obtain ⟨j,h1,h2⟩:=Vs (mask:=t.mask) (l:=t.place.toList) (by rw [Yan,T.len];exact B);obtain ⟨n,D,L⟩:=Zah T.cov h h1;exact ⟨n,D,by rw [L];exact h2⟩
theorem ZhF {t:SetTable}:(t.put j).2=SetTable.below t.place j:=rfl
theorem J3 {t:SetTable}:(t.put j).1.place.toList=ins t.place.toList (SetTable.below t.place j) j:=by
 show (SetTable.insertAt t.place (SetTable.below t.place j) j).toList=_;rw [SetTable.toList_insertAt]
 rfl
theorem TOk.put (T:TOk t hs)(hn:(GJ t.mask n (st0 t.mask h)).j ∉ t.place.toList)(hr:∀q,q<n->(GJ t.mask q (st0 t.mask h)).j∈t.place.toList) :
  SetTable.below t.place (GJ t.mask n (st0 t.mask h)).j<=hs.length/\TOk (t.put (GJ t.mask n (st0 t.mask h)).j).1 (ins hs (SetTable.below t.place (GJ t.mask n (st0 t.mask h)).j) h):=by
 have U:=Zaj t.mask n h;generalize hj:(GJ t.mask n (st0 t.mask h)).j=j at hn U ⊢;obtain ⟨b1,b2,b3⟩:=Ub (j:=j) T.rise;have hb:SetTable.below t.place j<=hs.length:=by rw [<-T.len];exact b1
 have Y:SetTable.below t.place j<=t.place.toList.length:=by rw [Yan];exact b1
 have pm:∀x,x∈t.place.toList->x∈(t.put j).1.place.toList:=λx N=>by rw [J3];exact ins_mem.mpr (.inr N)
 refine ⟨hb,T.mask,?_,?_,?_,λx N=>?_,λi g x D L=>?_⟩
 ·show (if SetTable.has t.dummies j=true then SetTable.eraseAt t.dummies (SetTable.below t.dummies j) else t.dummies)=#[];rw [T.dum];have e:SetTable.has #[] j=false:=by unfold SetTable.has;simp
  rw [e]
  rfl
 ·rw [V1 hb,<-Yan,J3,V1 Y,Yan,T.len]
 ·unfold Rise;rw [J3];unfold ins;rw [Yca];refine ⟨List.Pairwise.sublist (List.take_sublist _ _) T.rise,?_,λa ha b B=>?_⟩
  ·refine Ydy.mpr ⟨λb B=>?_,List.Pairwise.sublist (List.drop_sublist _ _) T.rise⟩;obtain ⟨k,Z,e⟩:=Yck B;rw [List.getElem_drop] at e;rw [Yel] at Z;have O:t.place[SetTable.below t.place j+k]?=some b:=by
    rw [<-Yax,Yba (by lia),e]
   have h1:=b3 _ _ (Nat.le_add_right _ _) O;have h2:j≠b:=λz=>hn (z▸JM O)
   lia
  ·have aa:a<j:=by
    obtain ⟨k,Z,e⟩:=Yck ha;rw [List.getElem_take] at e;rw [Ybo] at Z;have O:t.place[k]?=some a:=by rw [<-Yax,Yba (by lia),e]
    exact b2 k a (by lia) O
   rcases Yam.mp B with rfl | B
   ·exact aa
   ·obtain ⟨k,Z,e⟩:=Yck B;rw [List.getElem_drop] at e;rw [Yel] at Z;have O:t.place[SetTable.below t.place j+k]?=some b:=by
     rw [<-Yax,Yba (by lia),e]
    have h1:=b3 _ _ (Nat.le_add_right _ _) O
    lia
 ·rw [J3] at N;rcases ins_mem.mp N with rfl | N
  ·exact U
  ·exact T.le x N
 ·rw [<-Yax,J3,X6 Y] at L;rw [X6 hb] at D;by_cases c1:i<SetTable.below t.place j
  ·rw [if_pos c1] at D L;obtain ⟨m,r1,r2⟩:=T.rch i g x D (by rw [<-Yax];exact L);exact ⟨m,r1,λq hq=>pm _ (r2 q hq)⟩
  ·rw [if_neg c1] at D L;by_cases c2:i=SetTable.below t.place j
   ·rw [if_pos c2] at D L;cases D;cases L;exact ⟨n,hj,λq hq=>pm _ (hr q hq)⟩
   ·rw [if_neg c2] at D L;obtain ⟨m,r1,r2⟩:=T.rch (i-1) g x D (by rw [<-Yax];exact L);exact ⟨m,r1,λq hq=>pm _ (r2 q hq)⟩
noncomputable abbrev Zb3 (es:Array (Int×Aa)):LI:=es.toList.map (·.1)
structure SOk (t:SetTable)(es:Array (Int×Aa)):Prop where
 T:TOk t (Zb3 es)
 room:es.size * 5<t.mask * 3
theorem Jk (es:Array (Int×Aa)):(Zb3 es).length=es.size:=by rw [Yac,Yan]
theorem SOk.le (S:SOk t es):(Zb3 es).length<=t.mask:=by
 have:=S.room;rw [Jk]
 lia
theorem SOk.fits (S:SOk t es):t.fits es.size=true:=by
 have:=S.T.fits S.le;rw [Jk] at this;exact this
theorem SOk.fresh (f m:Nat)(j:Bool):SOk (SetTable.fresh f m j) #[]:=⟨TOk.fresh f m j,by show 0 * 5<7 * 3;decide⟩
theorem Xj (es:Array (Int×Aa))(p:Nat)(h:Int)(x:Aa):Zb3 (SetTable.insertAt es p (h,x))=ins (Zb3 es) p h:=by
 unfold Zb3;rw [SetTable.toList_insertAt];exact Zd2 (·.1) es.toList p (h,x)
theorem V2 (es:Array (Int×Aa))(p:Nat)(x:Int×Aa):(SetTable.insertAt es p x).size=es.size+1:=by
 rw [<-Yan,(SetTable.insertAt_perm es p x).length_eq,Yan,Ycq]
theorem SOk.put (S:SOk t es)(x:Aa)(D:(GJ t.mask n (st0 t.mask h)).j ∉ t.place.toList)(L:∀q,q<n->(GJ t.mask q (st0 t.mask h)).j∈t.place.toList) :
  TOk (t.put (GJ t.mask n (st0 t.mask h)).j).1 (Zb3 (SetTable.insertAt es (t.put (GJ t.mask n (st0 t.mask h)).j).2 (h,x)))/\(t.put (GJ t.mask n (st0 t.mask h)).j).1.fits (es.size+1)=true:=by
 obtain ⟨h1,h2⟩:=S.T.put D L;rw [ZhF,Xj];refine ⟨h2,?_⟩;have B:=h2.fits (by rw [V1 h1,Jk];show es.size+1<=t.mask;have:=S.room;rcases S.T.mask with e | e | e | e | e <;> lia);rw [V1 h1,Jk] at B;exact B
theorem WQ {es:Array (Int×Aa)}{j:Array Nat}(h:j.toList.Perm (List.range es.size))(r:Nat):(j.filterMap (es[·]?))[r]?=(j[r]?).bind (es[·]?):=by
 rw [<-Yax,Array.toList_filterMap,Uk _ _ (λx q=>?_),Yax];have:=Yci.mp (h.mem_iff.mp q);rw [Ybd this]
 rfl
theorem JK {es:Array (Int×Aa)}{j:Array Nat}(h:j.toList.Perm (List.range es.size)):(j.filterMap (es[·]?)).toList.Perm es.toList:=by
 rw [Array.toList_filterMap];exact (h.filterMap _).trans (by rw [PySem.filterMap_getElem?_range])
theorem Zb4 (T:TOk t (Zb3 es))(hn:es.size=5/\t.mask=7\/es.size=19/\t.mask=31\/es.size=77/\t.mask=127\/es.size=307/\t.mask=511) :
  ∃O D,t.relaid (es.map (·.1)) (SetTable.grown es.size)=some (O,D)/\D.toList.Perm (List.range es.size)/\SOk O (D.filterMap (es[·]?))/\O.led=t.led/\O.plain=t.plain/\SetTable.sizeAbove (SetTable.grown es.size)<=2048:=by
 have N:(es.map (·.1)).size=es.size:=Array.size_map;have hm:∃m,SetTable.sizeAbove (SetTable.grown es.size)-1=m/\(m=31\/m=127\/m=511\/m=2047)/\es.size * 5<m * 3/\SetTable.sizeAbove (SetTable.grown es.size)<=2048:=by
  rcases hn with ⟨e,_⟩ | ⟨e,_⟩ | ⟨e,_⟩ | ⟨e,_⟩ <;> rw [e]
  ·exact ⟨31,by decide,.inl rfl,by decide,by decide⟩
  ·exact ⟨127,by decide,.inr (.inl rfl),by decide,by decide⟩
  ·exact ⟨511,by decide,.inr (.inr (.inl rfl)),by decide,by decide⟩
  ·exact ⟨2047,by decide,.inr (.inr (.inr rfl)),by decide,by decide⟩
 obtain ⟨m,e,U,jJ,Y⟩:=hm;have hc:X1 (m+1)=true:=by
  rcases U with rfl | rfl | rfl | rfl
  ·exact Zfw
  ·exact Zdb
  ·exact Zdc
  ·exact Zaf
 obtain ⟨O,D,e2,L⟩:=Zan hc t.finger (t.movedTo m) t.led t.plain (es.map (·.1)) (by rw [N];lia);have Z:=L.perm;rw [N] at Z;refine ⟨O,D,by unfold SetTable.relaid;rw [e];exact e2,Z,⟨⟨by rw [L.tm];exact .inr U,L.td,?_,L.rise,by rw [L.tm];exact L.le,λi h j e1 e3=>?_⟩,?_⟩,L.tl,L.tp,Y⟩
 ·rw [L.sz,N,Jk];have:=(JK Z).length_eq;rw [Yan,Yan] at this;exact this.symm
 ·rw [L.tm];have B:((D[i]?).bind (es[·]?)).map (·.1)=some h:=by
   rw [<-WQ Z,<-Yax,<-Yaz];exact e1
  cases hq:D[i]? with
  | none=>rw [hq] at B;cases B
  | some q=>
   rw [hq] at B;exact L.rch i q j h hq e3 (by rw [Array.getElem?_map];exact B)
 ·rw [L.tm];have:=(JK Z).length_eq;rw [Yan,Yan] at this;rw [this];exact jJ
theorem Zao (S:SOk t es)(L:es.size+1<=1228)(D:TOk j B)(N:B.length=es.size+1)(O:j.mask=t.mask) :
  (j.tooFull=true/\(es.size+1=5/\j.mask=7\/es.size+1=19/\j.mask=31\/es.size+1=77/\j.mask=127\/es.size+1=307/\j.mask=511))\/(j.tooFull=false/\(es.size+1) * 5<j.mask * 3):=by
 have U:=S.room;have e:j.tooFull=decide ((es.size+1) * 5>=j.mask * 3):=by
  unfold SetTable.tooFull;rw [D.fill,N]
 rw [e];by_cases h:(es.size+1) * 5>=j.mask * 3
 ·refine .inl ⟨Yay h,?_⟩;rcases D.mask with q | q | q | q | q
  ·left;lia
  ·right;left;lia
  ·right;right;left;lia
  ·right;right;right;lia
  ·lia
 ·exact .inr ⟨Ybp h,by lia⟩
end L2
namespace L2
open PySem PySem.Spec PyProof.Rows
theorem sit_slot_next:Slot "set_iterator" "__next__" "set_iterator.__next__" := by
 refine .of (owner := "set_iterator") (n := "__next__") ?_ (by decide +kernel) (by decide +kernel) (by decide +kernel) ?_ ?_
 ·rw [typeLookup_type,builtinLookup_eq_fast];kernel_rfl
 ·first | exact .inl (by decide +kernel) | exact .inr (by decide +kernel)
 ·rw [isSubtype_type];kernel_rfl
theorem OJ:Slot "set_iterator" "__iter__" "set_iterator.__iter__" := by
 refine .of (owner := "set_iterator") (n := "__iter__") ?_ (by decide +kernel) (by decide +kernel) (by decide +kernel) ?_ ?_
 ·rw [typeLookup_type,builtinLookup_eq_fast];kernel_rfl
 ·first | exact .inl (by decide +kernel) | exact .inr (by decide +kernel)
 ·rw [isSubtype_type];kernel_rfl
theorem Op:entryFor table "set_iterator.__next__" = some Builtin.«set_iterator.__next__»:=by
 first | exact entryFor_of_tree (by kernel_rfl) | exact entryFor_of_fast (by kernel_rfl)
theorem OK (a:Aa):argsOk "set_iterator.__next__" ⟨[a],[]⟩:=by
 unfold argsOk;kernel_rfl
theorem Ve:entryFor table "set.__iter__" = some Builtin.«frozenset.__iter__»:=by
 first | exact entryFor_alias (id' := "frozenset.__iter__") (by kernel_rfl) (by decide +kernel) (by decide +kernel) (by kernel_rfl) | exact entryFor_alias (id' := "frozenset.__iter__") (by kernel_rfl) rfl (by decide +kernel) (by kernel_rfl)
noncomputable def J4 (w:Ab):Bool:=w.params.followText "set-order"
section
variable {P:PP}{w:Ab}{A:Around}{E:Aa->SS->Prop}{s:SS}
theorem UR (h:Q (J4 w) s):wpAny (model P w) A setsByText Q E s:=by
 unfold setsByText;exact Yaa (wpAny_askSetting (Yab h))
theorem WR {h:Heap}(B:h.get? a=some o)(q:o.data=.set es ep t)(j:Array (Int×Aa))(t':SetTable) :
  (h.update a (Obj.putSet j t')).get? a=some { o with data:=.set j (ep+1) t' }:=by
 have:=Ydq (Obj.putSet j t') B (by rw [putSet_of j t' q];rfl);rw [putSet_of j t' q] at this;exact this
noncomputable def Ja (w:Ab):Obj:={ cls:=.type "set", dict:=none,data:=.set #[] 0 (.fresh 0 0 (!J4 w)) }
theorem Zb5 (a:Aa)(h:Q1 (.ref s.heap.objs.size) { s with heap:=s.heap.push (Ja w) }) :
  codeAny (model P w) A (.call (.builtin "set.__new__") ⟨[.type "set", a],[]⟩) (wants Q1 E) s:=by
 apply codeAny_of_tree;show wpAny _ A.in1 (checkBuiltinCall "set.__new__" ⟨[.type "set", a],[]⟩ >>= λ_=>again (.builtin "set.__new__" ⟨[.type "set", a],[]⟩)) _ _ s;apply Yaa;apply wpAny_of_eq (F.newCall_set_1 a);refine Yab ⟨Yeg F.plain_set_new _,?_⟩;apply Ycz F.entry_set_new;rw [Ydz F.plain_set_new _];unfold Builtin.«set.__new__» Builtin.Frozenset.newClass;have j:=sub_set_self;obtain ⟨q,g,d,tk,B⟩:=s;dsimp only
 wp_walk
 apply wpAny_askSetting;apply Yab;dsimp only;simp only [newObj];apply Yaa;apply wpAny_alloc;apply Yab;apply Yab;exact h
theorem Zb6 {St:Nat->SS->Prop}(W:WalksS P w A.in1 I fp wr G n Pv St)(S:AD)(D:S ∉ fp)(J:Nat->Obj->Prop)(Kp:Heap->Prop)(hK:∀h h':Heap,Kp h->(∀b o,b ∉ S::wr->h.get? b=some o->h'.get? b=some o)->Kp h')(L:∀(i:Nat)(v:Aa)(s1:SS)(o:Obj)(Q:Bool->SS->Prop)(E1:Aa->SS->Prop),i<n->Pv i v->Kp s1.heap->s1.heap.get? S=some o->J i o ->
   (∀(b:Bool)(h':Heap)(tk:Nat)(o':Obj),s1.toks<=tk->Heap.SameBut S s1.heap h'->h'.get? S=some o'->J (i+1) o'->Q b { s1 with heap:=h',toks:=tk })->wpAny (model P w) A.in1 (setAdd S v) Q E1 s1) :
  ∀(k i:Nat)(s:SS)(o:Obj),n-i=k->i<=n->St i s->Kp s.heap->s.heap.get? S=some o->J i o ->
   (∀(s':SS)(o':Obj),Moved (S::wr) G s s'->s'.heap.get? S=some o'->J n o'->R (.ok (.ret .none)) s') ->
   codeAny (model P w) A (.builtin "set.update.loop" ⟨[.ref S,.ref I],[]⟩) R s:=by
 have N:S ∉ wr:=λz=>D (W.sub _ z);have Z:∀b∈wr,b∈S::wr:=λb z=>Ybe _ z;intro k
 induction k with
 | zero=>
  intro i s o hk hi st kp ho hj hR;have e:i=n:=by lia
  subst e;apply Ycz PyProof.Rows.F.entry_set_update_loop;rw [Ydz PyProof.Rows.F.plain_set_update_loop _];apply Yaa;refine W.done s _ _ st λs1 B=>?_;apply Yab;exact hR s1 o (B.mono Z) (B.heap S _ N ho) hj
 | succ k ih=>
  intro i s o hk hi st kp ho hj hR;have j:i<n:=by lia
  apply Ycz PyProof.Rows.F.entry_set_update_loop;rw [Ydz PyProof.Rows.F.plain_set_update_loop _];apply Yaa;refine W.item i s _ _ j st λv s1 hv aa B=>?_;have ab:=B.heap S _ N ho;have O:Kp s1.heap:=hK _ _ kp λb o' q e=>B.heap b o' (λz=>q (Z _ z)) e;apply Yaa;apply Ycb;refine L i v s1 o _ _ j hv O ab hj λb h' tk o' U sb ac ad=>?_;refine Yab ⟨Yeg PyProof.Rows.F.plain_set_update_loop _,ih (i+1) _ o' (by lia) j (W.frame _ s1 _ _ aa U λb q Y e=>?_) (hK _ _ O λb Y q e=>?_) ac ad λs2 Y ae af ag=>?_⟩
  ·rw [sb.2 b (λz:b=S=>D (z▸q))];exact e
  ·show h'.get? b=some Y;rw [sb.2 b (λz:b=S=>q (by rw [z];exact Ybg))];exact e
  ·refine hR s2 Y (Moved.trans W.gtrans ((B.mono Z).then_heap U λb o3 q e=>?_) ae) af ag;rw [sb.2 b (λz:b=S=>q (by rw [z];exact Ybg))];exact e
theorem Zap (hh:A.handled=none)(hl:s.heap.IsList l items)(J:Nat->Obj->Prop)(Kp:Heap->Prop)(h0:J 0 (Ja w))(af:∀h':Heap,(∀b o,b<s.heap.objs.size->s.heap.get? b=some o->h'.get? b=some o)->Kp h')(O:∀(i:Nat)(v:Aa)(s1:SS)(o:Obj)(Q:Bool->SS->Prop)(E1:Aa->SS->Prop),i<items.size->items[i]?=some v->Kp s1.heap->s1.heap.get? s.heap.objs.size=some o->J i o ->
   (∀(b:Bool)(h':Heap)(tk:Nat)(o':Obj),s1.toks<=tk->Heap.SameBut s.heap.objs.size s1.heap h'->h'.get? s.heap.objs.size=some o'->J (i+1) o'->Q b { s1 with heap:=h',toks:=tk })->wpAny (model P w) A.in1.in1.in1 (setAdd s.heap.objs.size v) Q E1 s1)(h:∀(h':Heap)(tk:Nat)(o':Obj),h'.get? s.heap.objs.size=some o'->J items.size o'->(∀b o,b<s.heap.objs.size->s.heap.get? b=some o->h'.get? b=some o)->Q (.ref s.heap.objs.size) { s with heap:=h',toks:=tk }) :
  wpAny (model P w) A (call (.type "set") [.ref l]) Q E s:=by
 obtain ⟨c,tl,ap⟩:=F.called_set.mro;have ag:=F.called_set.made;have aq:=F.called_set.sub;apply wpAny_call;apply codeAny_of_tree;show wpAny _ _ (callAny (.type "set") _) _ _ _;refine Yab ⟨Code.quiet_builtin _ (by decide +kernel),?_⟩;apply Ycz F.entry_type_call;rw [Around.under_plain (weight_type_call_type "set" [.ref l] []) rfl];have h1:=F.called_set.notType;have h2:=F.called_set.canCreate;have av:=F.typeCall_set_1 (.ref l)
 repeat (any_goals (first | assumption | wp_step))
 refine codeAny_mono (Zb5 (.ref l) (E:=E) (Q1:=λobj s1=>obj=.ref s.heap.objs.size/\s1={ s with heap:=s.heap.push (Ja w) }) ⟨rfl,rfl⟩) λr s1 hr=>?_;cases r with
 | error e=>exact hr
 | ok fl=>
  cases fl with
  | ret obj=>
   obtain ⟨rfl,rfl⟩:=hr;have hS:(s.heap.push (Ja w)).get? s.heap.objs.size=some (Ja w):=Yaw _ rfl;have hT:Shared.TypeIs { s with heap:=s.heap.push (Ja w) } (.ref s.heap.objs.size) "set" := ⟨_,hS,rfl⟩;have aw:=F.called_set.init.lookup;have ax:=F.called_set.init.bind (.ref s.heap.objs.size)
   repeat (any_goals (first | assumption | wp_step))
   refine codeAny_mono (codeAny_call_builtin (R:=wants (λr s2=>r=.none/\∃(h':Heap)(tk:Nat)(o':Obj),s2={ s with heap:=h',toks:=tk }/\h'.get? s.heap.objs.size=some o'/\J items.size o' /\
     (∀b o,b<s.heap.objs.size->s.heap.get? b=some o->h'.get? b=some o)) E) F.called_set.init.plain F.entry_set_init (check_set_init_1 hT ?_)) λr2 s2 q=>?_
   ·obtain ⟨ol,U,Y,nl,Z⟩:=hl;obtain ⟨ar,B,ah,j⟩:=ol;simp only at Y Z;subst Y;subst Z;have aa:(s.heap.push (Ja w)).get? l=some { cls:=.type "list", dict:=B,data:=.seq items nl,slots:=j }:=Yae _ U;have as:=F.sub_list_set;have au:=F.sub_list_frozenset;have ay:(Value.type "list" == Value.type "dict")=false:=by decide
    have ab:(s.heap.push (Ja w)).IsList l items:=⟨_,aa,rfl,nl,rfl⟩;have az:(s.heap.push (Ja w)).get? s.heap.objs.size=some { cls:=.type "set", dict:=none,data:=.set #[] 0 (.fresh 0 0 (!J4 w)) }:=hS;unfold Builtin.«set.__init__» noKeywords Builtin.Frozenset.updateFrom;generalize hPI:pyIter=PI
    wp_walk
    subst hPI;apply wpAny_pyIter_list ab;apply Yaa;apply wpAny_runValue;have ac:l<s.heap.objs.size:=Yah U;have ai:A.in1.in1.in1.handled=none:=by simp [hh]
    have hz:(s.heap.push (Ja w)).objs.size=s.heap.objs.size+1:=Ybn ..;have ad:l≠(s.heap.push (Ja w)).objs.size:=by rw [hz];exact Yar (Yen ac)
    have aj:s.heap.objs.size ∉ [(s.heap.push (Ja w)).objs.size,l]:=by
     rw [hz];intro z;rcases Yam.mp z with z | z
     ·exact Yar (Nat.lt_succ_self _) z
     ·exact Ydd ac (Yai.mp z)
    have ae:∀b o,b<s.heap.objs.size->s.heap.get? b=some o->((s.heap.push (Ja w)).push { cls:=.type "list_iterator", data:=.fields #[.ref l,.int 0 0] }).get? b=some o:=
     λb o _ e=>Yae _ (Yae _ e)
    refine Zb6 ((Walks.list ai _ l ad items).toS) s.heap.objs.size aj J (λh'=>∀b o,b<s.heap.objs.size->s.heap.get? b=some o->h'.get? b=some o) ?_ ?_ (items.size-0) 0 _ (Ja w) (by lia) (Yat _)
     ⟨⟨_,Yaw _ rfl,rfl,rfl⟩,(ab.push _)⟩ ae (Yae _ hS) h0 ?_
    ·intro ha hb ak al b o D e;refine al b o ?_ (ak b o D e);intro z;rcases Yam.mp z with z | z
     ·exact Yar D z
     ·exact Yar (Yen D) ((Yai.mp z).trans hz)
    ·intro i v s1 o Q1 E1 hi hv kp ho hj hq;exact O i v s1 o Q1 E1 hi hv (af _ kp) ho hj hq
    ·intro s' o' hm L N;obtain ⟨h',g',d',am,an⟩:=s';have eg:g'=s.gens:=hm.gens;have ed:d'=s.drawn:=hm.drawn;have eo:an=s.os:=hm.os;subst eg;subst ed;subst eo;apply Yab;refine Yab ⟨rfl,h',am,o',rfl,L,N,λb o hb e=>?_⟩;refine hm.heap b o ?_ (Yae _ (Yae _ e));intro z;rcases Yam.mp z with z | z
     ·exact Yar hb z
     ·exact Yar (Yen hb) ((Yai.mp z).trans hz)
   ·cases r2 with
    | error e=>exact q
    | ok fl2=>
     cases fl2 with
     | ret r=>
      obtain ⟨rfl,h',tk,o',rfl,L,N,ao⟩:=q
      repeat (any_goals (first | assumption | wp_step))
      exact h _ _ _ L N ao
     | _=>exact q.elim
  | _=>exact hr.elim
theorem Zaq {α:Type}(next:Nat->Nat):∀(q k:Nat)(left:List α)(out:Array α),left.length=q->(pickOrder.go next q k left out).toList.Perm (out.toList++left)
 | 0,k,left,out,h=>by
  have:left=[]:=List.length_eq_zero_iff.mp h;subst this;unfold pickOrder.go;simp
 | q+1,k,left,out,h=>by
  have j:next k % left.length<left.length:=Nat.mod_lt _ (by lia)
  unfold pickOrder.go;rw [Yba j];dsimp only;refine (Zaq next q (k+1) _ _ (by rw [List.length_eraseIdx,if_pos j];lia)).trans ?_;rw [Yeo];exact XX left out.toList _ _ (Yba j)
theorem Zar {α:Type}(next:Nat->Nat)(xs:Array α):(pickOrder next xs).toList.Perm xs.toList:=by
 unfold pickOrder;have:=Zaq next xs.size 0 xs.toList #[] (by simp)
 simpa using this
noncomputable def OL (t:SetTable):Nat->Nat
 | 0=>0
 | i+1=>t.place.getD i 0+1
theorem YZ (L:Rise t.place)(hi:i<=t.place.size):SetTable.below t.place (OL t i)=i:=by
 obtain ⟨b1,U,Y⟩:=Ub (j:=OL t i) L;have lo:∀q a,q<i->t.place[q]?=some a->a<OL t i:=λq a Z ha=>by
  cases i with
  | zero=>lia
  | succ i=>
   have B:i<t.place.size:=by lia
   have e:t.place.getD i 0=t.place[i]:=by rw [Yet,Ybd B];rfl
   show a<t.place.getD i 0+1;rw [e];by_cases N:q=i
   ·subst N;rw [Ybd B] at ha;cases ha;exact Nat.lt_succ_self _
   ·have:=L.lt (show q<i by lia) ha (Ybd B)
    lia
 have O:∀q a,i<=q->t.place[q]?=some a->OL t i<=a:=λq a Z ha=>by
  cases i with
  | zero=>exact Yat _
  | succ i=>
   have B:i<t.place.size:=by lia
   have e:t.place.getD i 0=t.place[i]:=by rw [Yet,Ybd B];rfl
   show t.place.getD i 0+1<=a;rw [e];exact L.lt (show i<q by lia) (Ybd B) ha
 rcases Yfg (SetTable.below t.place (OL t i)) i with z | z | z
 ·have D:SetTable.below t.place (OL t i)<t.place.size:=by lia
  have h1:=lo _ _ z (Ybd D);have h2:=Y _ _ (Yaf _) (Ybd D)
  lia
 ·exact z
 ·have D:i<t.place.size:=by lia
  have h1:=O _ _ (Yaf _) (Ybd D);have h2:=U _ _ z (Ybd D)
  lia
noncomputable def SAt (w:Ab)(h:Heap)(a:AD)(es:Array (Int×Aa))(ep:Nat)(t:SetTable):Prop:=
 (∃o,h.get? a=some o/\o.ExactSet/\o.data=.set es ep t)/\SOk t es/\t.plain=true/\t.led=!J4 w
noncomputable def Jy (w:Ab)(a:AD)(es:Array (Int×Aa))(ep:Nat):List (Int×Aa):=if J4 w then (pickOrder (w.params.setOrder a ep) es).toList else es.toList
theorem Jz (a:AD)(es:Array (Int×Aa))(ep:Nat):(Jy w a es ep).Perm es.toList:=by
 unfold Jy;split
 ·exact Zar _ _
 ·exact .refl _
noncomputable def Us (w:Ab)(t:SetTable)(i:Nat):Nat:=if J4 w then 0 else OL t i
noncomputable def IsSetIter (w:Ab)(h:Heap)(j a:AD)(t:SetTable)(i n ep:Nat):Prop:=
 ∃o,h.get? j=some o/\o.cls=.type "set_iterator" /\ o.data=.fields #[.int (Us w t i) 0,.int i 0,.ref a,.int n 0,.int ep 0]
theorem IsSetIter.typeIs (h:IsSetIter w s.heap j a t i n ep):s.TypeIs (.ref j) "set_iterator" := let ⟨o,h1,h2,_⟩:=h;⟨o,h1,h2⟩
theorem SAt.typeIs (h:SAt w s.heap a es ep t):s.TypeIs (.ref a) "set" := let ⟨⟨o,h1,h2,_⟩,_⟩:=h;⟨o,h1,h2.1⟩
theorem Y0 (h:SAt w s.heap a es ep t)(q:∀r:Array (Int×Aa),r.toList=Jy w a es ep->Q r s) :
  wpAny (model P w) A (setWalk a) Q E s:=by
 obtain ⟨⟨o,D,U,L⟩,S,B,j⟩:=h;unfold setWalk;apply Yaa;apply Yep D L S.fits;dsimp only;apply Yaa;apply UR;unfold Jy at q;cases hb:J4 w with
 | true=>
  rw [hb] at q;rw [if_pos rfl];apply Yaa;apply wpAny_askSetting;exact Yab (q _ rfl)
 | false=>
  rw [hb] at q j;rw [if_neg Yap];have N:(!t.plain && decide (es.size > 1))=false:=by rw [B];rfl
  show wpAny _ _ (if (!t.plain && decide (es.size > 1))=true then _ else _) _ _ s;rw [N,if_neg Yap];apply Yaa;show wpAny _ _ (if (!t.led && decide (es.size > 1))=true then _ else _) _ _ s;have O:(!t.led && decide (es.size > 1))=false:=by rw [j];rfl
  rw [O,if_neg Yap];apply Yab;exact Yab (q es rfl)
theorem Vt (h:SAt w s.heap a es ep t)(hi:i<=es.size)(j:Q (((Jy w a es ep)[i]?).map λe=>(e.2,Us w t (i+1))) s):wpAny (model P w) A (setNext a (Us w t i) i ep) Q E s:=by
 obtain ⟨⟨o,N,hx,O⟩,S,B,q⟩:=id h;have qV:t.place.size=es.size:=by rw [S.T.len,Jk]
 unfold setNext;apply Yaa;apply Yep N O S.fits;dsimp only;apply Yaa;apply UR;cases hb:J4 w with
 | true=>
  rw [if_pos rfl,if_neg (by simp)];apply Yaa;refine Y0 h λr U=>?_;refine Yab ?_;have Y:∀k,Us w t k=0:=λk=>by unfold Us;rw [hb];rfl
  rw [Y] at j ⊢;rw [<-Yax,U];exact j
 | false=>
  rw [hb] at q;rw [if_neg Yap];have Z:(!t.plain && decide (es.size > 1))=false:=by rw [B];rfl
  show wpAny _ _ (if (!t.plain && decide (es.size > 1))=true then _ else _) _ _ s;rw [Z,if_neg Yap];apply Yaa;show wpAny _ _ (if (!t.led && !es.isEmpty)=true then _ else _) _ _ s;have e2:(!t.led && !es.isEmpty)=false:=by rw [q];rfl
  rw [e2,if_neg Yap];apply Yab;have e3:∀k,Us w t k=OL t k:=λk=>by unfold Us;rw [hb];rfl
  rw [e3] at j ⊢;rw [YZ S.T.rise (by lia)];have e4:Jy w a es ep=es.toList:=by unfold Jy;rw [hb];rfl
  rw [e4,Yax] at j;by_cases D:i<es.size
  ·rw [Ybd D] at j ⊢;have L:i<t.place.size:=by lia
   rw [Ybd L];have e5:OL t (i+1)=t.place[i]+1:=by
    show t.place.getD i 0+1=_;rw [Yet,Ybd L]
    rfl
   rw [e5] at j;exact Yab j
  ·rw [Yfs (by lia)] at j ⊢;exact Yab j
theorem SAt.ext (x:SAt w h a es ep t)(k:∀o,h.get? a=some o->h'.get? a=some o):SAt w h' a es ep t:=
 let ⟨⟨o,h1,h2⟩,r⟩:=x;⟨⟨o,k _ h1,h2⟩,r⟩
theorem IsSetIter.ext (x:IsSetIter w h j a t i n ep)(k:∀o,h.get? j=some o->h'.get? j=some o):IsSetIter w h' j a t i n ep:=
 let ⟨o,h1,h2⟩:=x;⟨o,k _ h1,h2⟩
theorem Xk (j:IsSetIter w s.heap B a t i es.size ep)(Y:SAt w s.heap a es ep t)(Z:(Jy w a es ep)[i]?=some e)(ab:a≠B)(hq:∀h':Heap,IsSetIter w h' B a t (i+1) es.size ep->Heap.SameBut B s.heap h'->Q (some e.2) { s with heap:=h' }) :
  wpAny (model P w) A (pyNext (.ref B)) Q E s:=by
 obtain ⟨o,N,hc,L⟩:=id j;obtain ⟨⟨oa,O,ac,U⟩,S,ad,aa⟩:=id Y;have ae:(Jy w a es ep).length=es.size:=by rw [(Jz a es ep).length_eq,Yan]
 have hi:i<es.size:=by
  have:=(Yao.mp Z).1
  lia
 unfold pyNext;apply Yaa;apply Ydj;refine Ydx (name:=Str.ofString "__next__") j.typeIs sit_slot_next (Ycc sit_slot_next j.typeIs Op ?_ (OK _));unfold Builtin.«set_iterator.__next__»;apply Yaa;apply Yab;apply Yaa;apply wpAny_fieldsOf N L;dsimp only;apply Yaa;apply wpAny_setEntries_of O U S.fits;rw [if_neg (by simp)];apply Yaa;have hn:=λE1=>Vt (P:=P) (A:=A.in1) (E:=E1) (s:=s) (i:=i) Y (Ycw hi) (Q:=λr s1=>r=some (e.2,Us w t (i+1))/\s1=s) ⟨by rw [Z];rfl,rfl⟩;refine Ybr (by simpa using hn _) (λr s1 hr=>?_) λ_ _ x=>x;obtain ⟨rfl,rfl⟩:=hr;dsimp only;apply Yaa;apply wpAny_setField N L (by simp);have D:=Ydq (Obj.mapFields (·.setIfInBounds 0 (rawInt ((Us w t (i+1):Nat):Int)))) N (Obj.isFreed_of_fields (Obj.data_mapFields L _));have q:=Obj.data_mapFields L (·.setIfInBounds 0 (rawInt ((Us w t (i+1):Nat):Int)));apply Yaa;apply wpAny_setField D q (by simp);refine Yab ⟨_,rfl,Yab (hq _ ⟨_,Ydq _ D (Obj.isFreed_of_fields (Obj.data_mapFields q _)),?_,?_⟩ ((Ycr ..).trans (Ycr ..)))⟩
 ·rw [Obj.cls_mapFields,Obj.cls_mapFields];exact hc
 ·rw [Obj.data_mapFields q];simp [rawInt]
theorem Y1 (Z:A.handled=none)(j:IsSetIter w s.heap q a t es.size es.size ep)(L:SAt w s.heap a es ep t)(hq:∀h':Heap,Heap.ExtBut q s.heap h'->Q none { s with heap:=h' }):wpAny (model P w) A (pyNext (.ref q)) Q E s:=by
 obtain ⟨o,N,hc,O⟩:=id j;obtain ⟨⟨oa,B,aa,D⟩,S,ab,U⟩:=id L;have ac:(Jy w a es ep).length=es.size:=by rw [(Jz a es ep).length_eq,Yan]
 unfold pyNext;apply Yaa;apply Ydj;refine Ydx (name:=Str.ofString "__next__") j.typeIs sit_slot_next (Ycc sit_slot_next j.typeIs Op ?_ (OK _));unfold Builtin.«set_iterator.__next__»;apply Yaa;apply Yab;apply Yaa;apply wpAny_fieldsOf N O;dsimp only;apply Yaa;apply wpAny_setEntries_of B D S.fits;rw [if_neg (by simp)];apply Yaa;have hn:=λE1=>Vt (P:=P) (A:=A.in1) (E:=E1) (s:=s) (i:=es.size) L (Yaf _) (Q:=λr Y=>r=none/\Y=s) ⟨by rw [List.getElem?_eq_none (by lia)];rfl,rfl⟩;refine Ybr (by simpa using hn _) (λr Y hr=>?_) λ_ _ x=>x;obtain ⟨rfl,rfl⟩:=hr;dsimp only;apply Yaa;apply wpAny_setField N O (by simp);apply Yaa;simp only [newExc,newTuple];apply Yaa;refine Yds ?_ (by size_fits);refine Yaa (m:=firstArgMember _ _) (wpAny_of_eq (a:=Value.none) (by first | (simp only [firstArgMember];rfl) | rfl) ?_);refine Yds ?_ (by size_fits);simp only [raiseNew];apply Yaa;apply wpAny_handled;rw [show A.in1.handled=none from Z];refine wpAny_throw ?_;apply Yaa;refine Yew (b:=true) (T := "StopIteration") ⟨_,Yaw _ rfl,rfl⟩ isSubtype_stop ?_;exact Yab (hq _ (((Ycr ..).extBut.push _).push _))
theorem Y2 (h:SAt w s.heap a es ep t)(L:Q (.ref s.heap.objs.size) { s with heap:=s.heap.push { cls:=.type "set_iterator", data:=.fields #[.int 0 0,.int 0 0,.ref a,.int es.size 0,.int ep 0] } }):wpAny (model P w) A (pyIter (.ref a)) Q E s:=by
 obtain ⟨⟨o,j,O,q⟩,S,B,D⟩:=id h;refine wpAny_pyIter_slot h.typeIs F.slot_set_iter (Ycc F.slot_set_iter h.typeIs Ve ?_ (F.args_set_iter_1 _));unfold Builtin.«frozenset.__iter__»;apply Yaa;refine Yab ?_;apply Yaa;unfold Builtin.Frozenset.sizeOf;apply Yaa;apply wpAny_setEntries_of j q S.fits;apply Yab;apply Yaa;apply Yaa;apply Yep j q S.fits;dsimp only;apply Yaa;apply UR;apply Yab;have N:(!J4 w && (!t.plain && decide (es.size > 1)))=false:=by rw [B];simp
 show wpAny _ _ (if (!J4 w && (!t.plain && decide (es.size > 1)))=true then _ else _) _ _ _;rw [N,if_neg Yap];apply Yaa;apply Yab;apply Yaa;apply wpAny_setEpoch_of j q S.fits;apply Yaa;refine Yds (Yab ⟨_,rfl, "set_iterator", _,⟨_,Yaw _ rfl,rfl⟩,sit_slot_next.lookup,?_⟩);simpa [rawInt] using L
theorem Zb7 (j:s.TypeIs (.ref r) "set")(h:Q false s):wpAny (model P w) A (Builtin.List.listLengthHint (.ref r)) Q E s:=by
 unfold Builtin.List.listLengthHint;apply Yaa;refine wpAny_specialOf j F.slot_set_len.lookup ?_;generalize hid:("set.__len__" : String)=nm
 wp_delta
 rw [show splitId nm=some ("set", "__len__") from by subst hid;decide +kernel];subst hid;apply Yaa;refine Yew (T := "set") (b:=true) j (by rw [isSubtype_type];kernel_rfl) ?_;refine wpAny_ite_split (λz=>absurd z (by decide)) λ_=>?_;refine wpAny_ite_split (λ_=>?_) λz=>absurd (by decide +kernel) z;apply Yaa;apply Yec j;exact Yab h
theorem Zd3 {a:AD}{es:Array (Int×Aa)}{ep:Nat}{t:SetTable}:W.KdlSrc P w "set" a a es.size (λi v=>∃e,(Jy w a es ep)[i]?=some e/\v=e.2) (λh=>SAt w h a es ep t) where
 type:=λ_ h=>h.typeIs
 there:=λ_ h=>by
  obtain ⟨⟨o,ho,_⟩,_⟩:=h;exact ⟨Yah ho,Yah ho⟩
 keep:=λ_ _ h k=>h.ext λo e=>k a (.inl rfl) o e
 notList:=by decide
 notTuple:=by decide
 hint:=λ_ _ _ _ h q=>Zb7 h.typeIs q
 iter:=λA s hh h=>by
  have hlt:a<s.heap.objs.size:=by
   obtain ⟨⟨o,ho,_⟩,_⟩:=h;exact Yah ho
  have hwl:(Jy w a es ep).length=es.size:=by rw [(Jz a es ep).length_eq,Yan]
  refine ⟨{ cls:=.type "set_iterator", data:=.fields #[.int 0 0,.int 0 0,.ref a,.int es.size 0,.int ep 0] },λi h'=>IsSetIter w h' s.heap.objs.size a t i es.size ep/\SAt w h' a es ep t,λ_ _ q=>Y2 h q,?_,?_⟩
  ·refine ⟨λb hb=>?_,λi h1 h2 st k=>⟨st.1.ext λo e=>k _ (by simp) o e,st.2.ext λo e=>k a (by simp) o e⟩,λi s1 Q E hi st hq=>?_,λs1 Q E st hq=>?_,λi s1 Q E st hq=>?_⟩
   ·rw [Yai.mp hb];exact Ybg
   ·have he:(Jy w a es ep)[i]?=some (Jy w a es ep)[i]:=Yba (by lia);refine Xk st.1 st.2 he (Yar hlt) λh' hi' sb=>?_;refine hq _ h' s1.toks ⟨_,he,rfl⟩ ⟨hi',st.2.ext λo e=>?_⟩ λb o hb e=>?_
    ·rw [sb.2 a (Yar hlt)];exact e
    ·rw [sb.2 b (λz=>hb (by rw [z];exact Ybg))];exact e
   ·refine Y1 hh st.1 st.2 λh' he=>hq h' s1.toks λb o hb e=>he b o (λz=>hb (by rw [z];exact Ybg)) e
   ·refine wpAny_pyIter_slot st.1.typeIs OJ (Ycc OJ st.1.typeIs (b:=Builtin.«dict_keyiterator.__iter__») ?_ ?_ ?_)
    ·exact entryFor_alias (id' := "dict_keyiterator.__iter__") (by kernel_rfl) rfl (by decide +kernel) (by kernel_rfl)
    ·show wpAny _ _ (ret (Value.ref s.heap.objs.size)) _ _ s1;exact Yab ⟨_,rfl, "set_iterator", _,st.1.typeIs,sit_slot_next.lookup,hq⟩
    ·unfold argsOk;kernel_rfl
  ·refine ⟨⟨_,Yaw _ rfl,rfl,?_⟩,h.ext λo e=>Yae _ e⟩;have:Us w t 0=0:=by unfold Us;split <;> rfl
   rw [this]
   rfl
end
theorem V3 {α:Type}{l:List α}{x y:α}(h:l[i]?=some x):y∈l.take (i+1)↔y∈l.take i\/y=x:=by
 rw [List.take_succ,h];simp
section
variable {P:PP}{w:Ab}{A:Around}{E:Aa->SS->Prop}{s:SS}
theorem WS (h:ItemsAre (intKind P w) ks vs):∀v∈vs,∃i t,v=Value.int i t:=by
 induction h with
 | nil=>intro v j;simp at j
 | @cons k v' ks vs h1 _ ih=>
  intro v j;rcases Yam.mp j with rfl | j
  ·cases v with
   | int i t=>exact ⟨i,t,rfl⟩
   | _=>cases h1
  ·exact ih v j
noncomputable def hAt (es:Array (Int×Aa))(i:Nat):Int:=(es[i]?.map (·.1)).getD 0
end
section
variable {X:Cx}(K:FG)
noncomputable abbrev Tri:=Int×Int×Int
inductive Trs (H:Hp):List V->List Tri->Prop
 | nil:Trs H [] []
 | cons {p:AD} {a b c:Int} {xs:List V} {rs:List Tri}:H p=some (.tup [.int a,.int b,.int c])->Trs H xs rs->Trs H (.ref p::xs) ((a,b,c)::rs)
theorem Trs.len {rs:List Tri}(h:Trs H xs rs):xs.length=rs.length:=by
 induction h with
 | nil=>rfl
 | cons _ _ ih=>rw [Ybm,Ybm,ih]
theorem Trs.snoc {rs:List Tri}(h:Trs H xs rs)(e:H p=some (.tup [.int a,.int b,.int c])):Trs H (xs++[.ref p]) (rs++[(a,b,c)]):=by
 induction h with
 | nil=>exact .cons e .nil
 | cons e1 _ ih=>exact .cons e1 ih
theorem Trs.keep {rs:List Tri}(h:Trs H xs rs)(k:∀p ys,H p=some (.tup ys)->H' p=some (.tup ys)):Trs H' xs rs:=by
 induction h with
 | nil=>exact .nil
 | cons e1 _ ih=>exact .cons (k _ _ e1) ih
theorem Trs.same {rs:List Tri}(h:Trs H xs rs)(k:Same H H'):Trs H' xs rs:=h.keep λp ys e=>k p _ e
theorem Trs.get {rs:List Tri}(g:Trs H xs rs){i:Nat}(h:xs[i]?=some x):∃t r,x=.ref t/\H t=some (.tup [.int r.1,.int r.2.1,.int r.2.2])/\rs[i]?=some r:=by
 induction g generalizing i with
 | nil=>simp at h
 | cons e _ ih=>cases i with
  | zero=>
   simp at h;subst h;exact ⟨_,(_,_,_),rfl,e,rfl⟩
  | succ i=>
   rw [Yfh] at h ⊢;exact ih h
theorem Trs.at {rs:List Tri}(h:Trs H xs rs){i:Nat}(e:rs[i]?=some r):∃t,xs[i]?=some (.ref t)/\H t=some (.tup [.int r.1,.int r.2.1,.int r.2.2]):=by
 have hi:i<xs.length:=by rw [h.len];exact (Yao.mp e).1
 obtain ⟨t,r',q,B,j⟩:=h.get (Yba hi);rw [e] at j;cases j;exact ⟨t,by rw [Yba hi,q],B⟩
theorem ZhG (h:X.K=K:=by rfl):SlR X (Zh5 K):=h▸Zc6
theorem Zb8 (j:PE X l tl)(h:X.K=K:=by rfl):PI X tg l (Zh2 K tl):=h▸Ze6 j
end
noncomputable def Nd (ts:List Tri)(c:Int)(r:Tri):Prop:=2<=c/\ts[(c-2).toNat]?=some r
noncomputable def At (ts:List Tri)(c lo:Int):Prop:=c=0\/c=1\/∃r,Nd ts c r/\lo<r.1
noncomputable def TabOk (ts:List Tri):Prop:=∀(i:Nat)(r:Tri),ts[i]?=some r->(0<=r.1/\r.1<30)/\At ts r.2.1 r.1/\At ts r.2.2 r.1
theorem Nd.one (h:Nd ts c r)(h':Nd ts c r'):r=r':=by
 have:=h.2.symm.trans h'.2;cases this
 rfl
theorem Nd.lt (h:Nd ts c r):c<ts.length+2:=by
 have:=(Yao.mp h.2).1;have:=h.1
 lia
theorem Nd.app (h:Nd ts c r)(us:List Tri):Nd (ts++us) c r:=
 ⟨h.1,by rw [Ycx (Yao.mp h.2).1];exact h.2⟩
theorem Nd.last (ts:List Tri)(r:Tri):Nd (ts++[r]) (ts.length+2) r:=by
 refine ⟨by lia,?_⟩;have e:((ts.length:Int)+2-2).toNat=ts.length:=by lia
 rw [e,Ydv (Yaf _),Nat.sub_self]
 rfl
theorem At.app {c lo:Int}(h:At ts c lo)(us:List Tri):At (ts++us) c lo:=by
 rcases h with h | h | ⟨r,h,g⟩
 ·exact .inl h
 ·exact .inr (.inl h)
 ·exact .inr (.inr ⟨r,h.app us,g⟩)
theorem At.mono {c lo lo':Int}(h:At ts c lo)(j:lo'<=lo):At ts c lo':=by
 rcases h with h | h | ⟨r,h,g⟩
 ·exact .inl h
 ·exact .inr (.inl h)
 ·exact .inr (.inr ⟨r,h,by lia⟩)
theorem At.lt {c lo:Int}(h:At ts c lo):0<=c/\c<ts.length+2:=by
 rcases h with rfl | rfl | ⟨r,h,g⟩
 ·lia
 ·lia
 ·have:=h.lt;have:=h.1
  lia
theorem At.nd {c lo:Int}(h:At ts c lo)(j:1<c):∃r,Nd ts c r/\lo<r.1:=by
 rcases h with h | h | h
 ·lia
 ·lia
 ·exact h
theorem TabOk.nil:TabOk []:=λi r h=>by simp at h
theorem TabOk.snoc (h:TabOk ts)(h0:0<=r.1/\r.1<30)(h1:At ts r.2.1 r.1)(h2:At ts r.2.2 r.1):TabOk (ts++[r]):=by
 intro i q e;by_cases hi:i<ts.length
 ·rw [Ycx hi] at e;obtain ⟨a,b,c⟩:=h i q e;exact ⟨a,b.app _,c.app _⟩
 ·rw [Ydv (by lia)] at e;have j:i-ts.length=0:=by
   have:=(Yao.mp e).1;rw [Ybc] at this
   lia
  rw [j] at e;cases e;exact ⟨h0,h1.app _,h2.app _⟩
theorem TabOk.nd (h:TabOk ts)(n:Nd ts c r):(0<=r.1/\r.1<30)/\At ts r.2.1 r.1/\At ts r.2.2 r.1:=h _ r n.2
inductive Has (ts:List Tri):Int->LI->Prop
 | one:Has ts 1 []
 | low {c:Int} {r:Tri} {rs:LI}:Nd ts c r->Has ts r.2.1 rs->Has ts c rs
 | high {c:Int} {r:Tri} {rs:LI}:Nd ts c r->Has ts r.2.2 rs->Has ts c (r.1::rs)
theorem Has.zero {rs:LI}:¬ Has ts 0 rs:=by
 intro h;cases h with
 | low n _=>exact absurd n.1 (by decide)
 | high n _=>exact absurd n.1 (by decide)
theorem Has.at1 {rs:LI}:Has ts 1 rs↔rs=[]:=by
 constructor
 ·intro h;cases h with
  | one=>rfl
  | low n _=>exact absurd n.1 (by decide)
  | high n _=>exact absurd n.1 (by decide)
 ·rintro rfl;exact .one
theorem Has.small {rs:LI}(h0:0<=c)(h1:¬ 1<c):Has ts c rs↔(c=1/\rs=[]):=by
 have j:c=0\/c=1:=by lia
 rcases j with rfl | rfl
 ·exact ⟨λh=>absurd h Has.zero,λh=>absurd h.1 (by decide)⟩
 ·rw [Has.at1];exact ⟨λh=>⟨rfl,h⟩,λh=>h.2⟩
theorem Has.nil (n:Nd ts c r):Has ts c []↔Has ts r.2.1 []:=by
 constructor
 ·intro h;cases h with
  | one=>exact absurd n.1 (by decide)
  | low n' h'=>rw [n.one n'];exact h'
 ·exact .low n
theorem Has.cons {ts:List Tri}{c:Int}{r:Tri}{x:Int}{rs:LI}(n:Nd ts c r):Has ts c (x::rs)↔(Has ts r.2.1 (x::rs)\/(x=r.1/\Has ts r.2.2 rs)):=by
 constructor
 ·intro h;cases h with
  | low n' h'=>rw [n.one n'];exact .inl h'
  | high n' h'=>rw [n.one n'];exact .inr ⟨rfl,h'⟩
 ·rintro (h | ⟨rfl,h⟩)
  ·exact .low n h
  ·exact .high n h
theorem Has.gt (T:TabOk ts){rs:LI}(h:Has ts c rs):∀{lo x:Int}{xs:LI},At ts c lo->rs=x::xs->lo<x:=by
 induction h with
 | one=>intro lo x xs _ e;cases e
 | @low c r rs n h ih=>
  intro lo x xs a e;obtain ⟨r',j,g⟩:=a.nd (by have:=n.1;lia);rw [j.one n] at g;have:=ih (T.nd n).2.1 e
  lia
 | @high c r rs n h ih=>
  intro lo x xs a e;obtain ⟨r',j,g⟩:=a.nd (by have:=n.1;lia);rw [j.one n] at g;cases e;exact g
noncomputable def Jc (fs:LI)(n:Int):Option Int:=if n=0 then some 0 else if n=1 then some 1 else (fs.idxOf? n).map λ(i:Nat)=>(i:Int)+2
theorem idxOf?_app (fs:LI)(n m:Int)(q:m ∉ fs):(fs++[m]).idxOf? n=if n=m then some fs.length else fs.idxOf? n:=by
 induction fs with
 | nil=>
  by_cases h:n=m
  ·subst h;simp [List.idxOf?,List.findIdx?_cons]
  ·have:¬ m=n:=λz=>h z.symm;simp [List.idxOf?,List.findIdx?_cons,h,this]
 | cons a fs ih=>
  have h1:m ∉ fs:=λz=>q (Ybe _ z);have h2:a≠m:=λz=>q (z▸Ybg);have j:=ih h1;rw [List.cons_append,List.idxOf?_cons,List.idxOf?_cons,j,Ybm];by_cases ha:(a == n)=true
  ·have:a=n:=by simpa using ha
   subst this;simp [h2]
  ·by_cases B:n=m
   ·subst B;simp [ha]
   ·simp [ha,B]
theorem OM (fs:LI)(n m:Int)(j:Jc fs m=none):Jc (fs++[m]) n=if n=m then some ((fs.length:Int)+2) else Jc fs n:=by
 unfold Jc at j ⊢;by_cases h0:m=0
 ·rw [if_pos h0] at j;cases j
 rw [if_neg h0] at j;by_cases h1:m=1
 ·rw [if_pos h1] at j;cases j
 rw [if_neg h1] at j;have B:m ∉ fs:=by
  intro z;rw [Yfi,List.idxOf?_eq_none_iff] at j;exact j z
 rw [idxOf?_app fs n m B];by_cases q:n=m
 ·subst q;simp [h0,h1]
 ·simp [q]
theorem Zas (j:Jc fs m=none)(h:Jc fs n=some a):Jc (fs++[m]) n=some a:=by
 rw [OM fs n m j,if_neg (λz=>by rw [z,j] at h;cases h)];exact h
theorem ON (h:Jc fs n=some a)(h1:1<n):2<=a/\fs[(a-2).toNat]?=some n:=by
 unfold Jc at h;rw [if_neg (by lia),if_neg (by lia)] at h;cases hi:fs.idxOf? n with
 | none=>rw [hi] at h;cases h
 | some i=>
  rw [hi] at h;cases h;refine ⟨by show (2:Int)<=(i:Int)+2;lia,?_⟩;show fs[((i:Int)+2-2).toNat]?=some n;rw [show ((i:Int)+2-2).toNat=i by lia];rw [List.idxOf?_eq_some_iff] at hi;obtain ⟨j,e,_⟩:=hi;rw [Yba j,e]
theorem US (fs:LI):Jc fs 0=some 0:=by unfold Jc;rw [if_pos rfl]
theorem OO (fs:LI):Jc fs 1=some 1:=by unfold Jc;rw [if_neg (by decide),if_pos rfl]
theorem UT (h:Jc fs m=none):m≠0/\m≠1/\m ∉ fs:=by
 unfold Jc at h;by_cases h0:m=0
 ·rw [if_pos h0] at h;cases h
 rw [if_neg h0] at h;by_cases h1:m=1
 ·rw [if_pos h1] at h;cases h
 rw [if_neg h1] at h;refine ⟨h0,h1,λz=>?_⟩;rw [Yfi,List.idxOf?_eq_none_iff] at h;exact h z
structure Fnd (ks:List Tri)(root:Int)(fs:LI)(kvs:List (Key×V))(k:Nat):Prop where
 num:∀n:Int,JC kvs (.inl n)=(Jc fs n).map V.int
 nd:fs.Nodup
 nod:∀x∈fs,∃r,Nd ks x r
 kle:k<=fs.length
 cl:∀(i:Nat),i<k->∀(x:Int)(r:Tri),fs[i]?=some x->Nd ks x r->(Jc fs r.2.1).isSome/\(Jc fs r.2.2).isSome
 kl:kvs.length<=fs.length+2
theorem OP (j:Jc fs m=none)(h:(Jc fs n).isSome):(Jc (fs++[m]) n).isSome:=by
 obtain ⟨a,e⟩:=Yek.mp h;rw [Zas j e]
 rfl
theorem Fnd.add (h:Fnd ks root fs kvs k)(j:Jc fs m=none)(D:Nd ks m r)(L:v=(fs.length:Int)+2):Fnd ks root (fs++[m]) (JD kvs (.inl m) (.int v)) k:=by
 obtain ⟨h0,h1,h2⟩:=UT j;refine ⟨λn=>?_,?_,λx N=>?_,?_,λi hi x r' e O=>?_,?_⟩
 ·rw [GY,OM fs n m j,h.num n];by_cases e:n=m
  ·rw [if_pos e,if_pos (by rw [e]),L]
   rfl
  ·rw [if_neg e,if_neg (λz=>e (Yeh z))]
 ·exact Ycl.mpr ⟨h.nd,by simp,λa ha b B=>by rw [Yai] at B;subst B;exact λz=>h2 (z▸ha)⟩
 ·rcases Yaj.mp N with z | z
  ·exact h.nod x z
  ·rw [Yai] at z;subst z;exact ⟨r,D⟩
 ·rw [Yak];have:=h.kle
  lia
 ·have q:i<fs.length:=Ybk hi h.kle;rw [Ycx q] at e;obtain ⟨a,b⟩:=h.cl i hi x r' e O;exact ⟨OP j a,OP j b⟩
 ·have:=GW kvs (.inl m) (.int v);have:=h.kl;rw [Yak,Ybc]
  lia
theorem Fnd.le (h:Fnd ks root fs kvs k):fs.length<=ks.length:=by
 have:=Ycp (l₂:=(List.range ks.length).map λ(i:Nat)=>(i:Int)+2) h.nd λx j=>by
  obtain ⟨r,n⟩:=h.nod x j;have h1:=n.lt;have h2:=n.1;exact Yal.mpr ⟨(x-2).toNat,Yci.mpr (by lia),by lia⟩
 rw [Yac,Ydo] at this;exact this
theorem Fnd.next (h:Fnd ks root fs kvs k)(e:fs[k]?=some x)(n:Nd ks x r)(h1:(Jc fs r.2.1).isSome)(h2:(Jc fs r.2.2).isSome):Fnd ks root fs kvs (k+1):=by
 refine ⟨h.num,h.nd,h.nod,(Yao.mp e).1,λi hi B r' j q=>?_,h.kl⟩;by_cases D:i<k
 ·exact h.cl i D B r' j q
 ·have:i=k:=by lia
  subst this;rw [e] at j;cases j;rw [q.one n];exact ⟨h1,h2⟩
noncomputable def Said (ks:List Tri)(fs:LI)(us:List Tri)(i:Nat):Prop:=∀(j:Nat)(x:Int),j<i->fs[j]?=some x->∃(r:Tri)(a b:Int),Nd ks x r/\Jc fs r.2.1=some a/\Jc fs r.2.2=some b/\us[j]?=some (r.1,a,b)
theorem Said.at (S:Said ks fs us fs.length){c lo a:Int}(h:At ks c lo)(e:Jc fs c=some a):At us a lo:=by
 rcases h with rfl | rfl | ⟨r,n,g⟩
 ·rw [US] at e;cases e;exact .inl rfl
 ·rw [OO] at e;cases e;exact .inr (.inl rfl)
 ·obtain ⟨h2,j⟩:=ON e (by have:=n.1;lia);obtain ⟨r',D,L,B,_,_,q⟩:=S _ _ (Yao.mp j).1 j;rw [B.one n] at q;exact .inr (.inr ⟨_,⟨h2,q⟩,g⟩)
theorem Said.tab (T:TabOk ks)(S:Said ks fs us fs.length)(B:us.length=fs.length):TabOk us:=by
 intro i q e;have hi:i<fs.length:=by rw [<-B];exact (Yao.mp e).1
 obtain ⟨r,a,b,n,ha,D,j⟩:=S i _ hi (Yba hi);rw [e] at j;cases j;obtain ⟨h1,h2,L⟩:=T.nd n;exact ⟨h1,S.at h2 ha,S.at L D⟩
theorem Said.snoc (S:Said ks fs us i)(B:us.length=i)(e:fs[i]?=some x)(n:Nd ks x r)(ha:Jc fs r.2.1=some a)(D:Jc fs r.2.2=some b):Said ks fs (us++[(r.1,a,b)]) (i+1):=by
 intro j y Y q;by_cases h:j<i
 ·obtain ⟨r',L,N,h1,h2,O,U⟩:=S j y h q;exact ⟨r',L,N,h1,h2,O,by rw [Ycx (by lia)];exact U⟩
 ·have:j=i:=by lia
  subst this;rw [e] at q;cases q;refine ⟨r,a,b,n,ha,D,?_⟩;rw [Ydv (by lia),B,Nat.sub_self]
  rfl
noncomputable def Vf (r:Tri):List Key:=[.inl r.1,.inl r.2.1,.inl r.2.2]
theorem Zb9 (h:Vf r=Vf q):r=q:=by
 obtain ⟨a,b,c⟩:=r;obtain ⟨d,e,f⟩:=q;unfold Vf at h;simp only [List.cons.injEq,Sum.inl.injEq,and_true] at h;obtain ⟨rfl,rfl,rfl⟩:=h
 rfl
noncomputable def SeenOk (kvs:List (List Key×V))(ks:List Tri):Prop:=∀r:Tri,∀v:V,JC kvs (Vf r)=some v->∃c:Int,v=.int c/\Nd ks c r
theorem SeenOk.add (S:SeenOk kvs ks)(j:c=(ks.length:Int)+2):SeenOk (JD kvs (Vf r) (.int c)) (ks++[r]):=by
 intro q v e;rw [GY] at e;by_cases h:Vf q=Vf r
 ·rw [if_pos h] at e;cases e;have:=Zb9 h;subst this;exact ⟨c,rfl,j▸Nd.last ks q⟩
 ·rw [if_neg h] at e;obtain ⟨d,B,D⟩:=S q v e;exact ⟨d,B,D.app _⟩
section
variable {P:PP}{w:Ab}{A:Around}{E:Aa->SS->Prop}{s:SS}{Ad:AD->LI->Prop}
noncomputable abbrev Gw (P:PP)(w:Ab)(r:LI):Int:=tupleKeyHash (intKind P w) r
noncomputable def IsTu (P:PP)(w:Ab)(h:Heap)(r:LI)(a:AD):Prop:=IsTupleKey (intKind P w) h r a
noncomputable def Y3 (P:PP)(w:Ab)(Ad:AD->LI->Prop)(h:Heap)(e:Int×Aa)(r:LI):Prop:=e.1=Gw P w r/\∃a,e.2=.ref a/\IsTu P w h r a/\Ad a r
theorem IsTu.keep (x:IsTu P w h r a)(k:∀o,h.get? a=some o->h'.get? a=some o):IsTu P w h' r a:=by
 obtain ⟨o,its,n,h1,h2⟩:=x;exact ⟨o,its,n,k _ h1,h2⟩
theorem J5:∀{h:Heap}{l:List (Int×Aa)}{ps:List (LI)},Paired (Y3 P w Ad h) l ps->∀{i:Nat}{e:Int×Aa},l[i]?=some e->∃r,ps[i]?=some r/\Y3 P w Ad h e r
 | _,_,_,.nil,i,e,z=>by simp at z
 | _,_,_,.cons h0 t,0,e,z=>by simp at z;subst z;exact ⟨_,rfl,h0⟩
 | _,_,_,.cons h0 t,i+1,e,z=>by
  obtain ⟨r,h1,h2⟩:=J5 t (i:=i) (e:=e) (by simpa using z);exact ⟨r,by simpa using h1,h2⟩
theorem Vu (p:l'.Perm l):∀{σ:List (LI)},Paired (Y3 P w Ad h) l σ->∃ j,Paired (Y3 P w Ad h) l' j/\j.Perm σ:=by
 induction p with
 | nil=>intro σ h;cases h;exact ⟨[],.nil,.refl _⟩
 | cons x _ ih=>
  intro σ h;cases h with
  | cons h t=>
   obtain ⟨j,h1,h2⟩:=ih t;exact ⟨_,.cons h h1,h2.cons _⟩
 | swap x y l=>
  intro σ h;cases h with
  | cons h t=>
   cases t with
   | cons h' t=>exact ⟨_,.cons h' (.cons h t),.swap _ _ _⟩
 | trans _ _ ih1 ih2=>
  intro σ h;obtain ⟨D,h1,q⟩:=ih2 h;obtain ⟨B,h2,p2⟩:=ih1 h1;exact ⟨B,h2,p2.trans q⟩
theorem WT:∀{h:Heap}{l k:List (Int×Aa)}{σ τ:List (LI)},Paired (Y3 P w Ad h) l σ->Paired (Y3 P w Ad h) k τ->Paired (Y3 P w Ad h) (l++k) (σ++τ)
 | _,_,_,_,_,.nil,h=>h
 | _,_,_,_,_,.cons h t,k=>.cons h (WT t k)
theorem UU (q:IsTu P w s.heap r a)(h:Q false s):wpAny (model P w) A (ofAClassStatement 8 (.ref a)) Q E s:=by
 have D:=IsTupleKey.typeIs q;obtain ⟨o,its,n,L,U,N,hi⟩:=q;unfold ofAClassStatement;apply Yaa;apply Yec D;apply Yaa;apply Yab;apply Yaa;apply wpAny_seqItems L N;dsimp only;apply Yaa;rw [<-Array.forIn_toList];refine wpAny_forIn_list _ (λrest c s'=>c.1=none/\s'=s/\∀v∈rest,∃i t,v=Value.int i t) _ ?_ ?_ _ _ ⟨rfl,rfl,WS hi⟩
 ·rintro v rest c s' ⟨j,rfl,B⟩;obtain ⟨i,t,rfl⟩:=B v Ybg;apply Yaa;apply Yab;rw [if_neg Yap];exact Yab ⟨rfl,rfl,λu O=>B u (Ybe _ O)⟩
 ·rintro ⟨Y,Z⟩ s' ⟨j,rfl,_⟩;simp only at j;subst j;exact Yab h
theorem Y4 (B:IsTu P w s.heap r b)(O:∀v∈l,∃a r',v=Value.ref a/\IsTu P w s.heap r' a)(h:Q false s):wpAny (model P w) A (searchCouldBeSeen (.ref b) l) Q E s:=by
 unfold searchCouldBeSeen;apply Yaa;refine wpAny_forIn_list _ (λrest c s'=>c.1=none/\s'=s/\∀v∈rest,∃a r',v=Value.ref a/\IsTu P w s.heap r' a) _ ?_ ?_ _ _ ⟨rfl,rfl,O⟩
 ·rintro v rest c s' ⟨q,rfl,D⟩;obtain ⟨a,r',rfl,L⟩:=D v Ybg;have j:∀u∈rest,∃a r',u=Value.ref a/\IsTu P w s'.heap r' a:=λu U=>D u (Ybe _ U);dsimp only;by_cases N:((b == a) || (carriedByValue (.ref b) && carriedByValue (.ref a)))=true
  ·rw [if_pos N];exact Yab ⟨rfl,rfl,j⟩
  ·rw [if_neg N];apply Yaa;refine wpAny_eqIsQuiet_tuple B ?_;rw [if_neg (by decide)];apply Yaa;refine wpAny_eqIsQuiet_tuple L ?_;rw [if_neg (by decide)];apply Yaa;refine UU B ?_;rw [if_neg Yap];apply Yaa;refine UU L ?_;rw [if_neg Yap];exact Yab ⟨rfl,rfl,j⟩
 ·rintro ⟨Y,Z⟩ s' ⟨q,rfl,_⟩;simp only at q;subst q;exact Yab h
section
variable {a b:AD}{o:Obj}{es:Array (Int×Aa)}{ep:Nat}{t:SetTable}{ps:List (LI)}{r:LI}{Q:SetFound->SS->Prop}
theorem Oq (hu:A.units<cLine)(ho:s.heap.get? a=some o)(hd:o.data=.set es ep t)(S:SOk t es)(hE:Paired (Y3 P w Ad s.heap) es.toList ps)(hx:IsTu P w s.heap r b)(ab:r∈ps->Q (.there none) s)(aj:r ∉ ps->∀n,(GJ t.mask n (st0 t.mask (Gw P w r))).j ∉ t.place.toList->(∀q,q<n->(GJ t.mask q (st0 t.mask (Gw P w r))).j∈t.place.toList)->Q (.free (GJ t.mask n (st0 t.mask (Gw P w r))).j false) s)(N:Nat)(hN:N+10<10 * SetTable.turns t.mask)(aa:(GJ t.mask N (st0 t.mask (Gw P w r))).j ∉ t.place.toList) :
  ∀(jQ q:Nat)(stand:Option SetTable.Probe),stand.getD (st0 t.mask (Gw P w r))=GJ t.mask q (st0 t.mask (Gw P w r))->q<=N->N-q<jQ ->
   (∀m,m<q->∃i:Nat,t.place[i]?=some (GJ t.mask m (st0 t.mask (Gw P w r))).j/\∀r',ps[i]?=some r'->r'≠r) ->
   wpAny (model P w) A (setSearchFrom a (.ref b) (Gw P w r) true jQ stand) Q E s
 | 0,q,stand,_,_,hf,_=>absurd hf (Ydf _)
 | jQ+1,q,stand,hst,hq,hf,hold=>by
  have qV:t.place.size=es.size:=by rw [S.T.len,Jk]
  have an:=Ycv hE;rw [Yan] at an;unfold setSearchFrom;apply Yaa;refine Yep ho hd S.fits ?_;dsimp only;rw [S.T.odd,if_neg Yap,Zfx,hst];have ac:(GJ t.mask q (st0 t.mask (Gw P w r))).dummy=none:=by rw [Vq];rfl
  have sp:=Zal (t:=t) (ha:=hAt es) (h:=Gw P w r) S.T.rise S.T.dum (10 * SetTable.turns t.mask) (GJ t.mask q (st0 t.mask (Gw P w r))) ⟨N-q,by lia,by rw [<-GZ,show q+(N-q)=N by lia];exact aa⟩;have B:∀m,(∃i:Nat,t.place[i]?=some (GJ t.mask m (GJ t.mask q (st0 t.mask (Gw P w r)))).j/\hAt es i≠Gw P w r)->∃i:Nat,t.place[i]?=some (GJ t.mask (q+m) (st0 t.mask (Gw P w r))).j/\∀r',ps[i]?=some r'->r'≠r:=by
   rintro m ⟨i,h1,h2⟩;refine ⟨i,by rw [GZ];exact h1,λr' D e=>?_⟩;subst e;apply h2;have hi:i<es.size:=by
    have:=(Yao.mp D).1
    lia
   obtain ⟨r2,e1,e2⟩:=J5 hE (i:=i) (e:=es[i]) (by rw [Yax,Ybd hi]);rw [D] at e1;cases e1;unfold hAt;rw [Ybd hi];exact e2.1
  have L:∀n,(∀m,m<n->∃i:Nat,t.place[i]?=some (GJ t.mask m (GJ t.mask q (st0 t.mask (Gw P w r)))).j/\hAt es i≠Gw P w r)->∀m,m<q+n->∃i:Nat,t.place[i]?=some (GJ t.mask m (st0 t.mask (Gw P w r))).j/\∀r',ps[i]?=some r'->r'≠r:=by
   intro n h m hm;rcases Nat.lt_or_ge m q with z | z
   ·exact hold m z
   ·have:=B (m-q) (h (m-q) (by lia));rw [show q+(m-q)=m by lia] at this;exact this
  rcases sp with ⟨n,g1,O,g3⟩ | ⟨n,i,g1,O,g3,g4⟩
  ·have em:t.probe (hAt es) (Gw P w r) (GJ t.mask q (st0 t.mask (Gw P w r)))=some (.empty (GJ t.mask (q+n) (st0 t.mask (Gw P w r))).j none):=by
    unfold SetTable.probe;rw [g1,ac,GZ]
   generalize hm:t.probe _ (Gw P w r) (GJ t.mask q (st0 t.mask (Gw P w r)))=mm;have ad:mm=some (.empty (GJ t.mask (q+n) (st0 t.mask (Gw P w r))).j none):=by rw [<-hm];exact em
   subst ad;dsimp only;have all:=L n g3;rw [<-GZ] at O;refine Yab (aj (λao=>?_) (q+n) O λm ak=>by obtain ⟨i,hi,_⟩:=all m ak;exact JM hi);obtain ⟨i,hi,e⟩:=Yck ao;have U:i<es.size:=by lia
   have al:ps[i]?=some r:=by rw [Yba hi,e]
   obtain ⟨r2,e1,e2⟩:=J5 hE (i:=i) (e:=es[i]) (by rw [Yax,Ybd U]);rw [al] at e1;cases e1;have ae:t.place[i]?=some (t.place[i]'(by lia)):=Ybd (by lia);obtain ⟨m,r1,r3⟩:=S.T.rch i (Gw P w r) _ (by rw [Yaz,Yax,Ybd U];exact Ybh some e2.1) ae;rcases Yfg m (q+n) with z | z | z
   ·obtain ⟨i2,h1,h2⟩:=all m z;rw [r1] at h1;have:i2=i:=by
     have b1:=UA S.T.rise h1;have b2:=UA S.T.rise ae
     lia
    subst this;exact h2 r al rfl
   ·subst z;rw [r1] at O;exact O (JM ae)
   ·exact O (r3 (q+n) z)
  ·have em:t.probe (hAt es) (Gw P w r) (GJ t.mask q (st0 t.mask (Gw P w r)))=some (.candidate (GJ t.mask (q+n) (st0 t.mask (Gw P w r))).j i (GJ t.mask (q+n+1) (st0 t.mask (Gw P w r)))):=by
    unfold SetTable.probe;rw [g1,<-GZ,<-GZ,Nat.add_assoc]
   generalize hm:t.probe _ (Gw P w r) (GJ t.mask q (st0 t.mask (Gw P w r)))=mm;have ad:mm=some (.candidate (GJ t.mask (q+n) (st0 t.mask (Gw P w r))).j i (GJ t.mask (q+n+1) (st0 t.mask (Gw P w r)))):=by rw [<-hm];exact em
   subst ad;dsimp only;rw [<-GZ] at O;have U:i<es.size:=by
    have:=(Yft.mp O).1
    lia
   obtain ⟨r2,e1,e2,c,e3,e4,_⟩:=J5 hE (i:=i) (e:=es[i]) (by rw [Yax,Ybd U]);have aq:q+n<N:=by
    rcases Yfg (q+n) N with z | z | z
    ·exact z
    ·subst z;exact absurd (JM O) aa
    ·obtain ⟨i2,h1,_⟩:=L n g4 N z;exact absurd (JM h1) aa
   have af:t.sameMemory t.moves t.mask=some true:=by unfold SetTable.sameMemory;simp
   have ag:t.slot (GJ t.mask (q+n) (st0 t.mask (Gw P w r))).j=.live i:=Zak t S.T.rise O;have Y:es[i]?=some (es[i].1,es[i].2):=Ybd U;rw [Y];rw [e3];rw [e3] at Y;have lst:∀v∈List.map (λx:Int×Aa=>x.2) (Array.filter (λx:Int×Aa=>x.1 == Gw P w r) es).toList,∃a r',v=Value.ref a/\IsTu P w s.heap r' a:=by
    intro v hv;obtain ⟨e,he,rfl⟩:=Yal.mp hv;rw [Array.toList_filter] at he;obtain ⟨j,hj,ej⟩:=Yck (Ycg.mp he).1;obtain ⟨r3,_,_,c3,e5,e6,_⟩:=J5 hE (i:=j) (e:=e) (by rw [Yba hj,ej]);exact ⟨c3,r3,e5,e6⟩
   have ah:∀{Z:Sem SetFound},wpAny (model P w) A Z Q E s->wpAny (model P w) A (if (!t.led)=true then do
      let u <- searchCouldBeSeen (Value.ref b) (List.map (λx:Int×Aa=>x.2) (Array.filter (λx:Int×Aa=>x.1 == Gw P w r) es).toList)
      if u=true then do
       unsupported "set:the-search-would-show-the-table"
       Z
      else Z
     else Z) Q E s:=by
    intro Z hZ;cases hl:t.led with
    | true=>
     rw [if_neg (show ¬ ((!true)=true) by decide)];exact hZ
    | false=>
     rw [if_pos (show (!false)=true by decide)];apply Yaa;refine Y4 hx lst ?_;rw [if_neg Yap];exact hZ
   refine ah ?_;apply Yaa;apply Ycb;refine wpAny_eqBool_tuple hu e4 hx ?_;apply Yaa;refine Yep ho hd S.fits ?_;dsimp only;by_cases ai:r2=r
   ·subst ai;rw [Yay rfl,if_pos (show (true && true)=true from rfl)];exact Yab (ab (Ybf e1))
   ·have am:decide (r2=r)=false:=Ybp ai;rw [am,if_neg (show ¬ ((true && false)=true) from Yap),af];dsimp only;rw [if_pos rfl,ag];dsimp only;rw [Y];dsimp only;apply Yaa;have ap:(c == c)=true:=by simp
    show wpAny _ _ (if (c == c)=true then pure true else _) _ _ s;rw [if_pos ap];apply Yab;apply Yaa;apply Yab;rw [if_pos rfl];dsimp only;rw [if_neg Yap];refine Oq hu ho hd S hE hx ab aj N hN aa jQ (q+n+1) _ rfl (by lia) (by lia) λm ak=>?_;rcases Nat.lt_or_ge m (q+n) with z | z
    ·exact L n g4 m z
    ·have:m=q+n:=by lia
     subst this;exact ⟨i,O,λr' D=>by rw [e1] at D;cases D;exact ai⟩
end
theorem Xl (q:IsTu P w s.heap r a)(h:Q true s):wpAny (model P w) A (hashByValue 8 (.ref a)) Q E s:=by
 have D:=IsTupleKey.typeIs q;obtain ⟨o,its,n,L,U,N,hi⟩:=q;unfold hashByValue;apply Yaa;refine wpAny_specialOf D F.slot_tuple_hash.lookup ?_;dsimp only;apply Yaa;apply wpAny_seqItems L N;apply Yaa;show wpAny _ _ (forIn its _ _) _ _ s;rw [<-Array.forIn_toList];refine wpAny_forIn_list _ (λrest c s'=>c.1=none/\s'=s/\∀v∈rest,∃i t,v=Value.int i t) _ ?_ ?_ _ _ ⟨rfl,rfl,WS hi⟩
 ·rintro v rest c s' ⟨j,rfl,B⟩;obtain ⟨i,t,rfl⟩:=B v Ybg;apply Yaa;rw [hashByValue_scannable 7 (x:=.int i t) rfl];apply Yab;rw [if_neg (show ¬ ((!plainKind (Value.int i t))=true) from Yap)];exact Yab ⟨rfl,rfl,λu O=>B u (Ybe _ O)⟩
 ·rintro ⟨Y,Z⟩ s' ⟨j,rfl,_⟩;simp only at j;subst j;exact Yab h
noncomputable def Zca (P:PP)(w:Ab)(Ad:AD->LI->Prop)(h0:Heap)(o:Obj)(ps:List (LI)):Prop:=∃es ep t,o.ExactSet/\o.data=.set es ep t/\Paired (Y3 P w Ad h0) es.toList ps/\ps.Nodup/\SOk t es/\t.plain=true/\t.led=!J4 w
theorem Y5 (x:Paired (Y3 P w Ad h) l ps)(k:∀b o,h.get? b=some o->h'.get? b=some o):Paired (Y3 P w Ad h') l ps:=by
 induction x with
 | nil=>exact .nil
 | cons e t ih=>
  obtain ⟨h1,a,h2,j,q⟩:=e;exact .cons ⟨h1,a,h2,j.keep (λo e=>k a o e),q⟩ ih
theorem Zd4 (hu:A.units<cLine)(al:∀c o',h0.get? c=some o'->s.heap.get? c=some o')(ho:s.heap.get? a=some o)(hS:Zca P w Ad h0 o ps)(hx:IsTu P w h0 r b)(hA:Ad b r)(aC:ps.length+1<=1228)(h:∀(c:Bool)(h':Heap)(o':Obj)(ps':List (LI)),Heap.SameBut a s.heap h'->h'.get? a=some o'->Zca P w Ad h0 o' ps'->ps'.Perm (if r∈ps then ps else ps++[r])->Q c { s with heap:=h' }) :
  wpAny (model P w) A (setAddHashed a (.ref b) (Gw P w r)) Q E s:=by
 obtain ⟨es,ep,t,am,hd,hE,ax,S,ae,U⟩:=id hS;have qV:=Ycv hE;rw [Yan] at qV;have ay:=Y5 hE al;have an:IsTu P w s.heap r b:=hx.keep λo' e=>al b o' e;obtain ⟨N,hN,az⟩:=S.T.empty S.le (Gw P w r);have a1:10 * SetTable.turns t.mask<=20700:=by
  unfold SetTable.turns;rcases S.T.mask with e | e | e | e | e <;> lia
 unfold setAddHashed setAddHashedIn;apply Ycb;apply Yaa;refine Yep ho hd S.fits ?_;dsimp only;have a2:byScan (.ref b) es=false:=rfl;rw [a2,if_neg Yap];apply Yaa;unfold setSearch;refine Oq hu ho hd S ay an ?_ ?_ N hN az 100000 0 none rfl (Yat _) (by lia) (λm hm=>absurd hm (Ydf _))
 ·intro a3;dsimp only;refine Yab ?_;exact h false s.heap o ps (Heap.SameBut.refl a s.heap) ho hS (by rw [if_pos a3])
 ·intro Y n hn qK;dsimp only;apply Yaa;refine Yep ho hd S.fits ?_;dsimp only;obtain ⟨T1,ao⟩:=S.put (.ref b) hn qK;have O:(SetTable.insertAt es (t.put (GJ t.mask n (st0 t.mask (Gw P w r))).j).2 (Gw P w r,Value.ref b)).size=es.size+1:=V2 _ _ _;have q:=SetTable.insertAt_perm es (t.put (GJ t.mask n (st0 t.mask (Gw P w r))).j).2 (Gw P w r,Value.ref b);rw [Yeo] at q;have ai:(t.put (GJ t.mask n (st0 t.mask (Gw P w r))).j).1.mask=t.mask:=rfl;have Z:(t.put (GJ t.mask n (st0 t.mask (Gw P w r))).j).1.plain=t.plain:=rfl;have L:(t.put (GJ t.mask n (st0 t.mask (Gw P w r))).j).1.led=t.led:=rfl;generalize htp:t.put (GJ t.mask n (st0 t.mask (Gw P w r))).j=tp at T1 ao O q ai Z L ⊢;obtain ⟨t1,p1⟩:=tp;dsimp only at T1 ao O q ai Z L ⊢;have a4:Paired (Y3 P w Ad h0) (es.toList++[(Gw P w r,Value.ref b)]) (ps++[r]):=WT hE (.cons ⟨rfl,b,rfl,hx,hA⟩ .nil);obtain ⟨a5,aj,ab⟩:=Vu q a4;have af:(ps++[r]).Nodup:=Ycl.mpr ⟨ax,by simp,λc hc d ap=>by
   rw [Yai] at ap;subst ap;intro z;exact Y (z▸hc)⟩
  generalize hes1:SetTable.insertAt es p1 (Gw P w r,Value.ref b)=B at T1 O q aj ⊢;have hz:B.size<=sizeLine:=by rw [Yav];lia
  have aa:∀(bv:Bool),bv=true->wpAny (model P w) A (do
    storeSet a B (if bv=true then t1 else { t1 with plain:=false })
    if (!false && (if bv=true then t1 else { t1 with plain:=false }).tooFull)=true then do
     setRelay a (SetTable.grown (es.size+1))
     pure true
    else pure true) Q E s:=by
   intro bv a6;obtain ⟨D,a7,ac,aq,ag,ah⟩:∃D:SetTable,(if bv=true then t1 else { t1 with plain:=false })=D/\TOk D (Zb3 B)/\D.mask=t.mask/\D.plain=t.plain/\D.led=t.led:=by
    subst a6;exact ⟨t1,rfl,T1,ai,Z,L⟩
   rw [a7];apply Yaa;refine wpAny_storeSet_of ho hd ?_ hz;have ad:=WR ho hd B D;have ar:=Ycr s.heap a (Obj.putSet B D);rcases Zao S (by lia) ac (by rw [Jk];exact O) aq with ⟨hfull,hwhen⟩ | ⟨hfull,jJ⟩
   ·rw [hfull,if_pos (show (!false && true)=true from rfl)];rw [<-O] at hwhen ⊢;obtain ⟨t2,od,eR,hp,S2,a8,as,aB⟩:=Zb4 ac hwhen;have ak:D.fits B.size=true:=by
     have:=ac.fits (by rw [Jk];rcases hwhen with ⟨q1,q2⟩ | ⟨q1,q2⟩ | ⟨q1,q2⟩ | ⟨q1,q2⟩ <;> lia);rw [Jk] at this;exact this
    apply Yaa;unfold setRelay;apply Yaa;refine Yep ad rfl ak ?_;dsimp only;rw [if_neg (by rw [Yav];lia)];apply Yaa;rw [eR];have au:=JK hp;have av:(od.filterMap (B[·]?)).size=B.size:=by
     have:=au.length_eq;rw [Yan,Yan] at this;exact this
    obtain ⟨a9,aA,aw⟩:=Vu au aj;show wpAny _ _ (if ((od.filterMap (B[·]?)).size != B.size)=true then _ else _) _ _ _;rw [if_neg (by rw [av];simp)];apply Yab;dsimp only;refine wpAny_storeSet_of ad rfl ?_ (by rw [av];exact hz);apply Yab;refine h true _ _ a9 (ar.trans (Ycr _ a _)) (WR ad rfl _ t2) ⟨_,_,t2,am,rfl,aA,(aw.trans ab).nodup_iff.mpr af,S2,by rw [as,ag];exact ae,by rw [a8,ah];exact U⟩ ?_;rw [if_neg Y];exact aw.trans ab
   ·rw [hfull,if_neg (show ¬ ((!false && false)=true) from Yap)];apply Yab;refine h true _ _ a5 ar ad ⟨B,_,D,am,rfl,aj,ab.nodup_iff.mpr af,⟨ac,by rw [O];exact jJ⟩,by rw [ag];exact ae,by rw [ah];exact U⟩ ?_;rw [if_neg Y];exact ab
  cases hpl:t1.plain with
  | true=>
   rw [if_pos rfl];apply Yaa;refine Xl an ?_;exact aa true rfl
  | false=>
   rw [if_neg Yap];apply Yaa;apply Yab;exact aa true rfl
end
theorem Zat (P:PP)(w:Ab)(Ad:AD->LI->Prop)(h0:Heap):Zca P w Ad h0 (Ja w) []:=⟨#[],0,_,⟨rfl,rfl,rfl⟩,rfl,.nil,Yee,SOk.fresh 0 0 _,rfl,rfl⟩
section
variable {X:Cx}(K:FG)
theorem Vv {P:PP}{w:Ab}:∀{r:LI}{us:LW},Vals (r.map V.int) us->ItemsAre (intKind P w) r us
 | [],_,.nil=>.nil
 | _::_,_,.cons h t=>by
  obtain ⟨t1,rfl⟩:=h;exact .cons (intKind_is _ _ _ _) (Vv t)
theorem Zd5 (I:HOk P w H h)(e:H t=some (.tup (r.map V.int))):IsTu P w h r t:=by
 obtain ⟨_,its,j,o,q,B,n,D⟩:=I t _ e;exact ⟨o,its.toArray,n,q,B,D,Vv j⟩
inductive Tus (H:Hp):List V->List (LI)->Prop
 | nil:Tus H [] []
 | cons {p:AD} {r:LI} {xs:List V} {rs:List (LI)}:H p=some (.tup (r.map V.int))->Tus H xs rs->Tus H (.ref p::xs) (r::rs)
theorem Tus.len {rs:List (LI)}(h:Tus H xs rs):xs.length=rs.length:=by
 induction h with
 | nil=>rfl
 | cons _ _ ih=>rw [Ybm,Ybm,ih]
theorem Tus.get {rs:List (LI)}(g:Tus H xs rs){i:Nat}(h:xs[i]?=some x):∃t r,x=.ref t/\H t=some (.tup (r.map V.int))/\rs[i]?=some r:=by
 induction g generalizing i with
 | nil=>simp at h
 | cons e _ ih=>cases i with
  | zero=>
   simp at h;subst h;exact ⟨_,_,rfl,e,rfl⟩
  | succ i=>
   rw [Yfh] at h ⊢;exact ih h
end
noncomputable def chT (ks:List Tri)(x:Int):LI:=match ks[(x-2).toNat]? with | some r=>[r.2.1,r.2.2] | none=>[]
theorem X7 (n:Nd ks x r):chT ks x=[r.2.1,r.2.2]:=by unfold chT;rw [n.2]
noncomputable def WU (ks:List Tri)(root:Int)(f:LI):LI:=root::f.flatMap (chT ks)
theorem Zau (ks:List Tri)(root:Int)(f:LI)(x:Int):WU ks root (f++[x])=WU ks root f++chT ks x:=by
 unfold WU;rw [List.flatMap_append,List.flatMap_cons,List.flatMap_nil,Yei]
 rfl
noncomputable def New (f:LI)(x:Int):Prop:=x≠0/\x≠1/\x ∉ f
theorem New.num :New f x↔Jc f x=none:=by
 constructor
 ·rintro ⟨h0,h1,h2⟩;unfold Jc;rw [if_neg h0,if_neg h1,Yfi,List.idxOf?_eq_none_iff];exact h2
 ·intro h;exact UT h
noncomputable def Ext (ks:List Tri)(root:Int)(f:LI)(x:Int):Prop:=∃p q,WU ks root f=p++x::q/\New f x/\∀y∈p,¬ New f y
inductive Rch (ks:List Tri)(root:Int):LI->Prop
 | nil:Rch ks root []
 | snoc {f:LI} {x:Int}:Rch ks root f->Ext ks root f x->Rch ks root (f++[x])
noncomputable def Fin (ks:List Tri)(root:Int)(f:LI):Prop:=∀y∈WU ks root f,¬ New f y
theorem Y6 (e:fs[k]?=some x):WU ks root fs=WU ks root (fs.take k)++(chT ks x++(fs.drop (k+1)).flatMap (chT ks)):=by
 obtain ⟨q,j⟩:=Yao.mp e;have h:fs=fs.take k++x::fs.drop (k+1):=by
  rw [<-j,List.getElem_cons_drop,Ydp]
 unfold WU;rw [List.cons_append,<-List.flatMap_cons,<-List.flatMap_append,<-h]
theorem Fnd.old (F:Fnd ks root fs kvs k)(q:(Jc fs root).isSome):∀y∈WU ks root (fs.take k),¬ New fs y:=by
 intro y N O;have L:=New.num.mp O;unfold WU at N;rcases Yam.mp N with h | h
 ·rw [<-h,L] at q;cases q
 ·obtain ⟨x,U,B⟩:=List.mem_flatMap.mp h;obtain ⟨j,Y,Z⟩:=Yck U;rw [Ybo] at Y;have hk:=F.kle;have D:fs[j]?=some x:=by
   rw [<-Z,List.getElem_take];exact Yba _
  obtain ⟨r,n⟩:=F.nod x (Ybf D);obtain ⟨h1,h2⟩:=F.cl j (by lia) x r D n;rw [X7 n] at B;rcases Yam.mp B with z | z
  ·rw [<-z,L] at h1;cases h1
  ·rw [Yai] at z;rw [<-z,L] at h2;cases h2
theorem Fnd.ext (F:Fnd ks root fs kvs k)(j:(Jc fs root).isSome)(B:fs[k]?=some x)(n:Nd ks x r)(e:[r.2.1,r.2.2]=pre++c::post)(D:∀y∈pre,(Jc fs y).isSome)(L:Jc fs c=none):Ext ks root fs c:=by
 refine ⟨WU ks root (fs.take k)++pre,post++(fs.drop (k+1)).flatMap (chT ks),?_,New.num.mpr L,λy N q=>?_⟩
 ·rw [Y6 B,X7 n,e];simp
 ·rcases Yaj.mp N with h | h
  ·exact F.old j y h q
  ·have:=D y h;rw [New.num.mp q] at this;cases this
theorem Fnd.fin (F:Fnd ks root fs kvs fs.length)(j:(Jc fs root).isSome):Fin ks root fs:=by
 have:=F.old j;rw [Ycd] at this;exact this
theorem V4 {K:FG}(j:Nat->List V->Hp->Prop)(h0:j 0 [] (upd H1 D (.lst [])))(q:∀i ys H,i<=xs.length->j i ys H->SqT K H a xs)(O:∀i x ys H,xs[i]?=some x->j i ys H->g x σ0 H λB U=>GQ σ0 B/\tc B U λb L=>if b=true then te B L λy N=>N D=some (.lst ys)/\ys.length<sizeLine/\j (i+1) (ys++[y]) (upd N D (.lst (ys++[y]))) else j (i+1) ys L)(Y:∀ys H,j xs.length ys H->R H):Vo (Itt K a) D g tc te σ0 R H1:=OE j h0 (λi s H hi p=>⟨λz=>⟨xs,xs[i],q i s H hi p,by simp [z]⟩,λe=>⟨xs,q i s H hi p,by lia⟩⟩) (λi s H x H' z p y=>by obtain ⟨rfl,y⟩:=y;exact O i x s _ (y xs (q i s _ (Ycw z) p)) p) Y
set_option maxRecDepth 8000 in
theorem Y7 (l:AD)(items:Array Aa)(n:Nat)(b:AD)(j:Array Aa)(N:Nat)(O:Option AD)(U:Array (Option Aa))(Y:¬(!items.isEmpty && Builtin.List.listTooLong (items.size+j.size))=true)(q:items.size<=sizeLine)(B:items.size+j.size<=sizeLine+1) :
  Meets (Builtin.«list.extend» ⟨[.ref l,.ref b],[]⟩) (λ_ R s=>s.heap.get? l=some { cls:=.type "list", dict:=none,data:=.seq items n,slots:=#[] }/\s.heap.get? b=some { cls:=.type "tuple", dict:=O,data:=.seq j N,slots:=U }/\R (.ok (.ret Value.none)) { s with heap:=s.heap.update l (Obj.mapSeq λx=>x++j),toks:=s.toks }):=
 .of_wp λprog w A R s h=>by
  obtain ⟨hp,g,d,tk,os⟩:=s;obtain ⟨L,Z,h⟩:=h;have f1:=AutoSeq1.idx_int;have f2:=AutoSeq1.sub_tuple_tuple;have f3:=AutoSeq1.sub_list_list;have f4:=AutoSeq1.sub_tuple_list;have f5:=AutoSeq1.sub_list_tuple;have D:(items++j).size<=sizeLine+1:=by rw [Array.size_append];exact B
  wp_walk using (wpAny_updateSeq L rfl (hz:=q) (_hz':=D)),AutoSeq1.wpAny_loadPart' L,AutoSeq1.wpAny_loadPart' Z
  exact ⟨_,rfl,h⟩
section
variable {X:Cx}
noncomputable def Zcb:V->List V->Hp->VK->Prop:=λx vs H Q=>∃l b xs zs,x=.ref l/\vs=[.ref b]/\H l=some (.lst xs)/\H b=some (.tup zs)/\xs.length+zs.length<=sizeLine/\Q .non (upd H l (.lst (xs++zs)))
theorem Vw:MtM X "list.extend" Zcb:=by
 intro qQ s σ H x vs v us Q I Y Z h;obtain ⟨l,b,xs,zs,rfl,rfl,L,hB,hz,q⟩:=h;cases Y;obtain ⟨u,rfl,ru⟩:=Z.one;cases ru;obtain ⟨z,its,n,r,hl,e⟩:=I.lstM L;obtain ⟨_,j,N,o,ho,O,n2,U⟩:=I.hok b _ hB;have aa:=N.length;have ab:=r.length;have D:its.toArray.size+j.toArray.size<=sizeLine:=by rw [Yau,Yau];lia
 have B:¬ (!its.toArray.isEmpty && Builtin.List.listTooLong (its.toArray.size+j.toArray.size))=true:=by
  rw [ZbO D,Bool.and_false];exact Yap
 refine call_meets F.slot_list_extend ⟨_,e,rfl⟩ F.entry_list_extend (F.args_list_extend_2 _ _)
  (Y7 l its.toArray n b j.toArray n2 o.dict o.slots B (by rw [Yau];lia) (by lia)) ⟨e,?_,?_⟩
 ·rw [ho];cases o;simp only at O U;rw [O,U]
 refine ⟨.non,_,I.lset (its':=its++j) L e (by simp) (r.append N) ?_,rfl,q⟩;rw [Yak]
 lia
theorem Zd6 (O:Gl X "range")(U:X.mg "range" = none)(ha:PA X [a,b] ta)(Y:starEach [a,b] X.env=[(false,eval a X.env),(false,eval b X.env)]:=by rfl)(B:starEach [b] X.env=[(false,eval b X.env)]:=by rfl) :
  PE X (.Call (.Name "range" p) [a,b] [] pos) (λσ H Q=>ta σ H λvs H1=>∃i j:Int,vs=[.int i,.int j]/\∀r,H1 r=none->Q (.ref r) (upd H1 r (.rng i j))):=by
 intro qQ s σ H Q I h;refine Call_ (Ol I O U boot_range (Yfe (thG (ha pos qQ s σ H _ I h) λus s1 vs H1 N Z q1=>?_) (by rw [Y,B]) (by rw [B];rfl)));obtain ⟨i,j,rfl,q⟩:=q1;obtain ⟨u1,u2,rfl,D,L⟩:=Z.two;obtain ⟨t1,rfl⟩:=D;obtain ⟨t2,rfl⟩:=L;refine call_range_2 ?_;exact ⟨.ref _,_,N.laid (o:=.rng i j) (λb o e=>Yae _ e) (Yaf _) ⟨_,_,_,Yaw _ rfl⟩,rfl,q _ N.fresh⟩
end
theorem Zd7 (ks:List Tri)(x:Int):(chT ks x).length<=2:=by
 unfold chT;split <;> simp
theorem Zcc (ks:List Tri)(root:Int)(f:LI):(WU ks root f).length<=1+2 * f.length:=by
 unfold WU;rw [Ybm];have:(f.flatMap (chT ks)).length<=2 * f.length:=by
  induction f with
  | nil=>simp
  | cons x f ih=>
   have:=Zd7 ks x;rw [List.flatMap_cons,Yak,Ybm]
   lia
 lia
theorem nodes_le {fs:LI}(nd:fs.Nodup)(j:∀x∈fs,∃r,Nd ks x r):fs.length<=ks.length:=by
 have:=Ycp (l₂:=(List.range ks.length).map λ(i:Nat)=>(i:Int)+2) nd λx q=>by
  obtain ⟨r,n⟩:=j x q;have h1:=n.lt;have h2:=n.1;exact Yal.mpr ⟨(x-2).toNat,Yci.mpr (by lia),by lia⟩
 rw [Yac,Ydo] at this;exact this
structure Wk (ks:List Tri)(root:Int)(fs:LI)(kvs:List (Key×V))(pr ah:LI):Prop where
 e:WU ks root fs=pr++ah
 old:∀y∈pr,¬ New fs y
 seen:∀n:Int,JC kvs (.inl n)=none↔New fs n
 nd:fs.Nodup
 nod:∀x∈fs,∃r,Nd ks x r
 rch:Rch ks root fs
 kl:kvs.length<=fs.length+2
 ok:∀y∈ah,At ks y (-1)
theorem Wk.le (h:Wk ks root fs kvs j q):fs.length<=ks.length:=nodes_le h.nd h.nod
theorem Wk.ahl (h:Wk ks root fs kvs q j):j.length<=1+2 * ks.length:=by
 have h1:=Zcc ks root fs;rw [h.e,Yak] at h1;have:=h.le
 lia
theorem Wk.skip (h:Wk ks root fs kvs q (c::B))(n:¬ New fs c):Wk ks root fs kvs (q++[c]) B:=by
 refine ⟨by rw [h.e,Ybu];rfl,λy j=>?_,h.seen,h.nd,h.nod,h.rch,h.kl,λy j=>h.ok y (Ybe _ j)⟩;rcases Yaj.mp j with z | z
 ·exact h.old y z
 ·rw [Yai] at z;rw [z];exact n
theorem Wk.take (T:TabOk ks)(h:Wk ks root fs kvs q (c::B))(n:New fs c)(d:Nd ks c r):Wk ks root (fs++[c]) (JD kvs (.inl c) v) (q++[c]) (B++[r.2.1,r.2.2]):=by
 obtain ⟨O,h1,h2⟩:=T.nd d;have j:∀y,New (fs++[c]) y↔(New fs y/\y≠c):=λy=>by
  unfold New;rw [Yaj,Yai];constructor
  ·rintro ⟨a,b,e⟩;exact ⟨⟨a,b,λz=>e (.inl z)⟩,λz=>e (.inr z)⟩
  ·rintro ⟨⟨a,b,e⟩,f⟩;exact ⟨a,b,λz=>z.elim e f⟩
 refine ⟨?_,λy D=>?_,λm=>?_,?_,λx N=>?_,.snoc h.rch ⟨q,B,h.e,n,h.old⟩,?_,λy D=>?_⟩
 ·rw [Zau,h.e,X7 d];simp
 ·rw [j];rintro ⟨a,b⟩;rcases Yaj.mp D with z | z
  ·exact h.old y z a
  ·exact b (Yai.mp z)
 ·rw [GY,j,<-h.seen m];by_cases e:m=c
  ·rw [if_pos (by rw [e])];exact ⟨λz=>(by cases z),λz=>absurd e z.2⟩
  ·rw [if_neg (λz=>e (Yeh z))];exact ⟨λz=>⟨z,e⟩,λz=>z.1⟩
 ·exact Ycl.mpr ⟨h.nd,by simp,λa ha b L=>by rw [Yai] at L;subst L;exact λz=>n.2.2 (z▸ha)⟩
 ·rcases Yaj.mp N with z | z
  ·exact h.nod x z
  ·rw [Yai] at z;subst z;exact ⟨r,d⟩
 ·have:=GW kvs (.inl c) v;have:=h.kl;rw [Yak,Ybc]
  lia
 ·rcases Yaj.mp D with z | z
  ·exact h.ok y (Ybe _ z)
  ·rcases Yam.mp z with z | z
   ·rw [z];exact h1.mono (by lia)
   ·rw [Yai] at z;rw [z];exact h2.mono (by lia)
theorem Wk.fin (h:Wk ks root fs kvs q []):Fin ks root fs:=by
 intro y j;rw [h.e,Yei] at j;exact h.old y j
mutual
inductive Th (H:Hp):V->PyData->Prop
 | non:Th H .non .none
 | bl (b:Bool):Th H (.bl b) (.bool b)
 | int (i:Int):Th H (.int i) (.int i)
 | str (x:Str):Th H (.str x) (.str x)
 | lst {a:AD} {xs:List V} {ds:List PyData}:H a=some (.lst xs)->xs.length<=1000->Ths H xs ds->Th H (.ref a) (.list ds)
 | tup {a:AD} {xs:List V} {ds:List PyData}:H a=some (.tup xs)->xs.length<=1000->Ths H xs ds->Th H (.ref a) (.tuple ds)
inductive Ths (H:Hp):List V->List PyData->Prop
 | nil:Ths H [] []
 | cons {x:V} {d:PyData} {xs:List V} {ds:List PyData}:Th H x d->Ths H xs ds->Ths H (x::xs) (d::ds)
end
mutual
theorem Th.same {H H':Hp}(s:Same H H'):∀{v:V}{d:PyData},Th H v d->Th H' v d
 | _,_,.non=>.non
 | _,_,.bl b=>.bl b
 | _,_,.int i=>.int i
 | _,_,.str x=>.str x
 | _,_,.lst e z h=>.lst (s _ _ e) z (Ths.same s h)
 | _,_,.tup e z h=>.tup (s _ _ e) z (Ths.same s h)
theorem Ths.same {H H':Hp}(s:Same H H'):∀{vs:List V}{ds:List PyData},Ths H vs ds->Ths H' vs ds
 | _,_,.nil=>.nil
 | _,_,.cons h t=>.cons (Th.same s h) (Ths.same s t)
end
section
variable {X:Cx}{a:Expr}{ta:TE}{pos:Pos}
theorem X8 (K:FG)(h:X.K=K:=by rfl):JY X (.type "tuple") (λxs H Q=>∃p ys,xs=[.ref p]/\((SqL K H p ys/\∀l,H l=none->Q (.ref l) (upd H l (.tup ys)))\/(SqT K H p ys/\Q (.ref p) H))):=h▸VP
end
end L2
namespace L2
open PySem PySem.Spec PyProof.Rows
section
variable {prog:PP}{w:Ab}{A:Around}{E:Aa->SS->Prop}{s:SS}
theorem lt_int (h:Q (.bool (decide (x<y))) s):wpAny (model prog w) A (richCompare .Lt (.int x t) (.int y u)) Q E s:=
 CmpOf.ints_lt (P:=λi v=>∃t,v=.int (if i=0 then x else y) t) (λi=>if i=0 then x else y) (λ_ _ p=>p) 0 1 _ _ s Q E ⟨t,rfl⟩ ⟨u,rfl⟩ h
end
noncomputable def ZfA (prog:PP)(w:Ab)(A:Around)(op:CmpOp)(J:Heap->Prop)(P:Nat->Aa->Prop)(q:Nat->Nat->Bool):Prop:=
 ∀(s:SS)(i j:Nat)(vi vj:Aa)(Q E:Aa->SS->Prop),J s.heap->P i vi->P j vj->Q (.bool (q i j)) s->wpAny (model prog w) A (richCompare op vi vj) Q E s
section
variable {prog:PP}{w:Ab}{A:Around}{R:Result->SS->Prop}{I:AD}{fp wr:List AD}{n:Nat}{P:Nat->Aa->Prop}{St:Nat->Heap->Prop}{J:Heap->Prop}{kw:List (Str×Aa)}
theorem Zav (W:Walks prog w A.in1 I fp wr n P St)(Y:Nat->Nat->Bool)(ab:ZfA prog w A.in1 .Lt J P Y)(D:AD)(hD:D ∉ fp)(q:∀h h':Heap,J h->(∀b o,b ∉ wr->b≠D->h.get? b=some o->h'.get? b=some o)->J h') :
  ∀(left m:Nat)(s:SS)(best:Aa)(c:Nat),n-(m+1)=left->m+1<=n->St (m+1) s.heap->J s.heap->P (argBest Y m) best ->
  s.heap.get? D=some { cls:=.type "list", dict:=none,data:=.seq #[best,best] c,slots:=#[] } ->
  (∀v h' tk,P (argBest Y (n-1)) v->(∀b o,b ∉ wr->b≠D->s.heap.get? b=some o->h'.get? b=some o)->R (.ok (.ret v)) { s with heap:=h',toks:=tk }) ->
  codeAny (model prog w) A (.builtin "min.loop" ⟨[.ref I,.none,.ref D],kw⟩) R s:=by
 have Z:D ∉ wr:=λz=>hD (W.sub _ z);have nm:(toString "min" ++ toString ".loop" : String) = "min.loop" := by decide
 intro left
 induction left with
 | zero=>
  intro m s best c hl hm st j pb gD hR;have en:m+1=n:=by lia
  refine Ycz F.entry_min_loop ?_;rw [Ydz Yex _];show wpAny _ A.in1 (seqItems? (.ref D) >>= _) _ _ s;refine Yaa (wpAny_seqItems gD rfl (show wpAny _ A.in1 (tryCatch (pyNext (.ref I)) _ >>= _) _ _ s from Yaa (wpAny_tryCatch (W.done s _ _ (en▸st) λh' tk kept=>?_))));show wpAny _ A.in1 (updateSeq D (λ_=>#[]) >>= _) _ _ _;refine Yaa (wpAny_updateSeq (kept D _ Z gD) rfl (Yaa (wpAny_letGo (Yab (hR best _ tk (by rw [<-en];exact pb) λb o B L e=>?_)))));exact (Ycn _ _ (Ne.symm L)).trans (kept b o B e)
 | succ left ih=>
  intro m s best c hl hm st j pb gD hR;refine Ycz F.entry_min_loop ?_;rw [Ydz Yex _];show wpAny _ A.in1 (seqItems? (.ref D) >>= _) _ _ s;refine Yaa (wpAny_seqItems gD rfl (show wpAny _ A.in1 (tryCatch (pyNext (.ref I)) _ >>= _) _ _ s from Yaa (wpAny_tryCatch (W.item (m+1) s _ _ (by lia) st λv h' tk pv aa kept=>?_))));have N:=kept D _ Z gD;have j':J h':=q _ _ j λb o B _ e=>kept b o B e;show wpAny _ A.in1 (tryCatch (holding [v,v] (richCompare .Lt v best >>= _)) _ >>= _) _ _ _;refine Yaa (wpAny_tryCatch (Ycb (Yaa (ab _ (m+1) (argBest Y m) v best _ _ j' pv pb (Yaa (Ycb (Yeb (Yaa (wpAny_letGo (Yab ?_))))))))));cases hb:Y (m+1) (argBest Y m) with
  | true=>
   simp only [if_true];refine Yaa (wpAny_updateSeq N rfl (Yaa (wpAny_letGo ?_)));rw [nm];refine Yab ⟨Yeg Yex _,ih (m+1) _ v _ (by lia) (by lia) (W.frame _ _ _ aa λb bf o e=>?_) (q _ _ j' λb o _ L e=>(Ycn _ _ (Ne.symm L)).trans e) (by simp only [argBest,hb,if_true];exact pv) (Ydq _ N rfl) λv' h2 O U k2=>?_⟩
   ·exact (Ycn _ _ (λz:D=b=>hD (by rw [z];exact bf))).trans e
   ·exact hR v' h2 O U λb o B L e=>k2 b o B L ((Ycn _ _ (Ne.symm L)).trans (kept b o B e))
  | false=>
   simp only [Yem,Ycy];refine Yaa (wpAny_letGo ?_);rw [nm];refine Yab ⟨Yeg Yex _,ih (m+1) _ best c (by lia) (by lia) aa j' (by simp only [argBest,hb,Yem,Ycy];exact pb) N λv' h2 O U k2=>?_⟩;exact hR v' h2 O U λb o B L e=>k2 b o B L (kept b o B e)
theorem Y8 (W:Walks prog w A.in1 I fp wr n P St)(O:Nat->Nat->Bool)(U:ZfA prog w A.in1 .Lt J P O)(D:AD)(Y:D ∉ fp)(q:∀h h':Heap,J h->(∀b o,b ∉ wr->b≠D->h.get? b=some o->h'.get? b=some o)->J h')(hn:0<n)(st:St 0 s.heap)(j:J s.heap)(gD:s.heap.get? D=some { cls:=.type "list", dict:=none,data:=.seq #[] c,slots:=#[] })(hR:∀v h' tk,P (argBest O (n-1)) v->(∀b o,b ∉ wr->b≠D->s.heap.get? b=some o->h'.get? b=some o)->R (.ok (.ret v)) { s with heap:=h',toks:=tk }) :
  codeAny (model prog w) A (.builtin "min.loop" ⟨[.ref I,.none,.ref D],kw⟩) R s:=by
 have Z:D ∉ wr:=λz=>Y (W.sub _ z);have nm:(toString "min" ++ toString ".loop" : String) = "min.loop" := by decide
 refine Ycz F.entry_min_loop ?_;rw [Ydz Yex _];show wpAny _ A.in1 (seqItems? (.ref D) >>= _) _ _ s;refine Yaa (wpAny_seqItems gD rfl (show wpAny _ A.in1 (tryCatch (pyNext (.ref I)) _ >>= _) _ _ s from Yaa (wpAny_tryCatch (W.item 0 s _ _ hn st λv h' tk pv aa kept=>?_))));have B:=kept D _ Z gD;have j':J h':=q _ _ j λb o L _ e=>kept b o L e;show wpAny _ A.in1 (updateSeq D (λ_=>#[v,v]) >>= _) _ _ _;refine Yaa (wpAny_updateSeq B rfl ?_);rw [nm];refine Yab ⟨Yeg Yex _,Zav W O U D Y q _ 0 _ v _ rfl hn (W.frame _ _ _ aa λb bf o e=>?_) (q _ _ j' λb o _ N e=>(Ycn _ _ (Ne.symm N)).trans e) pv (Ydq _ B rfl) λv' h2 ab ac k2=>?_⟩
 ·exact (Ycn _ _ (λz:D=b=>Y (by rw [z];exact bf))).trans e
 ·exact hR v' h2 ab ac λb o L N e=>k2 b o L N ((Ycn _ _ (Ne.symm N)).trans (kept b o L e))
end
noncomputable def J6:Bool->Keyed->Array Keyed->Nat->Nat->Nat->StateT SortSt Sem (Option Nat):=sortPriv% PySem.Builtin.gallop
noncomputable def V5:Array Keyed->Array Keyed->StateT SortSt Sem (Array Keyed):=sortPriv% PySem.Builtin.mergeLo
noncomputable def V6:Array Keyed->Array Keyed->StateT SortSt Sem (Array Keyed):=sortPriv% PySem.Builtin.mergeHi
noncomputable def UV:Nat->StateT SortSt Sem Unit:=sortPriv% PySem.Builtin.setMinGallop
noncomputable def Uc (left:Bool)(key:Keyed)(arr:Array Keyed)(base i:Nat):StateT SortSt Sem (Option Bool):=do
 let x <- elem' arr (base+i)
 if left then lt' x key else return (<- lt' key x).map (!·)
noncomputable def OQ (left:Bool)(key:Keyed)(arr:Array Keyed)(base n lo hi:Nat):StateT SortSt Sem (Option Nat):=do
 let mut lo:=lo
 let mut hi:=hi
 for _ in [:n] do
  if lo>=hi then break
  let m:=lo+(hi-lo) / 2
  let some more <- Uc left key arr base m | return none
  if more then lo:=m+1
  else hi:=m
 return some hi
noncomputable def V7 (left:Bool)(key:Keyed)(arr:Array Keyed)(base n hint:Nat):StateT SortSt Sem (Option Nat):=do
 let mut lastofs:=0
 let mut ofs:=1
 let maxofs:=n-hint
 for _ in [:n] do
  if ofs>=maxofs then break
  let some more <- Uc left key arr base (hint+ofs) | return none
  if !more then break
  lastofs:=ofs
  ofs:=2 * ofs+1
 OQ left key arr base n (hint+lastofs+1) (hint+min ofs maxofs)
noncomputable def Ud (left:Bool)(key:Keyed)(arr:Array Keyed)(base n hint:Nat):StateT SortSt Sem (Option Nat):=do
 let mut lastofs:=0
 let mut ofs:=1
 let maxofs:=hint+1
 for _ in [:n] do
  if ofs>=maxofs then break
  let some found <- Uc left key arr base (hint-ofs) | return none
  if found then break
  lastofs:=ofs
  ofs:=2 * ofs+1
 OQ left key arr base n (hint+1-min ofs maxofs) (hint-lastofs)
theorem Y9 (left:Bool)(key:Keyed)(arr:Array Keyed)(base n hint:Nat):J6 left key arr base n hint=(do
  let some right <- Uc left key arr base hint | return none
  if right then V7 left key arr base n hint else Ud left key arr base n hint):=rfl
section
variable {M:Model}{A:Around}{E:Aa->SS->Prop}{s:SS}{kd:SortKind}{b:Keyed->Keyed->Bool}{good:Keyed->Prop}
structure WO (b:Keyed->Keyed->Bool):Prop where
 irr:∀x,b x x=false
 tr:∀x y z,b x y=true->b y z=true->b x z=true
 neg:∀x y z,b x z=true->b x y=true\/b y z=true
noncomputable def O5 (M:Model)(A:Around)(E:Aa->SS->Prop)(s:SS)(kd:SortKind)(b:Keyed->Keyed->Bool)(good:Keyed->Prop):Prop:=
 ∀(x y:Keyed)(st:SortSt)(Q:Option Bool->SortSt->Prop),good x->good y->kindOf st=kd->Q (some (b x y)) st->wpS M A E s (lt' x y) Q st
theorem Gs {st:SortSt}(h:arr[i]?=some x)(q:Q x st):wpS M A E s (elem' arr i) Q st:=by
 rw [elem'_eq,h];exact Yag q
noncomputable def byd (b:Keyed->Keyed->Bool)(left:Bool)(key:Keyed)(arr:Array Keyed)(base i:Nat):Bool:=match arr[base+i]? with
 | some x=>if left then b x key else !b key x
 | none=>false
theorem Of {st:SortSt}(L:O5 M A E s kd b good)(j:good key)(B:arr[base+i]?=some x)(D:good x)(N:kindOf st=kd)(q:Q (some (byd b left key arr base i)) st):wpS M A E s (Uc left key arr base i) Q st:=by
 unfold Uc;refine Yad (Gs B ?_);unfold byd at q;rw [B] at q;cases left with
 | true=>exact L x key st Q D j N q
 | false=>exact Yad (L key x st _ j D N (Yag q))
section
variable {left:Bool}{key:Keyed}{arr:Array Keyed}{base n hint:Nat}{st:SortSt}{Q:Option Nat->SortSt->Prop}
structure Gal (b:Keyed->Keyed->Bool)(good:Keyed->Prop)(left:Bool)(key:Keyed)(arr:Array Keyed)(base n:Nat):Prop where
 gk:good key
 it:∀i,i<n->∃x,arr[base+i]?=some x/\good x
 mono:∀i j,i<=j->j<n->byd b left key arr base j=true->byd b left key arr base i=true
theorem G3 {lo hi:Nat}(L:O5 M A E s kd b good)(G:Gal b good left key arr base n)(O:kindOf st=kd)(h1:lo<=hi)(h2:hi<=n)(B:∀i,i<lo->byd b left key arr base i=true)(D:∀i,hi<=i->i<n->byd b left key arr base i=false)(q:∀k,k<=n->(∀i,i<k->byd b left key arr base i=true)->(∀i,k<=i->i<n->byd b left key arr base i=false)->Q (some k) st):wpS M A E s (OQ left key arr base n lo hi) Q st:=by
 unfold OQ;refine Yad (Yce (λk c j=>j=st/\∃lo hi,c=(none,lo,hi)/\lo<=hi/\hi<=n/\hi-lo<=n-k/\(∀i,i<lo->byd b left key arr base i=true)/\(∀i,hi<=i->i<n->byd b left key arr base i=false)) ?_ ?_ ⟨rfl,lo,hi,rfl,h1,h2,by lia,B,D⟩)
 ·rintro k c j _ hk ⟨rfl,lo,hi,rfl,h1,h2,N,B,D⟩;dsimp only;split
  ·rename_i U;have:lo=hi:=by lia
   subst this;refine Yag ?_;dsimp only;exact Yag (q lo h2 B D)
  ·rename_i U;obtain ⟨x,Y,Z⟩:=G.it (lo+(hi-lo) / 2) (by lia);refine Yad (Of L G.gk Y Z O ?_);dsimp only;cases hb:byd b left key arr base (lo+(hi-lo) / 2) with
   | true=>
    refine Yag ⟨rfl,_,_,rfl,by lia,h2,by lia,λi aa=>G.mono i (lo+(hi-lo) / 2) (by lia) (by lia) hb,D⟩
   | false=>
    refine Yag ⟨rfl,_,_,rfl,by lia,by lia,by lia,B,λi h8 h9=>?_⟩;cases hc:byd b left key arr base i with
    | false=>rfl
    | true=>rw [G.mono _ i h8 h9 hc] at hb;cases hb
 ·rintro c j ⟨rfl,lo,hi,rfl,h1,h2,N,B,D⟩;have:lo=hi:=by simp at N;lia
  subst this;exact Yag (q lo h2 B D)
theorem Ju (L:O5 M A E s kd b good)(G:Gal b good left key arr base n)(O:kindOf st=kd)(hn:hint<n)(q:∀k,k<=n->(∀i,i<k->byd b left key arr base i=true)->(∀i,k<=i->i<n->byd b left key arr base i=false)->Q (some k) st):wpS M A E s (J6 left key arr base n hint) Q st:=by
 rw [Y9];obtain ⟨x,hx,gx⟩:=G.it hint hn;have N:∀i j,byd b left key arr base i=false->i<=j->j<n->byd b left key arr base j=false:=λi j h1 h2 h3=>by
  cases hc:byd b left key arr base j with
  | false=>rfl
  | true=>rw [G.mono _ j h2 h3 hc] at h1;cases h1
 refine Yad (Of L G.gk hx gx O ?_);cases hb:byd b left key arr base hint with
 | true=>
  show wpS M A E s (V7 left key arr base n hint) Q st;unfold V7;refine Yad (Yce (λk c D=>D=st/\∃last B,c=(none,last,B)/\last<B/\k+1<=B/\hint+last<n/\byd b left key arr base (hint+last)=true) ?_ ?_ ⟨rfl,0,1,rfl,by lia,by lia,hn,hb⟩)
  ·rintro k c D _ hk ⟨rfl,last,B,rfl,h1,h2,h3,U⟩;dsimp only;split
   ·rename_i Y;refine Yag ?_;dsimp only;rw [Nat.min_eq_right Y];exact G3 L G O (by lia) (by lia) (λi hi=>G.mono i _ (show i<=hint+last by lia) h3 U) (λi Z h7=>by lia) q
   ·rename_i Y;obtain ⟨y,hy,gy⟩:=G.it (hint+B) (by lia);refine Yad (Of L G.gk hy gy O ?_);dsimp only;cases hb2:byd b left key arr base (hint+B) with
    | true=>exact Yag ⟨rfl,_,_,rfl,by lia,by lia,by lia,hb2⟩
    | false=>
     refine Yag ?_;dsimp only;rw [Yey (by lia)];exact G3 L G O (by lia) (by lia) (λi hi=>G.mono i _ (show i<=hint+last by lia) h3 U) (λi Z h7=>N _ i hb2 Z h7) q
  ·rintro c D ⟨rfl,last,B,rfl,h1,h2,h3,U⟩;dsimp only;have Y:n-hint<=B:=by simp at h2;lia
   rw [Nat.min_eq_right Y];exact G3 L G O (by lia) (by lia) (λi hi=>G.mono i _ (show i<=hint+last by lia) h3 U) (λi Z h7=>by lia) q
 | false=>
  show wpS M A E s (Ud left key arr base n hint) Q st;unfold Ud;refine Yad (Yce (λk c D=>D=st/\∃last B,c=(none,last,B)/\last<B/\k+1<=B/\last<=hint/\byd b left key arr base (hint-last)=false) ?_ ?_ ⟨rfl,0,1,rfl,by lia,by lia,by lia,hb⟩)
  ·rintro k c D _ hk ⟨rfl,last,B,rfl,h1,h2,h3,U⟩;dsimp only;split
   ·rename_i Y;refine Yag ?_;dsimp only;rw [Nat.min_eq_right Y];exact G3 L G O (by lia) (by lia) (λi hi=>by lia) (λi Z h7=>N _ i U Z h7) q
   ·rename_i Y;obtain ⟨y,hy,gy⟩:=G.it (hint-B) (by lia);refine Yad (Of L G.gk hy gy O ?_);dsimp only;cases hb2:byd b left key arr base (hint-B) with
    | false=>exact Yag ⟨rfl,_,_,rfl,by lia,by lia,by lia,hb2⟩
    | true=>
     refine Yag ?_;dsimp only;rw [Yey (by lia)];exact G3 L G O (by lia) (by lia) (λi hi=>G.mono i (hint-B) (by lia) (by lia) hb2) (λi Z h7=>N _ i U Z h7) q
  ·rintro c D ⟨rfl,last,B,rfl,h1,h2,h3,U⟩;dsimp only;have Y:hint+1<=B:=by simp at h2;lia
   rw [Nat.min_eq_right Y];exact G3 L G O (by lia) (by lia) (λi hi=>by lia) (λi Z h7=>N _ i U Z h7) q
end
end
noncomputable abbrev MLs:=Option (Array Keyed)×Array Keyed×Nat×Nat×Nat×Nat
noncomputable abbrev MLt:=Option (Array Keyed)×Array Keyed×Nat×Nat×Nat×Nat×Nat
noncomputable def Os (a b out:Array Keyed)(ia ib:Nat):Array Keyed:=out++a.extract ia++b.extract ib
noncomputable def Vx (a b out:Array Keyed)(ia ib:Nat):Array Keyed:=out++b.extract ib++a.extract ia
noncomputable def Zcd (a b:Array Keyed)(mg:Nat):Nat->MLs->StateT SortSt Sem (ForInStep MLs):=λ_ r=>
 let out:=r.2.1;let ia:=r.2.2.1;let ib:=r.2.2.2.1;let qZ:=r.2.2.2.2.1;let qX:=r.2.2.2.2.2
 do
 let x <- elem' b ib
 let y <- elem' a ia
 match <- lt' x y with
 | some bWins=>
  if bWins=true then do
   let z <- elem' b ib
   let out:=out.push z
   let ib:=ib+1
   let qX:=qX+1
   let qZ:=0
   if (ib == b.size)=true then pure (.done (some (Os a b out ia ib),out,ia,ib,qZ,qX))
   else if qX>=mg then pure (.done (none,out,ia,ib,qZ,qX))
   else pure (.yield (none,out,ia,ib,qZ,qX))
  else do
   let z <- elem' a ia
   let out:=out.push z
   let ia:=ia+1
   let qZ:=qZ+1
   let qX:=0
   if (ia+1 == a.size)=true then pure (.done (some (Vx a b out ia ib),out,ia,ib,qZ,qX))
   else if qZ>=mg then pure (.done (none,out,ia,ib,qZ,qX))
   else pure (.yield (none,out,ia,ib,qZ,qX))
 | _=>pure (.done (some (Os a b out ia ib),out,ia,ib,qZ,qX))
noncomputable def mlD (a b:Array Keyed)(q j k:Nat)(out:Array Keyed)(ia ib:Nat):StateT SortSt Sem (ForInStep MLt):=do
 let qX:=k
 let z <- elem' a ia
 let out:=out.push z
 let ia:=ia+1
 if (ia+1 == a.size)=true then pure (.done (some (Vx a b out ia ib),out,ia,ib,q,j,qX))
 else if (decide (j<7) && decide (qX<7))=true then pure (.done (none,out,ia,ib,q,j,qX))
 else pure (.yield (none,out,ia,ib,q,j,qX))
noncomputable def mlC (a b:Array Keyed)(j q B:Nat)(out:Array Keyed)(ia ib:Nat):StateT SortSt Sem (ForInStep MLt):=do
 let z <- elem' b ib
 let out:=out.push z
 let ib:=ib+1
 if (ib == b.size)=true then pure (.done (some (Os a b out ia ib),out,ia,ib,j,q,B))
 else do
  let y <- elem' a ia
  match <- J6 true y b ib (b.size-ib) 0 with
  | some k=>
   let B:=k
   if k > 0 then
    let out:=out++b.extract ib (ib+k)
    let ib:=ib+k
    if (ib == b.size)=true then pure (.done (some (Os a b out ia ib),out,ia,ib,j,q,B))
    else mlD a b j q k out ia ib
   else mlD a b j q k out ia ib
  | _=>pure (.done (some (Os a b out ia ib),out,ia,ib,j,q,B))
noncomputable def mlB (a b:Array Keyed)(j q B:Nat)(out:Array Keyed)(ia ib:Nat):StateT SortSt Sem (ForInStep MLt):=do
 UV j
 let x <- elem' b ib
 match <- J6 false x a ia (a.size-ia) 0 with
 | some k=>
  let q:=k
  if k > 0 then
   let out:=out++a.extract ia (ia+k)
   let ia:=ia+k
   if (ia+1 == a.size)=true then pure (.done (some (Vx a b out ia ib),out,ia,ib,j,q,B))
   else if (ia == a.size)=true then pure (.done (some (Os a b out ia ib),out,ia,ib,j,q,B))
   else mlC a b j q B out ia ib
  else mlC a b j q B out ia ib
 | _=>pure (.done (some (Os a b out ia ib),out,ia,ib,j,q,B))
noncomputable def Zce (a b:Array Keyed):Nat->MLt->StateT SortSt Sem (ForInStep MLt):=λ_ r=>
 let out:=r.2.1;let ia:=r.2.2.1;let ib:=r.2.2.2.1;let qJ:=r.2.2.2.2.1;let qZ:=r.2.2.2.2.2.1;let qX:=r.2.2.2.2.2.2
 if qJ > 1 then mlB a b (qJ-1) qZ qX out ia ib else mlB a b qJ qZ qX out ia ib
noncomputable abbrev MLo:=Option (Array Keyed)×Array Keyed×Nat×Nat×Nat
noncomputable def Zcf (a b:Array Keyed):Nat->MLo->StateT SortSt Sem (ForInStep MLo):=λ_ r=>
 let out:=r.2.1;let ia:=r.2.2.1;let ib:=r.2.2.2.1;let qJ:=r.2.2.2.2
 do
 let r <- forIn [:a.size+b.size] ((none,out,ia,ib,0,0):MLs) (Zcd a b qJ)
 match r.1 with
 | some x=>pure (.done (some x,r.2.1,r.2.2.1,r.2.2.2.1,qJ))
 | none=>do
  liftM (rule "list.sort.gallop")
  let r <- forIn [:a.size+b.size] ((none,r.2.1,r.2.2.1,r.2.2.2.1,qJ+1,r.2.2.2.2.1,r.2.2.2.2.2):MLt) (Zce a b)
  match r.1 with
  | some x=>pure (.done (some x,r.2.1,r.2.2.1,r.2.2.2.1,r.2.2.2.2.1))
  | none=>do
   UV (r.2.2.2.2.1+1)
   pure (.yield (none,r.2.1,r.2.2.1,r.2.2.2.1,r.2.2.2.2.1+1))
theorem Jh {α β:Type}{m:StateT SortSt Sem α}{f g:α->StateT SortSt Sem β}(h:∀x,f x=g x):m >>= f=m >>= g:=by rw [funext h]
theorem V8 {α:Type}[Decidable c]{x y u v:α}(h1:x=y)(h2:u=v):(if c then x else u)=if c then y else v:=by rw [h1,h2]
theorem UW {β:Type}{r:Std.Legacy.Range}{c:β}{f g:Nat->β->StateT SortSt Sem (ForInStep β)}(h:∀i x,f i x=g i x):forIn r c f=forIn r c g:=by rw [funext λi=>funext (h i)]
theorem Xm (a b:Array Keyed):V5 a b=(do
  liftM (rule "list.sort.merge-lo")
  let x <- elem' b 0
  let out:=#[x]
  if (1 == b.size)=true then pure (Os a b out 0 1)
  else if (0+1 == a.size)=true then pure (Vx a b out 0 1)
  else do
   let st <- get
   let r <- forIn [:a.size+b.size] ((none,out,0,1,gallopOf st):MLo) (Zcf a b)
   match r.1 with
   | some r=>pure r
   | none=>liftM (unsupported "internal:list.sort.merge-bound")):=by
 refine Jh (m:=liftM (rule "list.sort.merge-lo")) λ_=>?_;refine Jh (m:=elem' b 0) λx=>?_;refine V8 (c:=(1 == b.size)=true) rfl ?_;refine V8 (c:=(0+1 == a.size)=true) rfl ?_;refine Jh (m:=get) λst=>?_;refine (Ybh (λm:StateT SortSt Sem MLo=>m >>= _) (UW (r:=[:a.size+b.size]) (c:=((none,#[x],0,1,gallopOf st):MLo)) (g:=Zcf a b) λi r=>?_)).trans ?_;rotate_left
 ·refine Jh λr=>?_;obtain ⟨B,L⟩:=r;cases B <;> rfl
 unfold Zcf;refine (Ybh (λm:StateT SortSt Sem MLs=>m >>= _) (UW (r:=[:a.size+b.size]) (g:=Zcd a b r.2.2.2.2) λi r=>rfl)).trans ?_;refine Jh λq=>?_;obtain ⟨j,D⟩:=q;cases j with
 | some z=>rfl
 | none=>
  refine Jh (m:=liftM (rule "list.sort.gallop")) λ_=>?_;refine (Ybh (λm:StateT SortSt Sem MLt=>m >>= _) (UW (r:=[:a.size+b.size]) (g:=Zce a b) λi r=>rfl)).trans ?_;refine Jh λq=>?_;obtain ⟨j,D⟩:=q;cases j <;> rfl
section
variable {b:Keyed->Keyed->Bool}
noncomputable abbrev kle (b:Keyed->Keyed->Bool)(x y:Keyed):Prop:=b y x=false
theorem WO.le_trans (W:WO b){x y z:Keyed}(h1:kle b x y)(h2:kle b y z):kle b x z:=by
 cases h:b z x with
 | false=>exact h
 | true=>
  rcases W.neg z y x h with q | q
  ·rw [show b z y=false from h2] at q;cases q
  ·rw [show b y x=false from h1] at q;cases q
theorem WO.le_of_lt (W:WO b){x y:Keyed}(h:b x y=true):kle b x y:=by
 cases q:b y x with
 | false=>exact q
 | true=>
  have:=W.tr _ _ _ h q;rw [W.irr] at this;cases this
theorem WO.le_refl (W:WO b)(x:Keyed):kle b x x:=W.irr x
structure Mrg (b:Keyed->Keyed->Bool)(all out ra rb:List Keyed):Prop where
 perm:(out++ra++rb).Perm all
 so:out.Pairwise (kle b)
 le:∀x∈out,∀y∈ra++rb,kle b x y
 sa:ra.Pairwise (kle b)
 sb:rb.Pairwise (kle b)
theorem Mrg.len (h:Mrg b all out j q):out.length+j.length+q.length=all.length:=by
 have:=h.perm.length_eq;rw [Yak,Yak] at this;exact this
theorem Mrg.moveA (h:Mrg b all out (u++B) D)(N:∀x∈u,∀y∈D,kle b x y):Mrg b all (out++u) B D:=by
 have L:=Yca.mp h.sa;refine ⟨by rw [Ybu out u B];exact h.perm,Yca.mpr ⟨h.so,L.1,λx q y j=>h.le x q y (by simp [j])⟩,λx q y j=>?_,L.2.1,h.sb⟩;rcases Yaj.mp q with q | q
 ·refine h.le x q y ?_;rcases Yaj.mp j with j | j
  ·simp [j]
  ·simp [j]
 ·rcases Yaj.mp j with j | j
  ·exact L.2.2 x q y j
  ·exact N x q y j
theorem Mrg.moveB (h:Mrg b all out B (u++L))(N:∀x∈u,∀y∈B,kle b x y):Mrg b all (out++u) B L:=by
 have D:=Yca.mp h.sb;refine ⟨?_,Yca.mpr ⟨h.so,D.1,λx q y j=>h.le x q y (by simp [j])⟩,λx q y j=>?_,h.sa,D.2.1⟩
 ·refine List.Perm.trans ?_ h.perm;simp only [Ybu];refine Yfq _ ?_;rw [<-Ybu,<-Ybu];exact List.Perm.append_right _ List.perm_append_comm
 ·rcases Yaj.mp q with q | q
  ·refine h.le x q y ?_;rcases Yaj.mp j with j | j
   ·simp [j]
   ·simp [j]
  ·rcases Yaj.mp j with j | j
   ·exact N x q y j
   ·exact D.2.2 x q y j
noncomputable def Jn (b:Keyed->Keyed->Bool)(all r:List Keyed):Prop:=r.Perm all/\r.Pairwise (kle b)
theorem Mrg.endA (h:Mrg b all out j q)(hz:∀x∈j,∀y∈q,kle b x y):Jn b all (out++j++q):=by
 refine ⟨h.perm,?_⟩;rw [Ybu];exact Yca.mpr ⟨h.so,Yca.mpr ⟨h.sa,h.sb,hz⟩,h.le⟩
theorem Mrg.endB (h:Mrg b all out q B)(hz:∀x∈B,∀y∈q,kle b x y):Jn b all (out++B++q):=by
 refine ⟨?_,?_⟩
 ·refine List.Perm.trans ?_ h.perm;rw [Ybu,Ybu];exact Yfq _ List.perm_append_comm
 ·rw [Ybu];exact Yca.mpr ⟨h.so,Yca.mpr ⟨h.sb,h.sa,hz⟩,λx D y j=>h.le x D y (by
   rcases Yaj.mp j with j | j <;> simp [j])⟩
end
theorem UB (a:Array Keyed)(i:Nat):(a.extract i).toList=a.toList.drop i:=by
 rw [Yfj,Yfk,Yfl];rw [Yel];exact Yaf _
theorem X9 (a:Array Keyed)(i k:Nat):(a.extract i (i+k)).toList=(a.toList.drop i).take k:=by
 rw [Yfj,Yfk,Nat.add_sub_cancel_left]
theorem JA {a:Array Keyed}(h:a[i]?=some x):a.toList.drop i=x::a.toList.drop (i+1):=by
 rw [<-Yax] at h;obtain ⟨h1,h2⟩:=Yao.mp h;rw [Yfr h1,h2]
noncomputable def SameG (st j:SortSt):Prop:=kindOf j=kindOf st/\arrOf j=arrOf st/\pendingOf j=pendingOf st/\failedOf j=failedOf st
theorem SameG.refl (st:SortSt):SameG st st:=⟨rfl,rfl,rfl,rfl⟩
theorem SameG.trans {st q j:SortSt}(h:SameG st q)(k:SameG q j):SameG st j:=⟨k.1.trans h.1,k.2.1.trans h.2.1,k.2.2.1.trans h.2.2.1,k.2.2.2.trans h.2.2.2⟩
section
variable {M:Model}{A:Around}{E:Aa->SS->Prop}{s:SS}{kd:SortKind}{b:Keyed->Keyed->Bool}{good:Keyed->Prop}
theorem Og {st:SortSt}(q:∀j,SameG st j->Q () j):wpS M A E s (UV g) Q st:=by
 refine Ycs (f:=λs=>SortSt.mk' (kindOf s) (arrOf s) (pendingOf s) g (failedOf s)) (q _ ⟨rfl,rfl,rfl,rfl⟩)
structure Two (b:Keyed->Keyed->Bool)(good:Keyed->Prop)(a c:Array Keyed):Prop where
 ga:∀x∈a.toList,good x
 gc:∀x∈c.toList,good x
 sa:a.toList.Pairwise (kle b)
 sc:c.toList.Pairwise (kle b)
 na:0<a.size
 nc:0<c.size
 first:∀x,c[0]?=some x->∀y∈a.toList,kle b x y
 last:∀z,a[a.size-1]?=some z->∀y∈c.toList,kle b y z
variable {a c:Array Keyed}
theorem Two.at (T:Two b good a c)(h:i<a.size):∃x,a[i]?=some x/\good x:=⟨a[i],by simp [h],T.ga _ (by simp)⟩
theorem Two.ct (T:Two b good a c)(h:i<c.size):∃x,c[i]?=some x/\good x:=⟨c[i],by simp [h],T.gc _ (by simp)⟩
noncomputable def ML (b:Keyed->Keyed->Bool)(a c out:Array Keyed)(ia ib:Nat):Prop:=Mrg b (a.toList++c.toList) out.toList (a.toList.drop ia) (c.toList.drop ib)
theorem ML.done (h:ML b a c out ia ib)(e:ib=c.size\/ia=a.size):Jn b (a.toList++c.toList) (Os a c out ia ib).toList:=by
 unfold Os;rw [Yda,Yda,UB,UB];refine Mrg.endA h λx j y q=>?_;rcases e with e | e
 ·rw [Yfv (by rw [e,Yan];exact Yaf _)] at q;cases q
 ·rw [Yfv (by rw [e,Yan];exact Yaf _)] at j;cases j
theorem ML.last (T:Two b good a c)(h:ML b a c out ia ib)(e:ia+1=a.size):Jn b (a.toList++c.toList) (Vx a c out ia ib).toList:=by
 unfold Vx;rw [Yda,Yda,UB,UB];refine Mrg.endB h λx B y j=>?_;obtain ⟨z,q,_⟩:=T.at (i:=ia) (by lia);rw [JA q,Yfv (by rw [Yan];lia)] at j;have:y=z:=by simpa using j
 subst this;exact T.last y (by rw [<-e];exact q) x (List.mem_of_mem_drop B)
theorem ML.pushB (h:ML b a c out ia ib)(j:c[ib]?=some x)(q:∀y∈a.toList.drop ia,kle b x y):ML b a c (out.push x) ia (ib+1):=by
 unfold ML at h ⊢;rw [Yeo];rw [JA j] at h;exact Mrg.moveB (u:=[x]) h λz B y D=>by
  have:z=x:=by simpa using B
  subst this;exact q y D
theorem ML.pushA (h:ML b a c out ia ib)(j:a[ia]?=some x)(q:∀y∈c.toList.drop ib,kle b x y):ML b a c (out.push x) (ia+1) ib:=by
 unfold ML at h ⊢;rw [Yeo];rw [JA j] at h;exact Mrg.moveA (u:=[x]) h λz B y D=>by
  have:z=x:=by simpa using B
  subst this;exact q y D
theorem ML.takeA (h:ML b a c out ia ib)(j:∀x∈(a.toList.drop ia).take k,∀y∈c.toList.drop ib,kle b x y):ML b a c (out++a.extract ia (ia+k)) (ia+k) ib:=by
 unfold ML at h ⊢;rw [Yda,X9];rw [<-Ydp k (a.toList.drop ia),List.drop_drop] at h;exact Mrg.moveA h j
theorem ML.takeB (h:ML b a c out ia ib)(j:∀x∈(c.toList.drop ib).take k,∀y∈a.toList.drop ia,kle b x y):ML b a c (out++c.extract ib (ib+k)) ia (ib+k):=by
 unfold ML at h ⊢;rw [Yda,X9];rw [<-Ydp k (c.toList.drop ib),List.drop_drop] at h;exact Mrg.moveB h j
theorem V9 (W:WO b)(h:(x::l).Pairwise (kle b)):∀y∈x::l,kle b x y:=λy j=>by
 rcases Yam.mp j with rfl | j
 ·exact W.le_refl _
 ·exact (Ydy.mp h).1 y j
theorem Zaw (W:WO b)(L:O5 M A E s kd b good)(T:Two b good a c){st:SortSt}(hs:kindOf st=kd)(h:ML b a c out ia ib)(h1:ia+1<a.size)(h2:ib<c.size)(q1:∀r y D,SameG st D->Jn b (a.toList++c.toList) r.toList->Q (some r,y) D)(q2:∀j q B U Y D,SameG st D->ML b a c j q B->q+1<a.size->B<c.size->out.size<j.size->Q (none,j,q,B,U,Y) D) :
  wpS M A E s (forIn [:a.size+c.size] ((none,out,ia,ib,0,0):MLs) (Zcd a c mg)) Q st:=by
 refine Yce (λk r D=>SameG st D/\∃j q B U Y,r=(none,j,q,B,U,Y)/\ML b a c j q B/\q+1<a.size/\B<c.size/\out.size+k<=j.size) ?_ ?_ ⟨SameG.refl _,_,_,_,_,_,rfl,h,h1,h2,Yaf _⟩
 ·rintro k r O _ hk ⟨N,j,q,B,U,Y,rfl,h,h1,h2,h3⟩;have aa:kindOf O=kd:=N.1.trans hs;unfold Zcd;dsimp only;obtain ⟨x,Z,gx⟩:=T.ct h2;obtain ⟨y,hy,gy⟩:=T.at (i:=q) (by lia);refine Yad (Gs Z (Yad (Gs hy (Yad (L x y O _ gx gy aa ?_)))));have sA:(a.toList.drop q).Pairwise (kle b):=h.sa;have sB:(c.toList.drop B).Pairwise (kle b):=h.sb;rw [JA hy] at sA;rw [JA Z] at sB;dsimp only;cases hb:b x y with
  | true=>
   rw [if_pos rfl];refine Yad (Gs Z ?_);have h':=h.pushB Z λz hz=>by
    rw [JA hy] at hz;exact W.le_trans (W.le_of_lt hb) (V9 W sA z hz)
   split
   ·rename_i e;exact Yag (q1 _ _ _ N (h'.done (.inl (eq_of_beq e))))
   ·rename_i e;have e:B+1<c.size:=by
     have:B+1≠c.size:=λz=>e (Ybi.mpr z)
     lia
    split
    ·exact Yag (q2 _ _ _ _ _ _ N h' h1 e (by rw [Ycq];lia))
    ·exact Yag ⟨N,_,_,_,_,_,rfl,h',h1,e,by rw [Ycq];lia⟩
  | false=>
   rw [if_neg Yap];refine Yad (Gs hy ?_);have h':=h.pushA hy λz hz=>by
    rw [JA Z] at hz;exact W.le_trans hb (V9 W sB z hz)
   split
   ·rename_i e;exact Yag (q1 _ _ _ N (h'.last T (eq_of_beq e)))
   ·rename_i e;have e:q+1+1<a.size:=by
     have:q+1+1≠a.size:=λz=>e (Ybi.mpr z)
     lia
    split
    ·exact Yag (q2 _ _ _ _ _ _ N h' e h2 (by rw [Ycq];lia))
    ·exact Yag ⟨N,_,_,_,_,_,rfl,h',e,h2,by rw [Ycq];lia⟩
 ·rintro r O ⟨N,j,q,B,U,Y,rfl,h,h1,h2,h3⟩;exact q2 _ _ _ _ _ _ N h h1 h2 (by have:=T.na;simp at h3;lia)
end
noncomputable def Rng (b:Keyed->Keyed->Bool)(arr:Array Keyed)(lo hi:Nat):Prop:=∀i j x y,lo<=i->i<=j->j<hi->arr[i]?=some x->arr[j]?=some y->kle b x y
section
variable {M:Model}{A:Around}{E:Aa->SS->Prop}{s:SS}{kd:SortKind}{b:Keyed->Keyed->Bool}{good:Keyed->Prop}
theorem Zcg (W:WO b):∀{l:List Keyed}{i j:Nat}{x y:Keyed},l.Pairwise (kle b)->i<=j->l[i]?=some x->l[j]?=some y->kle b x y
 | [],_,_,_,_,_,_,h,_=>by simp at h
 | z::l,0,0,x,y,_,_,h1,h2=>by
  simp at h1 h2;subst h1 h2;exact W.le_refl _
 | z::l,0,j+1,x,y,h,_,h1,h2=>by
  simp at h1 h2;subst h1;exact (Ydy.mp h).1 y (Ybf h2)
 | z::l,i+1,0,_,_,_,h,_,_=>by lia
 | z::l,i+1,j+1,x,y,h,hij,h1,h2=>by
  simp at h1 h2;exact Zcg W (Ydy.mp h).2 (by lia) h1 h2
theorem Zdf (W:WO b){lo:Nat}(h:(arr.toList.drop lo).Pairwise (kle b)):Rng b arr lo arr.size:=λi j x y h1 h2 D q B=>by
 refine Zcg (i:=i-lo) (j:=j-lo) W h (by lia) ?_ ?_
 ·rw [Yev,Ydn h1,Yax];exact q
 ·rw [Yev,Ydn (Ybq h1 h2),Yax];exact B
theorem Vy (W:WO b)(O:good key)(D:∀i,i<n->∃x,arr[base+i]?=some x/\good x)(h:Rng b arr base (base+n)):Gal b good left key arr base n:=by
 refine ⟨O,D,λi j h1 h2 q=>?_⟩;obtain ⟨x,L,_⟩:=D i (by lia);obtain ⟨y,N,_⟩:=D j h2;have B:=h (base+i) (base+j) x y (by lia) (by lia) (by lia) L N;unfold byd at q ⊢;rw [N] at q;rw [L];dsimp only at q ⊢;cases left with
 | true=>
  rw [if_pos rfl] at q ⊢;rcases W.neg y x key q with z | z
  ·rw [show b y x=false from B] at z;cases z
  ·exact z
 | false=>
  rw [if_neg Yap] at q ⊢;rw [Bool.not_eq_true'] at q ⊢;exact W.le_trans (x:=x) (y:=y) (z:=key) B q
variable {a c:Array Keyed}
theorem Yb {arr:Array Keyed}(h:x∈(arr.toList.drop base).take k):∃i,i<k/\arr[base+i]?=some x:=by
 obtain ⟨i,hi⟩:=Yfm.mp h;rw [Yeu] at hi;split at hi
 ·rw [Yev,Yax] at hi;exact ⟨i,by assumption,hi⟩
 ·cases hi
theorem Yc {arr:Array Keyed}(h:x∈arr.toList.drop base):∃i,base+i<arr.size/\arr[base+i]?=some x:=by
 obtain ⟨i,hi⟩:=Yfm.mp h;rw [Yev,Yax] at hi;exact ⟨i,(Yft.mp hi).1,hi⟩
section
variable {out:Array Keyed}{ia ib:Nat}{st:SortSt}{Q:ForInStep MLt->SortSt->Prop}
structure Zch (b:Keyed->Keyed->Bool)(a c:Array Keyed)(n:Nat)(st:SortSt)(Q:ForInStep MLt->SortSt->Prop):Prop where
 fin:∀r y st',SameG st st'->Jn b (a.toList++c.toList) r.toList->Q (.done (some r,y)) st'
 brk:∀out' ia' ib' y st',SameG st st'->ML b a c out' ia' ib'->ia'+1<a.size->ib'<c.size->n<=out'.size->Q (.done (none,out',ia',ib',y)) st'
 go:∀out' ia' ib' y st',SameG st st'->ML b a c out' ia' ib'->ia'+1<a.size->ib'<c.size->n<=out'.size->Q (.yield (none,out',ia',ib',y)) st'
theorem Zax (T:Two b good a c)(R:Zch b a c n st Q)(h:ML b a c out ia ib)(h1:ia+1<a.size)(h2:ib<c.size)(L:n<=out.size)(D:∀x,a[ia]?=some x->∀y∈c.toList.drop ib,kle b x y) :
  wpS M A E s (mlD a c mg B k out ia ib) Q st:=by
 unfold mlD;obtain ⟨x,q,N⟩:=T.at (i:=ia) (by lia);refine Yad (Gs q ?_);have h':=h.pushA q (D x q);have j:n<=(out.push x).size:=by rw [Ycq];lia
 dsimp only;split
 ·rename_i e;exact Yag (R.fin _ _ _ (SameG.refl _) (h'.last T (eq_of_beq e)))
 ·rename_i e;have e:ia+1+1<a.size:=by
   have:ia+1+1≠a.size:=λz=>e (Ybi.mpr z)
   lia
  split
  ·exact Yag (R.brk _ _ _ _ _ (SameG.refl _) h' e h2 j)
  ·exact Yag (R.go _ _ _ _ _ (SameG.refl _) h' e h2 j)
theorem Zay (W:WO b)(L:O5 M A E s kd b good)(T:Two b good a c)(R:Zch b a c n st Q)(hs:kindOf st=kd)(h:ML b a c out ia ib)(h1:ia+1<a.size)(h2:ib<c.size)(hn:n<=out.size)(hl:∀x,c[ib]?=some x->∀y∈a.toList.drop ia,kle b x y):wpS M A E s (mlC a c mg ac bc out ia ib) Q st:=by
 unfold mlC;obtain ⟨x,U,gx⟩:=T.ct h2;obtain ⟨y,B,gy⟩:=T.at (i:=ia) (by lia);refine Yad (Gs U ?_);have h':=h.pushB U (hl x U);have D:n<=(out.push x).size:=by rw [Ycq];lia
 generalize out.push x=N at h' D;dsimp only;split
 ·rename_i e;exact Yag (R.fin _ _ _ (SameG.refl _) (h'.done (.inl (eq_of_beq e))))
 ·rename_i e;have e:ib+1<c.size:=by
   have:ib+1≠c.size:=λz=>e (Ybi.mpr z)
   lia
  refine Yad (Gs B ?_);have sB:Rng b c (ib+1) c.size:=Zdf W h'.sb;have Z:(a.toList.drop ia).Pairwise (kle b):=h'.sa;rw [JA B] at Z;have G:Gal b good true y c (ib+1) (c.size-(ib+1)):=Vy W gy (λi hi=>T.ct (by lia)) (by rw [Ydn (by lia)];exact sB);refine Yad (Ju L G hs (by lia) λk hk k1 k2=>?_);dsimp only;have tk:∀z∈(c.toList.drop (ib+1)).take k,∀v∈a.toList.drop ia,kle b z v:=λz hz v q=>by
   obtain ⟨i,hi,ez⟩:=Yb hz;have:=k1 i hi;unfold byd at this;rw [ez] at this;dsimp only at this;rw [if_pos rfl] at this;rw [JA B] at q;exact W.le_trans (W.le_of_lt this) (V9 W Z v q)
  have tr:∀v∈c.toList.drop (ib+1+k),kle b y v:=λv q=>by
   obtain ⟨i,hi,ev⟩:=Yc q;have:=k2 (k+i) (by lia) (by lia);unfold byd at this;rw [show ib+1+(k+i)=ib+1+k+i by lia,ev] at this;dsimp only at this;rw [if_pos rfl] at this;exact this
  split
  ·have h3:=h'.takeB tk;have Y:n<=(N++c.extract (ib+1) (ib+1+k)).size:=by rw [Array.size_append];lia
   split
   ·rename_i O;exact Yag (R.fin _ _ _ (SameG.refl _) (h3.done (.inl (eq_of_beq O))))
   ·rename_i O;have O:ib+1+k<c.size:=by
     have:ib+1+k≠c.size:=λz=>O (Ybi.mpr z)
     lia
    exact Zax T R h3 h1 O Y λx' j v q=>by
     rw [B] at j;cases j;exact tr v q
  ·rename_i aa;have:k=0:=by lia
   subst this;exact Zax T R h' h1 e D λx' j v q=>by
    rw [B] at j;cases j;exact tr v q
theorem Zd8 (W:WO b)(L:O5 M A E s kd b good)(T:Two b good a c)(R:∀D,SameG st D->Zch b a c n D Q)(hs:kindOf st=kd)(h:ML b a c out ia ib)(h1:ia+1<a.size)(h2:ib<c.size)(hn:n<=out.size) :
  wpS M A E s (mlB a c mg ac bc out ia ib) Q st:=by
 unfold mlB;refine Yad (Og λN sg=>?_);have R:=R N sg;have B:kindOf N=kd:=sg.1.trans hs;obtain ⟨x,O,gx⟩:=T.ct h2;refine Yad (Gs O ?_);have sA:Rng b a ia a.size:=Zdf W h.sa;have sB:(c.toList.drop ib).Pairwise (kle b):=h.sb;rw [JA O] at sB;have G:Gal b good false x a ia (a.size-ia):=Vy W gx (λi hi=>T.at (by lia)) (by rw [Ydn (by lia)];exact sA);refine Yad (Ju L G B (by lia) λk hk k1 k2=>?_);dsimp only;have tk:∀z∈(a.toList.drop ia).take k,∀v∈c.toList.drop ib,kle b z v:=λz hz v q=>by
  obtain ⟨i,hi,ez⟩:=Yb hz;have:=k1 i hi;unfold byd at this;rw [ez] at this;dsimp only at this;rw [if_neg Yap,Bool.not_eq_true'] at this;rw [JA O] at q;exact W.le_trans this (V9 W sB v q)
 have tr:∀v∈a.toList.drop (ia+k),kle b x v:=λv q=>by
  obtain ⟨i,hi,ev⟩:=Yc q;have:=k2 (k+i) (by lia) (by lia);unfold byd at this;rw [show ia+(k+i)=ia+k+i by lia,ev] at this;dsimp only at this;rw [if_neg Yap,Bool.not_eq_false'] at this;exact W.le_of_lt this
 split
 ·have U:=h.takeA tk;have Y:n<=(out++a.extract ia (ia+k)).size:=by rw [Array.size_append];lia
  split
  ·rename_i Z;exact Yag (R.fin _ _ _ (SameG.refl _) (U.last T (eq_of_beq Z)))
  ·rename_i Z;split
   ·rename_i e3;exact Yag (R.fin _ _ _ (SameG.refl _) (U.done (.inr (eq_of_beq e3))))
   ·rename_i e3;have e4:ia+k+1<a.size:=by
     have:ia+k+1≠a.size:=λz=>Z (Ybi.mpr z);have:ia+k≠a.size:=λz=>e3 (Ybi.mpr z)
     lia
    exact Zay W L T R B U e4 h2 Y λx' j v q=>by
     rw [O] at j;cases j;exact tr v q
 ·have:k=0:=by lia
  subst this;exact Zay W L T R B h h1 h2 hn λx' j v q=>by
   rw [O] at j;cases j;exact tr v q
end
theorem Zaz (W:WO b)(L:O5 M A E s kd b good)(T:Two b good a c){st:SortSt}(hs:kindOf st=kd)(h:ML b a c out ia ib)(h1:ia+1<a.size)(h2:ib<c.size)(q1:∀r y B,SameG st B->Jn b (a.toList++c.toList) r.toList->Q (some r,y) B)(q2:∀q D N y B,SameG st B->ML b a c q D N->D+1<a.size->N<c.size->out.size<=q.size->Q (none,q,D,N,y) B) :
  wpS M A E s (forIn [:n] ((none,out,ia,ib,y):MLt) (Zce a c)) Q st:=by
 refine Yce (λk r B=>SameG st B/\∃q D N y,r=(none,q,D,N,y)/\ML b a c q D N/\D+1<a.size/\N<c.size/\out.size<=q.size) ?_ ?_ ⟨SameG.refl _,_,_,_,_,rfl,h,h1,h2,Yaf _⟩
 ·rintro k r O _ hk ⟨Z,q,D,N,y,rfl,h,h1,h2,h3⟩;have aa:kindOf O=kd:=Z.1.trans hs;have R:∀B,SameG O B->Zch b a c out.size B (λr B=>match r with
   | .done c'=>Q c' B
   | .yield c'=>SameG st B/\∃q D N y,c'=(none,q,D,N,y)/\ML b a c q D N/\D+1<a.size/\N<c.size/\out.size<=q.size):=λB Y=>
   ⟨λr y U g m=>q1 r y U ((Z.trans Y).trans g) m,λo i j y U g m p1 p2 p3=>q2 o i j y U ((Z.trans Y).trans g) m p1 p2 p3,λo i j y U g m p1 p2 p3=>⟨(Z.trans Y).trans g,o,i,j,y,rfl,m,p1,p2,p3⟩⟩
  unfold Zce;dsimp only;have mono:∀mg,wpS M A E s (mlB a c mg y.2.1 y.2.2 q D N) _ O:=λmg=>Zd8 W L T R aa h h1 h2 h3;split
  ·exact wpS_mono (mono _) λr B hr=>by cases r <;> exact hr
  ·exact wpS_mono (mono _) λr B hr=>by cases r <;> exact hr
 ·rintro r O ⟨Z,q,D,N,y,rfl,h,h1,h2,h3⟩;exact q2 _ _ _ _ _ Z h h1 h2 h3
theorem Xn (W:WO b)(L:O5 M A E s kd b good)(T:Two b good a c){st:SortSt}(hs:kindOf st=kd)(q:∀r O,SameG st O->Jn b (a.toList++c.toList) r.toList->Q r O):wpS M A E s (V5 a c) Q st:=by
 rw [Xm];refine Yad (wpS_lift (Ydh ⟨rfl,?_⟩));obtain ⟨x,hx,gx⟩:=T.ct T.nc;refine Yad (Gs hx ?_);have h0:ML b a c #[x] 0 1:=by
  have z:ML b a c #[] 0 0:=⟨by simp,by simp,by simp,by simpa using T.sa,by simpa using T.sc⟩;exact z.pushB hx λy hy=>T.first x hx y (by simpa using hy)
 have hc:=T.nc;have ha:=T.na;dsimp only;split
 ·rename_i e;exact Yag (q _ _ (SameG.refl _) (h0.done (.inl (eq_of_beq e))))
 ·rename_i e;have e:1<c.size:=by
   have:1≠c.size:=λz=>e (Ybi.mpr z)
   lia
  split
  ·rename_i U;exact Yag (q _ _ (SameG.refl _) (h0.last T (eq_of_beq U)))
  ·rename_i U;have U:0+1<a.size:=by
    have:0+1≠a.size:=λz=>U (Ybi.mpr z)
    lia
   refine Yad (wpS_get ?_);refine Yad (Yce (λk r O=>SameG st O/\∃B D N mg,r=(none,B,D,N,mg)/\ML b a c B D N/\D+1<a.size/\N<c.size/\k<B.size) ?_ ?_ ⟨SameG.refl _,_,_,_,_,rfl,h0,U,e,by simp⟩)
   ·rintro k r Y _ hk ⟨Z,B,D,N,mg,rfl,h,h1,h2,h3⟩;have aa:kindOf Y=kd:=Z.1.trans hs;unfold Zcf;dsimp only;refine Yad (Zaw W L T aa h h1 h2 (λr y ab g m=>?_) (λo i j ac bc ab g m p1 p2 p3=>?_))
    ·refine Yag ?_;dsimp only;exact Yag (q r ab (Z.trans g) m)
    ·dsimp only;refine Yad (wpS_lift (Ydh ⟨rfl,?_⟩));refine Yad (Zaz W L T (g.1.trans aa) m p1 p2 (λr y ad g3 m3=>?_) (λo3 i3 j3 y3 ad g3 m3 r1 r2 r3=>?_))
     ·refine Yag ?_;dsimp only;exact Yag (q r ad ((Z.trans g).trans g3) m3)
     ·dsimp only;refine Yad (Og λae g4=>?_);exact Yag ⟨((Z.trans g).trans g3).trans g4,_,_,_,_,rfl,m3,r1,r2,by lia⟩
   ·rintro r Y ⟨Z,B,D,N,mg,rfl,h,h1,h2,h3⟩;exfalso;have:=Mrg.len h;rw [Yak,Yel,Yel,Yan,Yan,Yan] at this;simp at h3
    lia
end
noncomputable abbrev MHs:=Option (Array Keyed)×Nat×Nat×Array Keyed×Nat×Nat
noncomputable abbrev MHt:=Option (Array Keyed)×Nat×Nat×Array Keyed×Nat×Nat×Nat
noncomputable abbrev MHo:=Option (Array Keyed)×Nat×Nat×Array Keyed×Nat
noncomputable def Ot (a b out:Array Keyed)(na nb:Nat):Array Keyed:=a.extract 0 na++b.extract 0 nb++out.reverse
noncomputable def Ue (a b out:Array Keyed)(na nb:Nat):Array Keyed:=b.extract 0 nb++a.extract 0 na++out.reverse
noncomputable def Zci (a b:Array Keyed)(mg:Nat):Nat->MHs->StateT SortSt Sem (ForInStep MHs):=λ_ r=>
 let na:=r.2.1;let nb:=r.2.2.1;let out:=r.2.2.2.1;let qZ:=r.2.2.2.2.1;let qX:=r.2.2.2.2.2
 do
 let x <- elem' b (nb-1)
 let y <- elem' a (na-1)
 match <- lt' x y with
 | some aWins=>
  if aWins=true then do
   let na:=na-1
   let z <- elem' a na
   let out:=out.push z
   let qZ:=qZ+1
   let qX:=0
   if (na == 0)=true then pure (.done (some (Ot a b out na nb),na,nb,out,qZ,qX))
   else if qZ>=mg then pure (.done (none,na,nb,out,qZ,qX))
   else pure (.yield (none,na,nb,out,qZ,qX))
  else do
   let nb:=nb-1
   let z <- elem' b nb
   let out:=out.push z
   let qX:=qX+1
   let qZ:=0
   if (nb == 1)=true then pure (.done (some (Ue a b out na nb),na,nb,out,qZ,qX))
   else if qX>=mg then pure (.done (none,na,nb,out,qZ,qX))
   else pure (.yield (none,na,nb,out,qZ,qX))
 | _=>pure (.done (some (Ot a b out na nb),na,nb,out,qZ,qX))
noncomputable def mhD (a b:Array Keyed)(B j q:Nat)(na nb:Nat)(out:Array Keyed):StateT SortSt Sem (ForInStep MHt):=do
 let na:=na-1
 let z <- elem' a na
 let out:=out.push z
 if (na == 0)=true then pure (.done (some (Ot a b out na nb),na,nb,out,B,j,q))
 else if (decide (j<7) && decide (q<7))=true then pure (.done (none,na,nb,out,B,j,q))
 else pure (.yield (none,na,nb,out,B,j,q))
noncomputable def mhC (a b:Array Keyed)(q B j:Nat)(na nb:Nat)(out:Array Keyed):StateT SortSt Sem (ForInStep MHt):=do
 let nb:=nb-1
 let z <- elem' b nb
 let out:=out.push z
 if (nb == 1)=true then pure (.done (some (Ue a b out na nb),na,nb,out,q,B,j))
 else do
  let y <- elem' a (na-1)
  match <- J6 true y b 0 nb (nb-1) with
  | some at_=>
   let k:=nb-at_
   let j:=k
   if k > 0 then
    let out:=out++(b.extract at_ nb).reverse
    let nb:=at_
    if (nb == 1)=true then pure (.done (some (Ue a b out na nb),na,nb,out,q,B,j))
    else if (nb == 0)=true then pure (.done (some (Ot a b out na nb),na,nb,out,q,B,j))
    else mhD a b q B j na nb out
   else mhD a b q B j na nb out
  | _=>pure (.done (some (Ot a b out na nb),na,nb,out,q,B,j))
noncomputable def mhB (a b:Array Keyed)(j q B:Nat)(na nb:Nat)(out:Array Keyed):StateT SortSt Sem (ForInStep MHt):=do
 UV j
 let x <- elem' b (nb-1)
 match <- J6 false x a 0 na (na-1) with
 | some at_=>
  let k:=na-at_
  let q:=k
  if k > 0 then
   let out:=out++(a.extract at_ na).reverse
   let na:=at_
   if (na == 0)=true then pure (.done (some (Ot a b out na nb),na,nb,out,j,q,B))
   else mhC a b j q B na nb out
  else mhC a b j q B na nb out
 | _=>pure (.done (some (Ot a b out na nb),na,nb,out,j,q,B))
noncomputable def Zcj (a b:Array Keyed):Nat->MHt->StateT SortSt Sem (ForInStep MHt):=λ_ r=>
 let na:=r.2.1;let nb:=r.2.2.1;let out:=r.2.2.2.1;let qJ:=r.2.2.2.2.1;let qZ:=r.2.2.2.2.2.1;let qX:=r.2.2.2.2.2.2
 if qJ > 1 then mhB a b (qJ-1) qZ qX na nb out else mhB a b qJ qZ qX na nb out
noncomputable def Zck (a b:Array Keyed):Nat->MHo->StateT SortSt Sem (ForInStep MHo):=λ_ r=>
 let na:=r.2.1;let nb:=r.2.2.1;let out:=r.2.2.2.1;let qJ:=r.2.2.2.2
 do
 let r <- forIn [:a.size+b.size] ((none,na,nb,out,0,0):MHs) (Zci a b qJ)
 match r.1 with
 | some x=>pure (.done (some x,r.2.1,r.2.2.1,r.2.2.2.1,qJ))
 | none=>do
  liftM (rule "list.sort.gallop")
  let r <- forIn [:a.size+b.size] ((none,r.2.1,r.2.2.1,r.2.2.2.1,qJ+1,r.2.2.2.2.1,r.2.2.2.2.2):MHt) (Zcj a b)
  match r.1 with
  | some x=>pure (.done (some x,r.2.1,r.2.2.1,r.2.2.2.1,r.2.2.2.2.1))
  | none=>do
   UV (r.2.2.2.2.1+1)
   pure (.yield (none,r.2.1,r.2.2.1,r.2.2.2.1,r.2.2.2.2.1+1))
theorem Xo (a b:Array Keyed):V6 a b=(do
  liftM (rule "list.sort.merge-hi")
  let x <- elem' a (a.size-1)
  let out:=#[x]
  if (a.size-1 == 0)=true then pure (Ot a b out (a.size-1) b.size)
  else if (b.size == 1)=true then pure (Ue a b out (a.size-1) b.size)
  else do
   let st <- get
   let r <- forIn [:a.size+b.size] ((none,a.size-1,b.size,out,gallopOf st):MHo) (Zck a b)
   match r.1 with
   | some r=>pure r
   | none=>liftM (unsupported "internal:list.sort.merge-bound")):=by
 refine Jh (m:=liftM (rule "list.sort.merge-hi")) λ_=>?_;refine Jh (m:=elem' a (a.size-1)) λx=>?_;refine V8 (c:=(a.size-1 == 0)=true) rfl ?_;refine V8 (c:=(b.size == 1)=true) rfl ?_;refine Jh (m:=get) λst=>?_;refine (Ybh (λm:StateT SortSt Sem MHo=>m >>= _) (UW (r:=[:a.size+b.size]) (c:=((none,a.size-1,b.size,#[x],gallopOf st):MHo)) (g:=Zck a b) λi r=>?_)).trans ?_;rotate_left
 ·refine Jh λr=>?_;obtain ⟨B,L⟩:=r;cases B <;> rfl
 unfold Zck;refine (Ybh (λm:StateT SortSt Sem MHs=>m >>= _) (UW (r:=[:a.size+b.size]) (g:=Zci a b r.2.2.2.2) λi r=>rfl)).trans ?_;refine Jh λq=>?_;obtain ⟨j,D⟩:=q;cases j with
 | some z=>rfl
 | none=>
  refine Jh (m:=liftM (rule "list.sort.gallop")) λ_=>?_;refine (Ybh (λm:StateT SortSt Sem MHt=>m >>= _) (UW (r:=[:a.size+b.size]) (g:=Zcj a b) λi r=>rfl)).trans ?_;refine Jh λq=>?_;obtain ⟨j,D⟩:=q;cases j <;> rfl
section
variable {b:Keyed->Keyed->Bool}
structure MrgH (b:Keyed->Keyed->Bool)(all out ra rb:List Keyed):Prop where
 perm:(ra++rb++out).Perm all
 so:out.Pairwise (kle b)
 le:∀x∈ra++rb,∀y∈out,kle b x y
 sa:ra.Pairwise (kle b)
 sb:rb.Pairwise (kle b)
theorem MrgH.len (h:MrgH b all out j q):j.length+q.length+out.length=all.length:=by
 have:=h.perm.length_eq;rw [Yak,Yak] at this;exact this
theorem MrgH.moveB (h:MrgH b all out B (L++u))(N:∀x∈u,∀y∈B,kle b y x):MrgH b all (u++out) B L:=by
 have D:=Yca.mp h.sb;refine ⟨?_,Yca.mpr ⟨D.2.1,h.so,λx j y q=>h.le x (by simp [j]) y q⟩,λx j y q=>?_,h.sa,D.1⟩
 ·have:=h.perm;simp only [Ybu] at this ⊢;exact this
 ·rcases Yaj.mp q with q | q
  ·rcases Yaj.mp j with j | j
   ·exact N y q x j
   ·exact D.2.2 x j y q
  ·refine h.le x ?_ y q;rcases Yaj.mp j with j | j <;> simp [j]
theorem MrgH.moveA (h:MrgH b all out (L++u) B)(N:∀x∈u,∀y∈B,kle b y x):MrgH b all (u++out) L B:=by
 have D:=Yca.mp h.sa;refine ⟨?_,Yca.mpr ⟨D.2.1,h.so,λx j y q=>h.le x (by simp [j]) y q⟩,λx j y q=>?_,D.1,h.sb⟩
 ·refine List.Perm.trans ?_ h.perm;simp only [Ybu];refine Yfq _ ?_;rw [<-Ybu,<-Ybu];exact List.Perm.append_right _ List.perm_append_comm
 ·rcases Yaj.mp q with q | q
  ·rcases Yaj.mp j with j | j
   ·exact D.2.2 x j y q
   ·exact N y q x j
  ·refine h.le x ?_ y q;rcases Yaj.mp j with j | j <;> simp [j]
theorem MrgH.endA (h:MrgH b all out j q)(hz:∀x∈j,∀y∈q,kle b x y):Jn b all (j++q++out):=
 ⟨h.perm,Yca.mpr ⟨Yca.mpr ⟨h.sa,h.sb,hz⟩,h.so,h.le⟩⟩
theorem MrgH.endB (h:MrgH b all out q B)(hz:∀x∈B,∀y∈q,kle b x y):Jn b all (B++q++out):=by
 refine ⟨List.Perm.trans (List.Perm.append_right _ List.perm_append_comm) h.perm,Yca.mpr ⟨Yca.mpr ⟨h.sb,h.sa,hz⟩,h.so,λx j y D=>h.le x ?_ y D⟩⟩;rcases Yaj.mp j with j | j <;> simp [j]
end
theorem Yd (a:Array Keyed)(k:Nat):(a.extract 0 k).toList=a.toList.take k:=by
 rw [Yfj,Yfk,List.drop_zero,Nat.sub_zero]
theorem ZaA (a:Array Keyed)(h:i<=j):a.toList.take j=a.toList.take i++(a.extract i j).toList:=by
 rw [Yfj,Yfk];have:=Ydp i (a.toList.take j);rw [List.take_take,Yey h,List.drop_take] at this;exact this.symm
theorem ZaB {a:Array Keyed}(h:a[i]?=some x):a.toList.take (i+1)=a.toList.take i++[x]:=by
 rw [<-Yax] at h;rw [Ycf,h]
 rfl
theorem Zcl {arr:Array Keyed}(h:x∈arr.toList.take k):∃i,i<k/\arr[i]?=some x:=by
 obtain ⟨i,hi⟩:=Yfm.mp h;rw [Yeu] at hi;split at hi
 ·rw [Yax] at hi;exact ⟨i,by assumption,hi⟩
 ·cases hi
theorem Xp {arr:Array Keyed}(h:x∈(arr.extract i j).toList):∃k,i<=k/\k<j/\arr[k]?=some x:=by
 rw [Yfj,Yfk] at h;obtain ⟨k,q⟩:=Yfm.mp h;rw [Yeu] at q;split at q
 ·rw [Yev,Yax] at q;exact ⟨i+k,by lia,by lia,q⟩
 ·cases q
section
variable {M:Model}{A:Around}{E:Aa->SS->Prop}{s:SS}{kd:SortKind}{b:Keyed->Keyed->Bool}{good:Keyed->Prop}{a c:Array Keyed}
noncomputable def MH (b:Keyed->Keyed->Bool)(a c:Array Keyed)(na nb:Nat)(out:Array Keyed):Prop:=MrgH b (a.toList++c.toList) out.toList.reverse (a.toList.take na) (c.toList.take nb)
theorem ZaC (W:WO b)(h:(arr.toList.take hi).Pairwise (kle b)):Rng b arr 0 (0+hi):=λi j x y h1 h2 D q B=>by
 refine Zcg (i:=i) (j:=j) W h h2 ?_ ?_
 ·rw [Yeu,if_pos (by lia),Yax];exact q
 ·rw [Yeu,if_pos (by lia),Yax];exact B
theorem MH.done (h:MH b a c na nb out)(e:na=0\/nb=0):Jn b (a.toList++c.toList) (Ot a c out na nb).toList:=by
 unfold Ot;rw [Yda,Yda,Yd,Yd,Yeq];refine MrgH.endA h λx j y q=>?_;rcases e with e | e
 ·rw [e] at j;simp at j
 ·rw [e] at q;simp at q
theorem MH.first (T:Two b good a c)(h:MH b a c na nb out)(e:nb=1):Jn b (a.toList++c.toList) (Ue a c out na nb).toList:=by
 unfold Ue;rw [Yda,Yda,Yd,Yd,Yeq];refine MrgH.endB h λx j y q=>?_;obtain ⟨i,hi,ex⟩:=Zcl j;have:i=0:=by lia
 subst this;exact T.first x ex y (Yfu q)
theorem MH.pushB (h:MH b a c na (nb+1) out)(j:c[nb]?=some x)(q:∀y∈a.toList.take na,kle b y x):MH b a c na nb (out.push x):=by
 unfold MH at h ⊢;rw [Yeo,List.reverse_append];rw [ZaB j] at h;exact MrgH.moveB (u:=[x]) h λz B y D=>by
  have:z=x:=by simpa using B
  subst this;exact q y D
theorem MH.pushA (h:MH b a c (na+1) nb out)(j:a[na]?=some x)(q:∀y∈c.toList.take nb,kle b y x):MH b a c na nb (out.push x):=by
 unfold MH at h ⊢;rw [Yeo,List.reverse_append];rw [ZaB j] at h;exact MrgH.moveA (u:=[x]) h λz B y D=>by
  have:z=x:=by simpa using B
  subst this;exact q y D
theorem MH.takeA (h:MH b a c na nb out)(j:k<=na)(q:∀x∈(a.extract k na).toList,∀y∈c.toList.take nb,kle b y x):MH b a c k nb (out++(a.extract k na).reverse):=by
 unfold MH at h ⊢;rw [Yda,Yeq,List.reverse_append,List.reverse_reverse];rw [ZaA a j] at h;exact MrgH.moveA h q
theorem MH.takeB (h:MH b a c na nb out)(j:k<=nb)(q:∀x∈(c.extract k nb).toList,∀y∈a.toList.take na,kle b y x):MH b a c na k (out++(c.extract k nb).reverse):=by
 unfold MH at h ⊢;rw [Yda,Yeq,List.reverse_append,List.reverse_reverse];rw [ZaA c j] at h;exact MrgH.moveB h q
theorem Wa (W:WO b){arr:Array Keyed}(h:(arr.toList.take (k+1)).Pairwise (kle b))(j:arr[k]?=some x):∀y∈arr.toList.take (k+1),kle b y x:=λy q=>by
 obtain ⟨i,hi,B⟩:=Zcl q;exact ZaC W h i k y x (Yat _) (by lia) (by lia) B j
theorem ZaD (W:WO b)(L:O5 M A E s kd b good)(T:Two b good a c){st:SortSt}(hs:kindOf st=kd)(h:MH b a c na nb out)(h1:0<na/\na<=a.size)(h2:1<nb/\nb<=c.size)(q1:∀r y D,SameG st D->Jn b (a.toList++c.toList) r.toList->Q (some r,y) D)(q2:∀j q B U Y D,SameG st D->MH b a c j q B->(0<j/\j<=a.size)->(1<q/\q<=c.size)->out.size<B.size->Q (none,j,q,B,U,Y) D) :
  wpS M A E s (forIn [:a.size+c.size] ((none,na,nb,out,0,0):MHs) (Zci a c mg)) Q st:=by
 refine Yce (λk r D=>SameG st D/\∃j q B U Y,r=(none,j,q,B,U,Y)/\MH b a c j q B/\(0<j/\j<=a.size)/\(1<q/\q<=c.size)/\out.size+k<=B.size) ?_ ?_ ⟨SameG.refl _,_,_,_,_,_,rfl,h,h1,h2,Yaf _⟩
 ·rintro k r O _ hk ⟨N,j,q,B,U,Y,rfl,h,h1,h2,h3⟩;have aa:kindOf O=kd:=N.1.trans hs;obtain ⟨j,rfl⟩:∃n,j=n+1:=⟨j - 1,by lia⟩;obtain ⟨q,rfl⟩:∃n,q=n+1:=⟨q - 1,by lia⟩;unfold Zci;dsimp only [Nat.add_sub_cancel];obtain ⟨x,Z,gx⟩:=T.ct (i:=q) (by lia);obtain ⟨y,hy,gy⟩:=T.at (i:=j) (by lia);refine Yad (Gs Z (Yad (Gs hy (Yad (L x y O _ gx gy aa ?_)))));dsimp only;cases hb:b x y with
  | true=>
   rw [if_pos rfl];refine Yad (Gs hy ?_);have h':=h.pushA hy λz hz=>W.le_trans (Wa W h.sb Z z hz) (W.le_of_lt hb);split
   ·rename_i e;exact Yag (q1 _ _ _ N (h'.done (.inl (eq_of_beq e))))
   ·rename_i e;have e:0<j:=by
     have:j≠0:=λz=>e (Ybi.mpr z)
     lia
    split
    ·exact Yag (q2 _ _ _ _ _ _ N h' ⟨e,by lia⟩ h2 (by rw [Ycq];lia))
    ·exact Yag ⟨N,_,_,_,_,_,rfl,h',⟨e,by lia⟩,h2,by rw [Ycq];lia⟩
  | false=>
   rw [if_neg Yap];refine Yad (Gs Z ?_);have h':=h.pushB Z λz hz=>W.le_trans (Wa W h.sa hy z hz) hb;split
   ·rename_i e;exact Yag (q1 _ _ _ N (h'.first T (eq_of_beq e)))
   ·rename_i e;have e:1<q:=by
     have:q≠1:=λz=>e (Ybi.mpr z)
     lia
    split
    ·exact Yag (q2 _ _ _ _ _ _ N h' h1 ⟨e,by lia⟩ (by rw [Ycq];lia))
    ·exact Yag ⟨N,_,_,_,_,_,rfl,h',h1,⟨e,by lia⟩,by rw [Ycq];lia⟩
 ·rintro r O ⟨N,j,q,B,U,Y,rfl,h,h1,h2,h3⟩;exact q2 _ _ _ _ _ _ N h h1 h2 (by have:=T.na;simp at h3;lia)
section
variable {out:Array Keyed}{na nb:Nat}{st:SortSt}{Q:ForInStep MHt->SortSt->Prop}
structure Zcm (b:Keyed->Keyed->Bool)(a c:Array Keyed)(n:Nat)(st:SortSt)(Q:ForInStep MHt->SortSt->Prop):Prop where
 fin:∀r y st',SameG st st'->Jn b (a.toList++c.toList) r.toList->Q (.done (some r,y)) st'
 brk:∀na' nb' out' y st',SameG st st'->MH b a c na' nb' out'->(0<na'/\na'<=a.size)->(1<nb'/\nb'<=c.size)->n<=out'.size->Q (.done (none,na',nb',out',y)) st'
 go:∀na' nb' out' y st',SameG st st'->MH b a c na' nb' out'->(0<na'/\na'<=a.size)->(1<nb'/\nb'<=c.size)->n<=out'.size->Q (.yield (none,na',nb',out',y)) st'
theorem ZaE (T:Two b good a c)(R:Zcm b a c n st Q)(h:MH b a c (na+1) nb out)(h1:na+1<=a.size)(h2:1<nb/\nb<=c.size)(N:n<=out.size)(L:∀x,a[na]?=some x->∀y∈c.toList.take nb,kle b y x) :
  wpS M A E s (mhD a c mg B D (na+1) nb out) Q st:=by
 unfold mhD;dsimp only [Nat.add_sub_cancel];obtain ⟨x,q,O⟩:=T.at (i:=na) (by lia);refine Yad (Gs q ?_);have h':=h.pushA q (L x q);have j:n<=(out.push x).size:=by rw [Ycq];lia
 split
 ·rename_i e;exact Yag (R.fin _ _ _ (SameG.refl _) (h'.done (.inl (eq_of_beq e))))
 ·rename_i e;have e:0<na:=by
   have:na≠0:=λz=>e (Ybi.mpr z)
   lia
  split
  ·exact Yag (R.brk _ _ _ _ _ (SameG.refl _) h' ⟨e,by lia⟩ h2 j)
  ·exact Yag (R.go _ _ _ _ _ (SameG.refl _) h' ⟨e,by lia⟩ h2 j)
theorem ZaF (W:WO b)(L:O5 M A E s kd b good)(T:Two b good a c)(R:Zcm b a c n st Q)(hs:kindOf st=kd)(h:MH b a c (na+1) (nb+1) out)(h1:na+1<=a.size)(h2:0<nb/\nb+1<=c.size)(hn:n<=out.size)(hl:∀x,c[nb]?=some x->∀y∈a.toList.take (na+1),kle b y x):wpS M A E s (mhC a c mg ac bc (na+1) (nb+1) out) Q st:=by
 unfold mhC;dsimp only [Nat.add_sub_cancel];obtain ⟨x,O,gx⟩:=T.ct (i:=nb) (by lia);obtain ⟨y,N,gy⟩:=T.at (i:=na) (by lia);refine Yad (Gs O ?_);have h':=h.pushB O (hl x O);have B:n<=(out.push x).size:=by rw [Ycq];lia
 generalize out.push x=D at h' B;split
 ·rename_i e;exact Yag (R.fin _ _ _ (SameG.refl _) (h'.first T (eq_of_beq e)))
 ·rename_i e;have e:1<nb:=by
   have:nb≠1:=λz=>e (Ybi.mpr z)
   lia
  refine Yad (Gs N ?_);have G:Gal b good true y c 0 nb:=Vy W gy (λi hi=>by rw [Ydm];exact T.ct (by lia)) (ZaC W h'.sb);refine Yad (Ju L G hs (by lia) λk hk k1 k2=>?_);dsimp only;have tk:∀z∈(c.extract k nb).toList,∀v∈a.toList.take (na+1),kle b v z:=λz hz v q=>by
   obtain ⟨i,hi,hj,ez⟩:=Xp hz;have:=k2 i hi hj;unfold byd at this;rw [Ydm,ez] at this;dsimp only at this;rw [if_pos rfl] at this;exact W.le_trans (Wa W h'.sa N v q) this
  have tr:∀v∈c.toList.take k,kle b v y:=λv q=>by
   obtain ⟨i,hi,ev⟩:=Zcl q;have:=k1 i hi;unfold byd at this;rw [Ydm,ev] at this;dsimp only at this;rw [if_pos rfl] at this;exact W.le_of_lt this
  split
  ·have U:=h'.takeB hk tk;have Y:n<=(D++(c.extract k nb).reverse).size:=by rw [Array.size_append];lia
   split
   ·rename_i Z;exact Yag (R.fin _ _ _ (SameG.refl _) (U.first T (eq_of_beq Z)))
   ·rename_i Z;split
    ·rename_i e3;exact Yag (R.fin _ _ _ (SameG.refl _) (U.done (.inr (eq_of_beq e3))))
    ·rename_i e3;have e4:1<k:=by
      have:k≠1:=λz=>Z (Ybi.mpr z);have:k≠0:=λz=>e3 (Ybi.mpr z)
      lia
     exact ZaE T R U h1 ⟨e4,by lia⟩ Y λx' j v q=>by
      rw [N] at j;cases j;exact tr v q
  ·have:k=nb:=by lia
   subst this;exact ZaE T R h' h1 ⟨e,by lia⟩ B λx' j v q=>by
    rw [N] at j;cases j;exact tr v q
theorem Zd9 (W:WO b)(L:O5 M A E s kd b good)(T:Two b good a c)(R:∀D,SameG st D->Zcm b a c n D Q)(hs:kindOf st=kd)(h:MH b a c na (nb+1) out)(h1:0<na/\na<=a.size)(h2:0<nb/\nb+1<=c.size)(hn:n<=out.size) :
  wpS M A E s (mhB a c mg ac bc na (nb+1) out) Q st:=by
 unfold mhB;refine Yad (Og λN Z=>?_);have R:=R N Z;have q:kindOf N=kd:=Z.1.trans hs;dsimp only [Nat.add_sub_cancel];obtain ⟨x,O,gx⟩:=T.ct (i:=nb) (by lia);refine Yad (Gs O ?_);have G:Gal b good false x a 0 na:=Vy W gx (λi hi=>by rw [Ydm];exact T.at (by lia)) (ZaC W h.sa);refine Yad (Ju L G q (by lia) λk hk k1 k2=>?_);dsimp only;have tk:∀z∈(a.extract k na).toList,∀v∈c.toList.take (nb+1),kle b v z:=λz hz v B=>by
  obtain ⟨i,hi,hj,ez⟩:=Xp hz;have:=k2 i hi hj;unfold byd at this;rw [Ydm,ez] at this;dsimp only at this;rw [if_neg Yap,Bool.not_eq_false'] at this;exact W.le_trans (Wa W h.sb O v B) (W.le_of_lt this)
 have tr:∀v∈a.toList.take k,kle b v x:=λv B=>by
  obtain ⟨i,hi,ev⟩:=Zcl B;have:=k1 i hi;unfold byd at this;rw [Ydm,ev] at this;dsimp only at this;rw [if_neg Yap,Bool.not_eq_true'] at this;exact this
 split
 ·have h3:=h.takeA hk tk;have U:n<=(out++(a.extract k na).reverse).size:=by rw [Array.size_append];lia
  split
  ·rename_i Y;exact Yag (R.fin _ _ _ (SameG.refl _) (h3.done (.inl (eq_of_beq Y))))
  ·rename_i Y;have:k≠0:=λz=>Y (Ybi.mpr z);obtain ⟨k,rfl⟩:∃n,k=n+1:=⟨k-1,by lia⟩;exact ZaF W L T R q h3 (by lia) h2 U λx' j v B=>by
    rw [O] at j;cases j;exact tr v B
 ·have:k=na:=by lia
  subst this;obtain ⟨k,rfl⟩:∃n,k=n+1:=⟨k-1,by lia⟩;exact ZaF W L T R q h (by lia) h2 hn λx' j v B=>by
   rw [O] at j;cases j;exact tr v B
end
theorem ZaG (W:WO b)(L:O5 M A E s kd b good)(T:Two b good a c){st:SortSt}(hs:kindOf st=kd)(h:MH b a c na nb out)(h1:0<na/\na<=a.size)(h2:1<nb/\nb<=c.size)(q1:∀r y N,SameG st N->Jn b (a.toList++c.toList) r.toList->Q (some r,y) N)(q2:∀D B q y N,SameG st N->MH b a c D B q->(0<D/\D<=a.size)->(1<B/\B<=c.size)->out.size<=q.size->Q (none,D,B,q,y) N) :
  wpS M A E s (forIn [:n] ((none,na,nb,out,y):MHt) (Zcj a c)) Q st:=by
 refine Yce (λk r N=>SameG st N/\∃D B q y,r=(none,D,B,q,y)/\MH b a c D B q/\(0<D/\D<=a.size)/\(1<B/\B<=c.size)/\out.size<=q.size) ?_ ?_ ⟨SameG.refl _,_,_,_,_,rfl,h,h1,h2,Yaf _⟩
 ·rintro k r O _ hk ⟨Z,D,B,q,y,rfl,h,h1,h2,h3⟩;have aa:kindOf O=kd:=Z.1.trans hs;have R:∀N,SameG O N->Zcm b a c out.size N (λr N=>match r with
   | .done c'=>Q c' N
   | .yield c'=>SameG st N/\∃D B q y,c'=(none,D,B,q,y)/\MH b a c D B q/\(0<D/\D<=a.size)/\(1<B/\B<=c.size)/\out.size<=q.size):=λN Y=>
   ⟨λr y U g m=>q1 r y U ((Z.trans Y).trans g) m,λo i j y U g m p1 p2 p3=>q2 o i j y U ((Z.trans Y).trans g) m p1 p2 p3,λo i j y U g m p1 p2 p3=>⟨(Z.trans Y).trans g,o,i,j,y,rfl,m,p1,p2,p3⟩⟩
  unfold Zcj;dsimp only;obtain ⟨B,rfl⟩:∃n,B=n+1:=⟨B - 1,by lia⟩;have mono:∀mg,wpS M A E s (mhB a c mg y.2.1 y.2.2 D (B+1) q) _ O:=λmg=>Zd9 W L T R aa h h1 ⟨by lia,h2.2⟩ h3;split
  ·exact wpS_mono (mono _) λr N hr=>by cases r <;> exact hr
  ·exact wpS_mono (mono _) λr N hr=>by cases r <;> exact hr
 ·rintro r O ⟨Z,D,B,q,y,rfl,h,h1,h2,h3⟩;exact q2 _ _ _ _ _ Z h h1 h2 h3
theorem Xq (W:WO b)(L:O5 M A E s kd b good)(T:Two b good a c){st:SortSt}(hs:kindOf st=kd)(q:∀r O,SameG st O->Jn b (a.toList++c.toList) r.toList->Q r O):wpS M A E s (V6 a c) Q st:=by
 rw [Xo];refine Yad (wpS_lift (Ydh ⟨rfl,?_⟩));have hc:=T.nc;have ha:=T.na;obtain ⟨x,hx,gx⟩:=T.at (i:=a.size-1) (by lia);refine Yad (Gs hx ?_);have h0:MH b a c (a.size-1) c.size #[x]:=by
  have z:MH b a c (a.size-1+1) c.size #[]:=by
   unfold MH;rw [Nat.sub_add_cancel (by lia),Yfl (by simp),Yfl (by simp)];exact ⟨by simp,by simp,by simp,T.sa,T.sc⟩
  exact z.pushA hx λy hy=>T.last x hx y (Yfu hy)
 dsimp only;split
 ·rename_i e;exact Yag (q _ _ (SameG.refl _) (h0.done (.inl (eq_of_beq e))))
 ·rename_i e;have e:0<a.size-1:=by
   have:a.size-1≠0:=λz=>e (Ybi.mpr z)
   lia
  split
  ·rename_i U;exact Yag (q _ _ (SameG.refl _) (h0.first T (eq_of_beq U)))
  ·rename_i U;have U:1<c.size:=by
    have:c.size≠1:=λz=>U (Ybi.mpr z)
    lia
   refine Yad (wpS_get ?_);refine Yad (Yce (λk r O=>SameG st O/\∃D N B mg,r=(none,D,N,B,mg)/\MH b a c D N B/\(0<D/\D<=a.size)/\(1<N/\N<=c.size)/\k<B.size) ?_ ?_ ⟨SameG.refl _,_,_,_,_,rfl,h0,⟨e,by lia⟩,⟨U,Yaf _⟩,by simp⟩)
   ·rintro k r Y _ hk ⟨Z,D,N,B,mg,rfl,h,h1,h2,h3⟩;have aa:kindOf Y=kd:=Z.1.trans hs;unfold Zck;dsimp only;refine Yad (ZaD W L T aa h h1 h2 (λr y ab g m=>?_) (λo i j ac bc ab g m p1 p2 p3=>?_))
    ·refine Yag ?_;dsimp only;exact Yag (q r ab (Z.trans g) m)
    ·dsimp only;refine Yad (wpS_lift (Ydh ⟨rfl,?_⟩));refine Yad (ZaG W L T (g.1.trans aa) m p1 p2 (λr y ad g3 m3=>?_) (λo3 i3 j3 y3 ad g3 m3 r1 r2 r3=>?_))
     ·refine Yag ?_;dsimp only;exact Yag (q r ad ((Z.trans g).trans g3) m3)
     ·dsimp only;refine Yad (Og λae g4=>?_);exact Yag ⟨((Z.trans g).trans g3).trans g4,_,_,_,_,rfl,m3,r1,r2,by lia⟩
   ·rintro r Y ⟨Z,D,N,B,mg,rfl,h,h1,h2,h3⟩;exfalso;have:=MrgH.len h;rw [Yak,Ybo,Ybo,List.length_reverse,Yan,Yan,Yan] at this;simp at h3
    lia
end
noncomputable abbrev Asc:=Option (Option Nat)×Nat
noncomputable abbrev Dsc:=Option (Option Nat)×Nat×Nat
noncomputable def Zea (lo:Nat):Nat->Asc->StateT SortSt Sem (ForInStep Asc):=λ_ r=>do
 match <- ltAt' (lo+r.2) (lo+r.2-1) with
 | some smaller=>if smaller=true then pure (.done (none,r.2)) else pure (.yield (none,r.2+1))
 | _=>pure (.done (some none,r.2))
noncomputable def Zg0 (lo:Nat):Nat->Dsc->StateT SortSt Sem (ForInStep Dsc):=λ_ r=>do
 match <- ltAt' (lo+r.2.1) (lo+r.2.1-1) with
 | some smaller=>
  if smaller=true then
   if r.2.2 > 0 then do
    reverseSlice' (lo+r.2.1-(r.2.2+1)) (lo+r.2.1)
    pure (.yield (none,r.2.1+1,0))
   else pure (.yield (none,r.2.1+1,0))
  else do
   match <- ltAt' (lo+r.2.1-1) (lo+r.2.1) with
   | some larger=>if larger=true then pure (.done (none,r.2.1,r.2.2)) else pure (.yield (none,r.2.1+1,r.2.2+1))
   | _=>pure (.done (some none,r.2.1,r.2.2))
 | _=>pure (.done (some none,r.2.1,r.2.2))
noncomputable def WV (lo n j:Nat):StateT SortSt Sem (Option Nat):=do
 reverseSlice' lo (lo+n)
 let r <- forIn [n:j] ((none,n):Asc) (Zea lo)
 match r.1 with
 | some x=>pure x
 | none=>pure (some r.2)
noncomputable def Za (lo n j:Nat):StateT SortSt Sem (Option Nat):=do
 liftM (rule "list.sort.descending-run")
 let r <- forIn [n+1:j] ((none,n+1,0):Dsc) (Zg0 lo)
 match r.1 with
 | some x=>pure x
 | none=>(if r.2.2 > 0 then (do
   reverseSlice' (lo+r.2.1-(r.2.2+1)) (lo+r.2.1)
   WV lo r.2.1 j) else WV lo r.2.1 j)
theorem Xr (lo q:Nat):countRun' lo q=(do
  let r <- forIn [1:q] ((none,1):Asc) (Zea lo)
  match r.1 with
  | some x=>pure x
  | none=>(if (r.2 == q)=true then pure (some r.2) else (if r.2 > 1 then (do
    match <- ltAt' lo (lo+r.2-1) with
    | some rose=>(if rose=true then pure (some r.2) else (do
      reverseSlice' lo (lo+r.2)
      Za lo r.2 q))
    | _=>pure none)
   else Za lo r.2 q))):=by
 rw [countRun'_eq];refine (Ybh (λm:StateT SortSt Sem Asc=>m >>= _) (UW (r:=[1:q]) (c:=((none,1):Asc)) (g:=Zea lo) λi r=>rfl)).trans ?_;refine Jh λr=>?_;obtain ⟨B,j⟩:=r;cases B with
 | some z=>rfl
 | none=>
  refine V8 (c:=(j == q)=true) rfl ?_;refine V8 (c:=j > 1) ?_ ?_
  ·refine Jh λz=>?_;cases z with
   | none=>rfl
   | some z=>
    refine V8 (c:=z=true) rfl ?_;refine Jh λ_=>?_;unfold Za;refine Jh λ_=>?_;refine (Ybh (λm:StateT SortSt Sem Dsc=>m >>= _) (UW (r:=[j+1:q]) (c:=((none,j+1,0):Dsc)) (g:=Zg0 lo) λi r=>rfl)).trans ?_;refine Jh λr=>?_;obtain ⟨B,j,D⟩:=r;cases B with
    | some z=>rfl
    | none=>
     refine V8 (c:=D > 0) (Jh λ_=>?_) ?_
     all_goals
      unfold WV;refine Jh λ_=>?_;refine (Ybh (λm:StateT SortSt Sem Asc=>m >>= _) (UW (r:=[j:q]) (c:=((none,j):Asc)) (g:=Zea lo) λi r=>rfl)).trans ?_;refine Jh λr=>?_;obtain ⟨B,j⟩:=r;cases B <;> rfl
  ·unfold Za;refine Jh λ_=>?_;refine (Ybh (λm:StateT SortSt Sem Dsc=>m >>= _) (UW (r:=[j+1:q]) (c:=((none,j+1,0):Dsc)) (g:=Zg0 lo) λi r=>rfl)).trans ?_;refine Jh λr=>?_;obtain ⟨B,j,D⟩:=r;cases B with
   | some z=>rfl
   | none=>
    refine V8 (c:=D > 0) (Jh λ_=>?_) ?_
    all_goals
     unfold WV;refine Jh λ_=>?_;refine (Ybh (λm:StateT SortSt Sem Asc=>m >>= _) (UW (r:=[j:q]) (c:=((none,j):Asc)) (g:=Zea lo) λi r=>rfl)).trans ?_;refine Jh λr=>?_;obtain ⟨B,j⟩:=r;cases B <;> rfl
structure Ah (lo:Nat)(st st':SortSt):Prop where
 kd:kindOf st'=kindOf st
 pe:pendingOf st'=pendingOf st
 fa:failedOf st'=failedOf st
 pm:(arrOf st').Perm (arrOf st)
 lw:∀i,i<lo->(arrOf st')[i]?=(arrOf st)[i]?
theorem Ah.refl (lo:Nat)(st:SortSt):Ah lo st st:=⟨rfl,rfl,rfl,.refl _,λ_ _=>rfl⟩
theorem Ah.trans {lo:Nat}{st q j:SortSt}(h:Ah lo st q)(k:Ah lo q j):Ah lo st j:=
 ⟨k.kd.trans h.kd,k.pe.trans h.pe,k.fa.trans h.fa,k.pm.trans h.pm,λi hi=>(k.lw i hi).trans (h.lw i hi)⟩
theorem Ah.size {lo:Nat}{st j:SortSt}(h:Ah lo st j):(arrOf j).size=(arrOf st).size:=h.pm.size_eq
noncomputable def AllG (good:Keyed->Prop)(arr:Array Keyed):Prop:=∀x∈arr.toList,good x
theorem AllG.perm (h:AllG good a)(p:c.Perm a):AllG good c:=λx j=>h x (p.toList.mem_iff.mp j)
theorem AllG.at (h:AllG good a)(hi:i<a.size):∃x,a[i]?=some x/\good x:=⟨a[i],by simp [hi],h _ (by simp)⟩
noncomputable def ZbC (b:Keyed->Keyed->Bool)(arr:Array Keyed)(lo hi:Nat):Prop:=∀i j x y,lo<=i->i<=j->j<hi->arr[i]?=some x->arr[j]?=some y->kle b y x
section
variable {M:Model}{A:Around}{E:Aa->SS->Prop}{s:SS}{kd:SortKind}{b:Keyed->Keyed->Bool}{good:Keyed->Prop}
theorem OR {st:SortSt}(L:O5 M A E s kd b good)(N:kindOf st=kd)(G:AllG good (arrOf st))(hi:i<(arrOf st).size)(O:j<(arrOf st).size)(q:∀x y,(arrOf st)[i]?=some x->(arrOf st)[j]?=some y->Q (some (b x y)) st):wpS M A E s (ltAt' i j) Q st:=by
 obtain ⟨x,B,U⟩:=G.at hi;obtain ⟨y,D,Y⟩:=G.at O;rw [ltAt'_eq];refine Yad (wpS_get ?_);exact Yad (Gs B (Yad (Gs D (L x y st Q U Y N (q x y B D)))))
theorem Zeb (arr:Array Keyed)(W:WO b)(lo:Nat):Rng b arr lo (lo+1):=λi j x y h1 h2 D B q=>by
 have:i=j:=by lia
 subst this;rw [B] at q;cases q;exact W.le_refl _
theorem Zcn (W:WO b){lo n:Nat}(h:Rng b arr lo (lo+n))(U:0<n)(N:arr[lo+n-1]?=some x)(L:arr[lo+n]?=some y)(B:kle b x y):Rng b arr lo (lo+n+1):=λi j u v h1 h2 Y q D=>by
 by_cases O:j<lo+n
 ·exact h i j u v h1 h2 O q D
 ·have:j=lo+n:=by lia
  subst this;rw [L] at D;cases D;by_cases hi:i=lo+n
  ·subst hi;rw [L] at q;cases q;exact W.le_refl _
  ·exact W.le_trans (h i (lo+n-1) u x h1 (by lia) (by lia) q N) B
theorem J7 (W:WO b){lo n:Nat}(h:ZbC b arr lo (lo+n))(U:0<n)(N:arr[lo+n-1]?=some x)(L:arr[lo+n]?=some y)(B:kle b y x):ZbC b arr lo (lo+n+1):=λi j u v h1 h2 Y q D=>by
 by_cases O:j<lo+n
 ·exact h i j u v h1 h2 O q D
 ·have:j=lo+n:=by lia
  subst this;rw [L] at D;cases D;by_cases hi:i=lo+n
  ·subst hi;rw [L] at q;cases q;exact W.le_refl _
  ·exact W.le_trans B (h i (lo+n-1) u x h1 (by lia) (by lia) q N)
theorem ZaH (W:WO b)(L:O5 M A E s kd b good){st:SortSt}{lo a j:Nat}(hs:kindOf st=kd)(G:AllG good (arrOf st))(hn:lo+j<=(arrOf st).size)(h1:1<=a)(h2:a<=j)(h3:Rng b (arrOf st) lo (lo+a))(q:∀n,a<=n->n<=j->Rng b (arrOf st) lo (lo+n)->(n=j\/∃x y,(arrOf st)[lo+n-1]?=some x/\(arrOf st)[lo+n]?=some y/\b y x=true)->Q (none,n) st):wpS M A E s (forIn [a:j] ((none,a):Asc) (Zea lo)) Q st:=by
 refine Yce (λk r B=>B=st/\r=(none,k)/\a<=k/\k<=j/\Rng b (arrOf st) lo (lo+k)) ?_ ?_ ⟨rfl,rfl,Yaf _,h2,h3⟩
 ·rintro k r B _ hk ⟨rfl,rfl,O,U,D⟩;unfold Zea;refine Yad (OR L hs G (by show lo+k<_;lia) (by show lo+k-1<_;lia) λy x Y Z=>?_);dsimp only;split
  ·rename_i N;exact Yag (q k O U D (.inr ⟨x,y,Z,Y,N⟩))
  ·rename_i N;exact Yag ⟨rfl,rfl,by lia,by lia,Zcn W D (by lia) Z Y (Yed.mpr N)⟩
 ·rintro r B ⟨rfl,rfl,O,U,D⟩;rw [Nat.max_eq_right h2] at D ⊢;exact q j h2 (Yaf _) D (.inl rfl)
noncomputable def ZaI (b:Keyed->Keyed->Bool)(arr:Array Keyed)(lo hi:Nat):Prop:=∀i j x y,lo<=i->i<hi->lo<=j->j<hi->arr[i]?=some x->arr[j]?=some y->kle b x y
theorem OS {st:SortSt}{lo i j:Nat}(h:lo<=i)(q:j<=(arrOf st).size):Ah lo st (setArr st (mirror (arrOf st) i j ((j-i) / 2))):=by
 refine ⟨rfl,rfl,rfl,mirror_perm _ _ _ _,λk B=>?_⟩;show (mirror (arrOf st) i j ((j-i) / 2))[k]?=_;rw [Yez q,if_neg (by lia)]
theorem Zb {lo hi:Nat}(D:hi<=arr.size)(h:ZbC b arr lo hi):Rng b (mirror arr lo hi ((hi-lo) / 2)) lo hi:=λi j x y h1 h2 L q B=>by
 rw [Yez D,if_pos (by lia)] at q B;exact h (lo+hi-1-j) (lo+hi-1-i) y x (by lia) (by lia) (by lia) B q
theorem Ov {lo hi i j:Nat}(Y:j<=arr.size)(h1:lo<=i)(h2:i<=j)(h3:j<=hi)(Z:ZaI b arr i j)(h:ZbC b arr lo hi):ZbC b (mirror arr i j ((j-i) / 2)) lo hi:=λp q x y N k2 O D B=>by
 rw [Yez Y] at D B;by_cases U:i<=p/\p<j
 ·rw [if_pos U] at D;by_cases L:i<=q/\q<j
  ·rw [if_pos L] at B;exact Z (i+j-1-q) (i+j-1-p) y x (by lia) (by lia) (by lia) (by lia) B D
  ·rw [if_neg L] at B;exact h _ q x y (by lia) (by lia) O D B
 ·rw [if_neg U] at D;by_cases L:i<=q/\q<j
  ·rw [if_pos L] at B;exact h p _ x y N (by lia) (by lia) D B
  ·rw [if_neg L] at B;exact h p q x y N k2 O D B
noncomputable def ZhH (b:Keyed->Keyed->Bool)(lo q:Nat)(st:SortSt)(Q:Option Nat->SortSt->Prop):Prop:=∀m j,Ah lo st j->1<=m->m<=q->Rng b (arrOf j) lo (lo+m)->Q (some m) j
theorem WW (W:WO b)(L:O5 M A E s kd b good){st:SortSt}{lo n N:Nat}(O:kindOf st=kd)(G:AllG good (arrOf st))(U:lo+N<=(arrOf st).size)(h1:1<=n)(h2:n<=N)(Y:ZbC b (arrOf st) lo (lo+n))(q:ZhH b lo N st Q):wpS M A E s (WV lo n N) Q st:=by
 unfold WV;rw [reverseSlice'_eq];refine Yad (Ycs ?_);have B:=OS (st:=st) (lo:=lo) (i:=lo) (j:=lo+n) (Yaf _) (by lia);have r:=Zb (arr:=arrOf st) (lo:=lo) (hi:=lo+n) (by lia) Y;generalize hst:setArr st (mirror (arrOf st) lo (lo+n) ((lo+n-lo) / 2))=D at B;have Z:arrOf D=mirror (arrOf st) lo (lo+n) ((lo+n-lo) / 2):=by rw [<-hst]
 rw [<-Z] at r;refine Yad (ZaH W L (B.kd.trans O) (G.perm B.pm) (by rw [B.size];exact U) h1 h2 r λm k1 k2 k3 _=>?_);dsimp only;exact Yag (q m D B (by lia) k2 k3)
theorem WX (W:WO b)(L:O5 M A E s kd b good){st:SortSt}{lo n O:Nat}(hs:kindOf st=kd)(G:AllG good (arrOf st))(hn:lo+O<=(arrOf st).size)(h2:n+1<=O)(h3:ZbC b (arrOf st) lo (lo+(n+1)))(q:ZhH b lo O st Q):wpS M A E s (Za lo n O) Q st:=by
 unfold Za;refine Yad (wpS_lift (Ydh ⟨rfl,?_⟩));have fin:∀m B D,Ah lo st D->n+1<=m->m<=O->ZbC b (arrOf D) lo (lo+m)->B+1<=m->ZaI b (arrOf D) (lo+m-(B+1)) (lo+m) ->
   wpS M A E s (if B > 0 then (do reverseSlice' (lo+m-(B+1)) (lo+m);WV lo m O) else WV lo m O) Q D:=by
  intro m B D N k1 k2 Z k4 k5;have G1:=G.perm N.pm;have ae:lo+O<=(arrOf D).size:=by rw [N.size];exact hn
  split
  ·rw [reverseSlice'_eq];refine Yad (Ycs ?_);have U:=OS (st:=D) (lo:=lo) (i:=lo+m-(B+1)) (j:=lo+m) (by lia) (by lia);have r:=Ov (arr:=arrOf D) (lo:=lo) (hi:=lo+m) (i:=lo+m-(B+1)) (j:=lo+m) (by lia) (by lia) (by lia) (Yaf _) k5 Z;generalize hst:setArr D (mirror (arrOf D) (lo+m-(B+1)) (lo+m) ((lo+m-(lo+m-(B+1))) / 2))=ab at U;have e1:arrOf ab=mirror (arrOf D) (lo+m-(B+1)) (lo+m) ((lo+m-(lo+m-(B+1))) / 2):=by rw [<-hst]
   rw [<-e1] at r;have aa:=N.trans U;exact WW W L (aa.kd.trans hs) (G.perm aa.pm) (by rw [aa.size];exact hn) (by lia) k2 r λm' ac a'=>q m' ac (aa.trans a')
  ·exact WW W L (N.kd.trans hs) G1 ae (by lia) k2 Z λm' ac a'=>q m' ac (N.trans a')
 have ad:∀(arr:Array Keyed) m,ZaI b arr (lo+m-(0+1)) (lo+m):=λarr m i j x y i1 i2 i3 i4 e1 e2=>by
  have:i=j:=by lia
  subst this;rw [e1] at e2;cases e2;exact W.le_refl _
 refine Yad (Yce (λk r D=>Ah lo st D/\∃B,r=(none,k,B)/\n+1<=k/\k<=O/\ZbC b (arrOf D) lo (lo+k)/\B+1<=k/\ZaI b (arrOf D) (lo+k-(B+1)) (lo+k)) ?_ ?_ ⟨Ah.refl _ _,0,rfl,Yaf _,h2,h3,by lia,ad _ _⟩)
 ·rintro k r D _ hk ⟨N,B,rfl,k1,k2,Z,k4,k5⟩;have G1:=G.perm N.pm;have ae:lo+O<=(arrOf D).size:=by rw [N.size];exact hn
  have af:=N.kd.trans hs;unfold Zg0;refine Yad (OR L af G1 (by show lo+k<_;lia) (by show lo+k-1<_;lia) λy x hy hx=>?_);dsimp only;split
  ·rename_i hb;have Y:=W.le_of_lt hb;split
   ·rw [reverseSlice'_eq];refine Yad (Ycs ?_);have U:=OS (st:=D) (lo:=lo) (i:=lo+k-(B+1)) (j:=lo+k) (by lia) (by lia);have r:=Ov (arr:=arrOf D) (lo:=lo) (hi:=lo+k) (i:=lo+k-(B+1)) (j:=lo+k) (by lia) (by lia) (by lia) (Yaf _) k5 Z;have e3:(mirror (arrOf D) (lo+k-(B+1)) (lo+k) ((lo+k-(lo+k-(B+1))) / 2))[lo+k]?=some y:=by rw [Yez (by lia),if_neg (by lia)];exact hy
    have e4:∃z,(mirror (arrOf D) (lo+k-(B+1)) (lo+k) ((lo+k-(lo+k-(B+1))) / 2))[lo+k-1]?=some z/\kle b y z:=by
     obtain ⟨z,hz,_⟩:=G1.at (i:=lo+k-(B+1)) (by lia);refine ⟨z,?_,W.le_trans Y (Z (lo+k-(B+1)) (lo+k-1) z x (by lia) (by lia) (by lia) hz hx)⟩;rw [Yez (by lia),if_pos (by lia),<-hz]
     congr 1
     lia
    generalize hst:setArr D (mirror (arrOf D) (lo+k-(B+1)) (lo+k) ((lo+k-(lo+k-(B+1))) / 2))=ab at U;have e1:arrOf ab=mirror (arrOf D) (lo+k-(B+1)) (lo+k) ((lo+k-(lo+k-(B+1))) / 2):=by rw [<-hst]
    rw [<-e1] at r e3 e4;obtain ⟨z,hz,ak⟩:=e4;exact Yag ⟨N.trans U,0,rfl,by lia,by lia,J7 W r (by lia) hz e3 ak,by lia,ad _ _⟩
   ·exact Yag ⟨N,0,rfl,by lia,by lia,J7 W Z (by lia) hx hy Y,by lia,ad _ _⟩
  ·rename_i hb;have al:kle b x y:=Yed.mpr hb;refine Yad (OR L af G1 (by show lo+k-1<_;lia) (by show lo+k<_;lia) λx' y' ag ai=>?_);rw [hx] at ag;cases ag;rw [hy] at ai;cases ai;dsimp only;split
   ·refine Yag ?_;dsimp only;exact fin k B D N k1 k2 Z k4 k5
   ·rename_i am;have Y:kle b y x:=Yed.mpr am;refine Yag ⟨N,B+1,rfl,by lia,by lia,J7 W Z (by lia) hx hy Y,by lia,λi j u v i1 i2 i3 i4 e1 e2=>?_⟩;have aj:∀i u,lo+k-(B+1)<=i->i<lo+(k+1)->(arrOf D)[i]?=some u->kle b u x/\kle b x u:=λi u p1 p2 e=>by
     by_cases hi:i<lo+k
     ·exact ⟨k5 i (lo+k-1) u x p1 hi (by lia) (by lia) e hx,k5 (lo+k-1) i x u (by lia) (by lia) p1 hi hx e⟩
     ·have:i=lo+k:=by lia
      subst this;rw [hy] at e;cases e;exact ⟨Y,al⟩
    exact W.le_trans (aj i u (by lia) i2 e1).1 (aj j v (by lia) i4 e2).2
 ·rintro r D ⟨N,B,rfl,k1,k2,Z,k4,k5⟩;dsimp only;rw [Nat.max_eq_right h2] at *;exact fin O B D N k1 k2 Z k4 k5
theorem Wb (W:WO b)(L:O5 M A E s kd b good){st:SortSt}{lo N:Nat}(Z:kindOf st=kd)(G:AllG good (arrOf st))(hn:lo+N<=(arrOf st).size)(h1:1<=N)(q:ZhH b lo N st Q):wpS M A E s (countRun' lo N) Q st:=by
 rw [Xr];refine Yad (ZaH W L Z G hn (Yaf _) h1 (Zeb _ W _) λn k1 k2 k3 k4=>?_);dsimp only;split
 ·exact Yag (q n st (Ah.refl _ _) k1 k2 k3)
 ·rename_i e;have e:n≠N:=λz=>e (Ybi.mpr z);obtain ⟨x,y,hx,hy,hb⟩:=k4.resolve_left e;have O:=W.le_of_lt hb;split
  ·rename_i B;refine Yad (OR L Z G (by lia) (by lia) λu v hu hv=>?_);rw [hx] at hv;cases hv;dsimp only;split
   ·exact Yag (q n st (Ah.refl _ _) k1 k2 k3)
   ·rename_i aa;have U:kle b x u:=Yed.mpr aa;have al:ZaI b (arrOf st) lo (lo+n):=λi j p r i1 i2 i3 i4 B D=>
     W.le_trans (k3 i (lo+n-1) p x i1 (by lia) (by lia) B hx) (W.le_trans U (k3 lo j u r (Yaf _) i3 i4 hu D))
    have ni:ZbC b (arrOf st) lo (lo+n):=λi j p r i1 i2 i3 B D=>al j i r p (by lia) i3 i1 (by lia) D B;rw [reverseSlice'_eq];refine Yad (Ycs ?_);have Y:=OS (st:=st) (lo:=lo) (i:=lo) (j:=lo+n) (Yaf _) (by lia);have r:=Ov (arr:=arrOf st) (lo:=lo) (hi:=lo+n) (i:=lo) (j:=lo+n) (by lia) (Yaf _) (by lia) (Yaf _) al ni;have e3:(mirror (arrOf st) lo (lo+n) ((lo+n-lo) / 2))[lo+n]?=some y:=by rw [Yez (by lia),if_neg (by lia)];exact hy
    have e4:(mirror (arrOf st) lo (lo+n) ((lo+n-lo) / 2))[lo+n-1]?=some u:=by
     rw [Yez (by lia),if_pos (by lia),<-hu]
     congr 1
     lia
    generalize hst:setArr st (mirror (arrOf st) lo (lo+n) ((lo+n-lo) / 2))=ab at Y;have B:arrOf ab=mirror (arrOf st) lo (lo+n) ((lo+n-lo) / 2):=by rw [<-hst]
    rw [<-B] at r e3 e4;exact WX W L (Y.kd.trans Z) (G.perm Y.pm) (by rw [Y.size];exact hn) (by lia) (J7 W r (by lia) e4 e3 (W.le_trans O U)) λm' ac a'=>q m' ac (Y.trans a')
  ·have:n=1:=by lia
   subst this;refine WX W L Z G hn (by lia) (J7 W (λi j p r i1 i2 i3 B D=>?_) (by lia) hx hy O) q;have:i=j:=by lia
   subst this;rw [B] at D;cases D;exact W.le_refl _
theorem Zc (W:WO b){lo k l:Nat}(hk:lo+k<arr.size)(hl:l<=k)(h:Rng b arr lo (lo+k))(hp:arr[lo+k]?=some p)(h1:∀i x,i<l->arr[lo+i]?=some x->kle b x p)(h2:∀i x,l<=i->i<k->arr[lo+i]?=some x->kle b p x) :
  Rng b (bubble arr (lo+k) (lo+k-(lo+l))) lo (lo+(k+1)):=by
 have e0:lo+k-(lo+k-(lo+l))=lo+l:=by lia
 have at_:∀q,(bubble arr (lo+k) (lo+k-(lo+l)))[q]?=if q=lo+l then some p else if lo+l<q/\q<=lo+k then arr[q-1]? else arr[q]?:=λq=>by
  rw [getElem?_bubble hk _ (by lia),e0,hp]
 intro i j x y i1 i2 i3 D B;rw [at_] at D B;have O:∀q z,lo<=q->q<lo+l->arr[q]?=some z->kle b z p:=λq z U q2 e=>h1 (q-lo) z (by lia) (by rw [Ydn U];exact e);have L:∀q z,lo+l<=q->q<lo+k->arr[q]?=some z->kle b p z:=λq z U q2 e=>h2 (q-lo) z (by lia) (by lia) (by rw [Ydn (by lia)];exact e);by_cases Y:i=lo+l
 ·rw [if_pos Y] at D;cases D;by_cases N:j=lo+l
  ·rw [if_pos N] at B;cases B;exact W.le_refl _
  ·rw [if_neg N,if_pos (by lia)] at B;exact L (j-1) y (by lia) (by lia) B
 ·rw [if_neg Y] at D;by_cases Z:lo+l<i/\i<=lo+k
  ·rw [if_pos Z] at D;rw [if_neg (by lia),if_pos (by lia)] at B;exact h (i-1) (j-1) x y (by lia) (by lia) (by lia) D B
  ·rw [if_neg Z] at D;by_cases N:j=lo+l
   ·rw [if_pos N] at B;cases B;exact O i x i1 (by lia) D
   ·rw [if_neg N] at B;by_cases dj:lo+l<j/\j<=lo+k
    ·rw [if_pos dj] at B;exact h i (j-1) x y i1 (by lia) (by lia) D B
    ·rw [if_neg dj] at B;exact h i j x y i1 i2 (by lia) D B
theorem ZaJ {st:SortSt}{lo src d:Nat}(h1:src<(arrOf st).size)(h2:d<=src)(j:lo<=src-d):Ah lo st (setArr st (bubble (arrOf st) src d)):=by
 refine ⟨rfl,rfl,rfl,bubble_perm _ _ _,λk q=>?_⟩;show (bubble (arrOf st) src d)[k]?=_;rw [getElem?_bubble h1 _ h2,if_neg (by lia),if_neg (by lia)]
theorem Zd (W:WO b)(L:O5 M A E s kd b good){st:SortSt}{lo n ok:Nat}(hs:kindOf st=kd)(G:AllG good (arrOf st))(hn:lo+n<=(arrOf st).size)(h1:1<=ok)(h2:ok<=n)(h3:Rng b (arrOf st) lo (lo+ok))(q:∀D,Ah lo st D->Rng b (arrOf D) lo (lo+n)->Q true D):wpS M A E s (binarySort' lo n ok) Q st:=by
 rw [binarySort'_eq,Nat.max_eq_left h1];refine Yad (Yce (λk r B=>Ah lo st B/\r=(none,())/\ok<=k/\k<=n/\Rng b (arrOf B) lo (lo+k)) ?_ ?_ ⟨Ah.refl _ _,rfl,Yaf _,h2,h3⟩)
 ·rintro k r B _ hk ⟨N,rfl,k1,k2,O⟩;have G1:=G.perm N.pm;have ac:lo+n<=(arrOf B).size:=by rw [N.size];exact hn
  have aa:=N.kd.trans hs;obtain ⟨p,hp,gp⟩:=G1.at (i:=lo+k) (by lia);have fin:∀l,l<=k->(∀i x,i<l->(arrOf B)[lo+i]?=some x->kle b x p)->(∀i x,l<=i->i<k->(arrOf B)[lo+i]?=some x->kle b p x) ->
    wpS M A E s (do moveDown' (lo+k) (lo+l);pure (ForInStep.yield ((none,()):Option Bool×Unit))) (λr D=>match r with
     | .done c'=>False
     | .yield c'=>Ah lo st D/\c'=(none,())/\ok<=k+1/\k+1<=n/\Rng b (arrOf D) lo (lo+(k+1))) B:=by
   intro l hl g1 U;rw [moveDown'_eq];refine Yad (Ycs ?_);have ab:=ZaJ (st:=B) (lo:=lo) (src:=lo+k) (d:=lo+k-(lo+l)) (by lia) (by lia) (by lia);exact Yag ⟨N.trans ab,rfl,by lia,by lia,Zc W (by lia) hl O hp g1 U⟩
  dsimp only;refine Yad (Yce (λi c D=>D=B/\∃l r,c=(none,l,r)/\l<=r/\r<=k/\r-l<=k-i/\(∀i x,i<l->(arrOf B)[lo+i]?=some x->kle b x p)/\(∀i x,r<=i->i<k->(arrOf B)[lo+i]?=some x->kle b p x)) ?_ ?_ ⟨rfl,0,k,rfl,by lia,by lia,by lia,λi x hi=>by lia,λi x h1 h2=>by lia⟩)
  ·rintro i c D _ hi ⟨rfl,l,r,rfl,g1,U,g3,g4,g5⟩;dsimp only;split
   ·have:l=r:=by lia
    subst this;refine Yag ?_;dsimp only;exact wpS_mono (fin l U g4 g5) λr D Y=>by
     cases r with
     | done z=>exact False.elim Y
     | yield z=>exact Y
   ·refine Yad (OR L aa G1 (by lia) (by lia) λp' m Z hm=>?_);rw [hp] at Z;cases Z;dsimp only;split
    ·rename_i hb;refine Yag ⟨rfl,_,_,rfl,by lia,by lia,by lia,g4,λj x j1 j2 e=>?_⟩;exact W.le_trans (W.le_of_lt hb) (O _ (lo+j) m x (by lia) (by lia) (by lia) hm e)
    ·rename_i hb;refine Yag ⟨rfl,_,_,rfl,by lia,by lia,by lia,λj x j1 e=>?_,g5⟩;exact W.le_trans (O (lo+j) _ x m (by lia) (by lia) (by lia) e hm) (Yed.mpr hb)
  ·rintro c D ⟨rfl,l,r,rfl,g1,U,g3,g4,g5⟩;have:l=r:=by simp at g3;lia
   subst this;dsimp only;exact wpS_mono (fin l U g4 g5) λr D Y=>by
     cases r with
     | done z=>exact False.elim Y
     | yield z=>exact Y
 ·rintro r B ⟨N,rfl,k1,k2,O⟩;dsimp only;rw [Nat.max_eq_right h2] at O;exact Yag (q B N O)
noncomputable def OT (arr:Array Keyed)(base:Nat)(l:List Keyed):Array Keyed:=List.foldl (λa (x:Keyed×Nat)=>a.setIfInBounds (base+x.2) x.1) arr l.zipIdx
noncomputable def Zco (q:Nat)(j:Array Keyed):StateT SortSt Sem Bool:=do
 modify λs=>setArr s (OT (arrOf s) q j.toList)
 let s <- get
 pure (failedOf s).isNone
noncomputable def ZfB (st:SortSt)(q na j nb:Nat):StateT SortSt Sem Bool:=(if (nb == 0)=true then pure true else (if na<=nb then (do
  let m <- V5 ((arrOf st).extract q j) ((arrOf st).extract j (j+nb))
  Zco q m) else (do
  let m <- V6 ((arrOf st).extract q j) ((arrOf st).extract j (j+nb))
  Zco q m)))
noncomputable def ZfC (st:SortSt)(j na q nb:Nat):StateT SortSt Sem Bool:=(if (na == 0)=true then pure true else (do
  let y <- elem' (arrOf st) (j+na-1)
  match <- J6 true y (arrOf st) q nb (nb-1) with
  | some nb=>ZfB st j na q nb
  | _=>pure false))
theorem Xs (i:Nat):mergeAt' i=(do
  let st <- get
  match (pendingOf st)[i]?,(pendingOf st)[i+1]? with
  | some (sa,na,power),some (sb,nb,_)=>do
   set (setPending st (((pendingOf st).setIfInBounds i (sa,na+nb,power)).eraseIdxIfInBounds (i+1)))
   let x <- elem' (arrOf st) sb
   match <- J6 false x (arrOf st) sa na 0 with
   | some k=>ZfC st (sa+k) (na-k) sb nb
   | _=>pure false
  | _,_=>liftM (unsupported "internal:list.sort.pending")):=by
 refine Jh (m:=get) λst=>?_;cases (pendingOf st)[i]? with
 | none=>rfl
 | some p=>
  cases (pendingOf st)[i+1]? with
  | none=>rfl
  | some q=>
   obtain ⟨sa,na,B⟩:=p;obtain ⟨sb,nb,j⟩:=q
   rfl
theorem Zdg:∀(l:List Keyed)(arr:Array Keyed)(base n i:Nat),base+n+l.length<=arr.size ->
  (List.foldl (λa (x:Keyed×Nat)=>a.setIfInBounds (base+x.2) x.1) arr (l.zipIdx n))[i]?=if base+n<=i/\i<base+n+l.length then l[i-(base+n)]? else arr[i]?
 | [],arr,base,n,i,_=>by
  rw [if_neg (by simp)]
  rfl
 | x::l,arr,base,n,i,h=>by
  rw [List.zipIdx_cons,List.foldl_cons];rw [Ybm] at h;have ih:=Zdg l (arr.setIfInBounds (base+n) x) base (n+1) i (by rw [Array.size_setIfInBounds];lia);refine ih.trans ?_;rw [Ybm];by_cases h1:base+(n+1)<=i/\i<base+(n+1)+l.length
  ·rw [if_pos h1,if_pos (by lia)];rw [show i-(base+n)=(i-(base+(n+1)))+1 by lia,Yfh]
  ·rw [if_neg h1,Array.getElem?_setIfInBounds];by_cases h2:base+n=i
   ·subst h2;rw [if_pos rfl,if_pos (by lia),if_pos (by lia),Nat.sub_self]
    rfl
   ·rw [if_neg h2,if_neg (by lia)]
theorem Zdh (h:base+l.length<=arr.size)(i:Nat):(OT arr base l)[i]?=if base<=i/\i<base+l.length then l[i-base]? else arr[i]?:=Zdg l arr base 0 i h
theorem Zcp (h:base+l.length<=arr.size)(p:l.Perm ((arr.toList.drop base).take l.length)):(OT arr base l).Perm arr:=by
 have e:(OT arr base l).toList=arr.toList.take base++l++arr.toList.drop (base+l.length):=by
  refine List.ext_getElem? λi=>?_;have j:arr.toList.length=arr.size:=Yan;rw [Yax,Zdh h];rw [Ybu,List.getElem?_append,Ybo,j,Yey (by lia)];by_cases h1:i<base
  ·rw [if_neg (by lia),if_pos h1,Yeu,if_pos h1,Yax]
  ·rw [if_neg h1,List.getElem?_append];by_cases h2:i<base+l.length
   ·rw [if_pos (by lia),if_pos (by lia)]
   ·rw [if_neg (by lia),if_neg (by lia),Yev,Yax]
    congr 1
    lia
 have q:arr.toList=arr.toList.take base++(arr.toList.drop base).take l.length++arr.toList.drop (base+l.length):=by
  rw [Ybu,<-List.drop_drop,Ydp,Ydp]
 rw [Array.perm_iff_toList_perm,e];exact ((Yfq _ p).append_right _).trans (.of_eq q.symm)
theorem UC {lo mid hi:Nat}(h1:Rng b arr lo mid)(h2:Rng b arr mid hi)(L:∀i j x y,lo<=i->i<mid->mid<=j->j<hi->arr[i]?=some x->arr[j]?=some y->kle b x y):Rng b arr lo hi:=λi j x y i1 i2 D q B=>by
 by_cases N:j<mid
 ·exact h1 i j x y i1 i2 N q B
 ·by_cases O:i<mid
  ·exact L i j x y i1 O (by lia) D q B
  ·exact h2 i j x y (by lia) i2 D q B
theorem Zdi {lo hi:Nat}(q:hi<=arr.size)(h:Rng b arr lo hi):(arr.extract lo hi).toList.Pairwise (kle b):=by
 rw [Yef];intro i j B D L;have sz:(arr.extract lo hi).toList.length=hi-lo:=by rw [Yan,Yfn,Yey q]
 refine h (lo+i) (lo+j) _ _ (by lia) (by lia) (by lia) ?_ ?_
 ·simp [Array.getElem_extract]
 ·simp [Array.getElem_extract]
noncomputable def MgQ (b:Keyed->Keyed->Bool)(st:SortSt)(lo hi:Nat)(Q:Bool->SortSt->Prop):Prop:=∀j,kindOf j=kindOf st->pendingOf j=pendingOf st->failedOf j=failedOf st->(arrOf j).Perm (arrOf st) ->
 (∀i,i<lo\/hi<=i->(arrOf j)[i]?=(arrOf st)[i]?)->Rng b (arrOf j) lo hi->Q true j
structure GalF (b:Keyed->Keyed->Bool)(arr:Array Keyed)(sa k sb nb hi:Nat):Prop where
 k0:sa<=k
 k1:k<sb
 n0:0<nb
 n1:sb+nb<=hi
 ra:Rng b arr sa sb
 rb:Rng b arr sb hi
 lowA:∀i x y,sa<=i->i<k->arr[i]?=some x->arr[sb]?=some y->kle b x y
 highA:∀i x y,k<=i->i<sb->arr[i]?=some x->arr[sb]?=some y->kle b y x
 lowB:∀i x y,sb<=i->i<sb+nb->arr[i]?=some x->arr[sb-1]?=some y->kle b x y
 highB:∀i x y,sb+nb<=i->i<hi->arr[i]?=some x->arr[sb-1]?=some y->kle b y x
theorem GalF.two (F:GalF b arr sa k D nb hi)(hh:hi<=arr.size)(G:AllG good arr):Two b good (arr.extract k D) (arr.extract D (D+nb)):=by
 have h0:=F.k0;have h1:=F.k1;have h2:=F.n0;have h3:=F.n1;have B:∀{i j x},x∈(arr.extract i j).toList->good x:=λ{i j x} L=>by
  obtain ⟨q,_,_,e⟩:=Xp L;rw [<-Yax] at e;exact G x (Ybf e)
 refine ⟨λx=>B,λx=>B,Zdi (by lia) λi j x y i1 i2 Y=>F.ra i j x y (by lia) i2 Y,Zdi (by lia) λi j x y i1 i2 Y=>F.rb i j x y i1 i2 (by lia),by rw [Yfn];lia,by rw [Yfn];lia,λx L y O=>?_,λz N y O=>?_⟩
 ·have L:arr[D]?=some x:=by
   rw [Array.getElem?_extract,if_pos (by lia)] at L;exact L
  obtain ⟨q,U,Z,e⟩:=Xp O;exact F.highA q y x U Z e L
 ·have N:arr[D-1]?=some z:=by
   rw [Yfn,Array.getElem?_extract,if_pos (by lia)] at N;rw [<-N]
   congr 1
   lia
  obtain ⟨q,U,Z,e⟩:=Xp O;exact F.lowB q y z U (by lia) e N
theorem GalF.fin (W:WO b){st:SortSt}(F:GalF b (arrOf st) sa k B nb hi)(hh:hi<=(arrOf st).size)(q:MgQ b st sa hi Q)(hf:failedOf st=none){N:SortSt}(O:SameG st N)(hm:Jn b (((arrOf st).extract k B).toList++((arrOf st).extract B (B+nb)).toList) m.toList):wpS M A E s (Zco k m) Q N:=by
 have h0:=F.k0;have h1:=F.k1;have h2:=F.n0;have h3:=F.n1;unfold Zco;refine Yad (Ycs (Yad (wpS_get (Yag ?_))));show Q (failedOf N).isNone _;rw [O.2.2.2,hf];have hl:m.toList.length=B+nb-k:=by
  have:=hm.1.length_eq;rw [Yak,Yan,Yan,Yan,Yfn,Yfn] at this;rw [Yan]
  lia
 have hb:k+m.toList.length<=(arrOf st).size:=by lia
 have D:((arrOf st).toList.drop k).take m.toList.length=((arrOf st).extract k B).toList++((arrOf st).extract B (B+nb)).toList:=by
  have x1:((arrOf st).extract k (B+nb)).toList=((arrOf st).toList.drop k).take m.toList.length:=by
   rw [hl,Yfj,Yfk]
  rw [<-x1,<-Yda,Array.extract_append_extract]
  congr 2 <;> lia
 have at_:=Zdh (arr:=arrOf st) (base:=k) (l:=m.toList) hb;have mem:∀i x,k<=i->i<B+nb->(OT (arrOf st) k m.toList)[i]?=some x->(∃j,k<=j/\j<B/\(arrOf st)[j]?=some x)\/(∃j,B<=j/\j<B+nb/\(arrOf st)[j]?=some x):=λi x i1 i2 e=>by
  rw [at_,if_pos (by lia)] at e;have Z:=hm.1.mem_iff.mp (Ybf e);rcases Yaj.mp Z with Z | Z
  ·exact .inl (Xp Z)
  ·exact .inr (Xp Z)
 obtain ⟨b0,U⟩:∃x,(arrOf st)[B]?=some x:=⟨_,Ybd (by lia)⟩;obtain ⟨aL,aa⟩:∃x,(arrOf st)[B-1]?=some x:=⟨_,Ybd (by lia)⟩;refine q _ O.1 O.2.2.1 ?_ ?_ (λi ab=>?_) ?_
 ·show failedOf N=failedOf st;exact O.2.2.2
 ·show (OT (arrOf N) k m.toList).Perm (arrOf st);rw [O.2.1];exact Zcp hb (hm.1.trans (.of_eq D.symm))
 ·show (OT (arrOf N) k m.toList)[i]?=_;rw [O.2.1,at_,if_neg (by lia)]
 ·show Rng b (OT (arrOf N) k m.toList) sa hi;rw [O.2.1];have old:∀i,i<k\/B+nb<=i->(OT (arrOf st) k m.toList)[i]?=(arrOf st)[i]?:=λi ab=>by rw [at_,if_neg (by lia)]
  refine UC (mid:=k) (λi j x y i1 i2 Y D L=>?_) (UC (mid:=B+nb) (λi j x y i1 i2 Y D L=>?_) (λi j x y i1 i2 Y D L=>?_) (λi j x y i1 i2 Y i4 D L=>?_)) (λi j x y i1 i2 Y i4 D L=>?_)
  ·rw [old i (by lia)] at D;rw [old j (by lia)] at L;exact F.ra i j x y i1 i2 (by lia) D L
  ·rw [at_,if_pos (by lia)] at D L;exact Zcg W hm.2 (by lia) D L
  ·rw [old i (by lia)] at D;rw [old j (by lia)] at L;exact F.rb i j x y (by lia) i2 Y D L
  ·rw [old j (by lia)] at L;rcases mem i x i1 i2 D with ⟨p,p1,p2,e⟩ | ⟨p,p1,p2,e⟩
   ·exact W.le_trans (F.ra p (B-1) x aL (by lia) (by lia) (by lia) e aa) (F.highB j y aL Y i4 L aa)
   ·exact F.rb p j x y p1 (by lia) i4 e L
  ·rw [old i (by lia)] at D;have xb:=F.lowA i x b0 i1 i2 D U;by_cases cj:j<B+nb
   ·rcases mem j y Y cj L with ⟨p,p1,p2,e⟩ | ⟨p,p1,p2,e⟩
    ·exact F.ra i p x y i1 (by lia) p2 D e
    ·exact W.le_trans xb (F.rb B p b0 y (Yaf _) p1 (by lia) U e)
   ·rw [old j (by lia)] at L;exact W.le_trans xb (F.rb B j b0 y (Yaf _) (by lia) i4 U L)
theorem Xu (W:WO b)(L:O5 M A E s kd b good){st:SortSt}(hs:kindOf st=kd)(hf:failedOf st=none)(G:AllG good (arrOf st))(p1:(pendingOf st)[i]?=some (D,na,pw))(p2:(pendingOf st)[i+1]?=some (sb,nb,ae))(e:sb=D+na)(af:0<na)(al:0<nb)(hh:sb+nb<=(arrOf st).size)(ra:Rng b (arrOf st) D sb)(rb:Rng b (arrOf st) sb (sb+nb))(q:MgQ b (setPending st (((pendingOf st).setIfInBounds i (D,na+nb,pw)).eraseIdxIfInBounds (i+1))) D (sb+nb) Q):wpS M A E s (mergeAt' i) Q st:=by
 subst e;rw [Xs];refine Yad (wpS_get ?_);rw [p1,p2];dsimp only;refine Yad ?_;show wpS M A E s (set _) _ st;refine (show wpS M A E s (modify λ_=>setPending st (((pendingOf st).setIfInBounds i (D,na+nb,pw)).eraseIdxIfInBounds (i+1))) _ st from Ycs ?_);generalize hst:setPending st (((pendingOf st).setIfInBounds i (D,na+nb,pw)).eraseIdxIfInBounds (i+1))=B at q;have ea:arrOf B=arrOf st:=by rw [<-hst]
 have ek:kindOf B=kd:=by rw [<-hst];exact hs
 have ef:failedOf B=none:=by rw [<-hst];exact hf
 rw [<-ea] at G hh ra rb ⊢;obtain ⟨b0,U,ag⟩:=G.at (i:=D+na) (by lia);obtain ⟨aL,Y,ah⟩:=G.at (i:=D+na-1) (by lia);refine Yad (Gs U ?_);have G1:Gal b good false b0 (arrOf B) D na:=Vy W ag (λi hi=>G.at (by lia)) ra;refine Yad (Ju L G1 ek af λk hk k1 k2=>?_);have ab:∀i x y,D<=i->i<D+k->(arrOf B)[i]?=some x->(arrOf B)[D+na]?=some y->kle b x y:=λi x y i1 i2 N O=>by
  rw [U] at O;cases O;have:=k1 (i-D) (by lia);unfold byd at this;rw [Ydn i1,N] at this;dsimp only at this;rw [if_neg Yap,Bool.not_eq_true'] at this;exact this
 have ac:∀i x y,D+k<=i->i<D+na->(arrOf B)[i]?=some x->(arrOf B)[D+na]?=some y->kle b y x:=λi x y i1 i2 N O=>by
  rw [U] at O;cases O;have:=k2 (i-D) (by lia) (by lia);unfold byd at this;rw [Ydn (by lia),N] at this;dsimp only at this;rw [if_neg Yap,Bool.not_eq_false'] at this;exact W.le_of_lt this
 dsimp only;unfold ZfC;rw [show arrOf st=arrOf B from ea.symm];split
 ·rename_i e0;have e0:na-k=0:=eq_of_beq e0;refine Yag (q B rfl rfl rfl (.refl _) (λ_ _=>rfl) (UC ra rb λi j x y i1 i2 i3 i4 N O=>?_));exact W.le_trans (ab i x b0 i1 (by lia) N U) (rb (D+na) j b0 y (Yaf _) i3 i4 U O)
 ·rename_i e0;have e0:na-k≠0:=λz=>e0 (Ybi.mpr z);refine Yad (Gs (show (arrOf B)[D+k+(na-k)-1]?=some aL by rw [<-Y];congr 1;lia) ?_);have G2:Gal b good true aL (arrOf B) (D+na) nb:=Vy W ah (λi hi=>G.at (by lia)) rb;refine Yad (Ju L G2 ek (by lia) λZ am ai aj=>?_);have ad:∀i x y,D+na<=i->i<D+na+Z->(arrOf B)[i]?=some x->(arrOf B)[D+na-1]?=some y->kle b x y:=λi x y i1 i2 N O=>by
   rw [Y] at O;cases O;have:=ai (i-(D+na)) (by lia);unfold byd at this;rw [Ydn i1,N] at this;dsimp only at this;rw [if_pos rfl] at this;exact W.le_of_lt this
  have aa:∀i x y,D+na+Z<=i->i<D+na+nb->(arrOf B)[i]?=some x->(arrOf B)[D+na-1]?=some y->kle b y x:=λi x y i1 i2 N O=>by
   rw [Y] at O;cases O;have:=aj (i-(D+na)) (by lia) (by lia);unfold byd at this;rw [Ydn (by lia),N] at this;dsimp only at this;rw [if_pos rfl] at this;exact this
  dsimp only;unfold ZfB;split
  ·rename_i N;have N:Z=0:=eq_of_beq N;refine Yag (q B rfl rfl rfl (.refl _) (λ_ _=>rfl) (UC ra rb λi j x y i1 i2 i3 i4 f1 f2=>?_));exact W.le_trans (ra i (D+na-1) x aL i1 (by lia) (by lia) f1 Y) (aa j y aL (by lia) i4 f2 Y)
  ·rename_i N;have N:Z≠0:=λz=>N (Ybi.mpr z);have F:GalF b (arrOf B) D (D+k) (D+na) Z (D+na+nb):=⟨by lia,by lia,by lia,by lia,ra,rb,ab,ac,ad,aa⟩;have T:=F.two hh G;split
   ·refine Yad ?_;rw [show arrOf st=arrOf B from ea.symm];exact Xn W L T ek λr ak sg m=>F.fin W hh q ef sg m
   ·refine Yad ?_;rw [show arrOf st=arrOf B from ea.symm];exact Xq W L T ek λr ak sg m=>F.fin W hh q ef sg m
end
noncomputable def Runs (b:Keyed->Keyed->Bool)(arr:Array Keyed):Nat->List (Nat×Nat×Nat)->Nat->Prop
 | s,[],e=>s=e
 | s,x::rest,e=>x.1=s/\0<x.2.1/\Rng b arr s (s+x.2.1)/\Runs b arr (s+x.2.1) rest e
section
variable {b:Keyed->Keyed->Bool}{arr arr':Array Keyed}
theorem Runs.le:∀{p:List (Nat×Nat×Nat)}{s e:Nat},Runs b arr s p e->s+p.length<=e
 | [],s,e,h=>by have h:s=e:=h;simp [h]
 | x::p,s,e,h=>by
  have:=Runs.le h.2.2.2;have:=h.2.1;rw [Ybm]
  lia
theorem Runs.app:∀{u v:List (Nat×Nat×Nat)}{s e:Nat},Runs b arr s (u++v) e↔∃m,Runs b arr s u m/\Runs b arr m v e
 | [],v,s,e=>⟨λh=>⟨s,rfl,h⟩,λ⟨m,h1,h2⟩=>by have h1:s=m:=h1;rw [h1];exact h2⟩
 | x::u,v,s,e=>by
  constructor
  ·rintro ⟨h1,h2,h3,h4⟩;obtain ⟨m,k1,k2⟩:=Runs.app.mp h4;exact ⟨m,⟨h1,h2,h3,k1⟩,k2⟩
  ·rintro ⟨m,⟨h1,h2,h3,k1⟩,k2⟩;exact ⟨h1,h2,h3,Runs.app.mpr ⟨m,k1,k2⟩⟩
theorem Runs.keep:∀{p:List (Nat×Nat×Nat)}{s e:Nat},Runs b arr s p e->(∀i,s<=i->i<e->arr'[i]?=arr[i]?)->Runs b arr' s p e
 | [],_,_,h,_=>h
 | x::p,s,e,h,k=>by
  have:=Runs.le h.2.2.2;refine ⟨h.1,h.2.1,λi j u v i1 i2 D q B=>?_,Runs.keep h.2.2.2 λi i1 i2=>k i (by lia) i2⟩;rw [k i i1 (by lia)] at q;rw [k j (by lia) (by lia)] at B;exact h.2.2.1 i j u v i1 i2 D q B
theorem Runs.push {s lo n j:Nat}(h:Runs b arr s p lo)(q:0<n)(B:Rng b arr lo (lo+n)):Runs b arr s (p++[(lo,n,j)]) (lo+n):=
 Runs.app.mpr ⟨lo,h,rfl,q,B,rfl⟩
theorem Runs.two (h:Runs b arr 0 p e)(h1:p[i]?=some (q,na,L))(h2:p[i+1]?=some (B,nb,D)) :
  B=q+na/\0<na/\0<nb/\B+nb<=e/\Rng b arr q B/\Rng b arr B (B+nb) /\
   ((∀i,i<q\/B+nb<=i->arr'[i]?=arr[i]?)->Rng b arr' q (B+nb)->Runs b arr' 0 ((p.set i (q,na+nb,L)).eraseIdx (i+1)) e):=by
 obtain ⟨l1,e1⟩:=Yao.mp h1;obtain ⟨l2,e2⟩:=Yao.mp h2;have d:p=p.take i++(q,na,L)::(B,nb,D)::p.drop (i+2):=by
  conv=>lhs;rw [<-Ydp i p,Yfr l1,e1,Yfr l2,e2]
 have O:(p.take i).length=i:=by rw [Ybo];lia
 generalize p.take i=u at d O;generalize p.drop (i+2)=v at d;subst d;obtain ⟨m,k1,U,Y,Z,k5,k6,k7,N⟩:=Runs.app.mp h;have U:q=m:=U;have Y:0<na:=Y;have k5:B=m+na:=k5;have k6:0<nb:=k6;have Z:Rng b arr m (m+na):=Z;have k7:Rng b arr (m+na) (m+na+nb):=k7;have N:Runs b arr (m+na+nb) v e:=N;subst U k5;have k9:q+na+nb+v.length<=e:=N.le;refine ⟨rfl,Y,k6,by lia,Z,k7,λho hr=>?_⟩;have es:((u++(q,na,L)::(q+na,nb,D)::v).set i (q,na+nb,L)).eraseIdx (i+1)=u++(q,na+nb,L)::v:=by
  rw [List.set_append,if_neg (by lia),O,Nat.sub_self,List.set_cons_zero,List.eraseIdx_append_of_length_le (by lia),O,Nat.add_sub_cancel_left]
  rfl
 rw [es];refine Runs.app.mpr ⟨q,k1.keep λj j1 j2=>ho j (.inl j2),rfl,by show 0<na+nb;lia,by show Rng b arr' q (q+(na+nb));rw [<-Nat.add_assoc];exact hr,?_⟩;show Runs b arr' (q+(na+nb)) v e;rw [<-Nat.add_assoc];exact N.keep λj j1 j2=>ho j (.inr j1)
theorem Runs.pow:∀{p:List (Nat×Nat×Nat)}{s e:Nat}(i:Nat)(f:Nat×Nat×Nat->Nat×Nat×Nat),(∀x,(f x).1=x.1/\(f x).2.1=x.2.1)->Runs b arr s p e->Runs b arr s (p.modify i f) e
 | [],_,_,i,f,_,h=>by cases i <;> exact h
 | x::p,s,e,0,f,hf,h=>by
  rw [List.modify_zero_cons];obtain ⟨q1,q2⟩:=hf x;refine ⟨q1.trans h.1,by rw [q2];exact h.2.1,by rw [q2];exact h.2.2.1,by rw [q2];exact h.2.2.2⟩
 | x::p,s,e,i+1,f,hf,h=>by
  rw [List.modify_succ_cons];exact ⟨h.1,h.2.1,h.2.2.1,Runs.pow i f hf h.2.2.2⟩
theorem Runs.one (W:WO b)(h:Runs b arr 0 p e)(q:p.length<=1):Rng b arr 0 e:=by
 match p,h,q with
 | [],h,_=>
  have h:0=e:=h;subst h;intro i j x y i1 i2 D
  lia
 | [x],h,_=>
  have B:0+x.2.1=e:=h.2.2.2;rw [<-B];exact h.2.2.1
end
section
variable {M:Model}{A:Around}{E:Aa->SS->Prop}{s:SS}{kd:SortKind}{b:Keyed->Keyed->Bool}{good:Keyed->Prop}
structure SI (b:Keyed->Keyed->Bool)(kd:SortKind)(st0 st:SortSt)(lo:Nat):Prop where
 ki:kindOf st=kd
 fa:failedOf st=none
 pm:(arrOf st).Perm (arrOf st0)
 ru:Runs b (arrOf st) 0 (pendingOf st).toList lo
theorem SI.size {st0 st:SortSt}{lo:Nat}(h:SI b kd st0 st lo):(arrOf st).size=(arrOf st0).size:=h.pm.size_eq
theorem SI.merge (W:WO b)(L:O5 M A E s kd b good){st0 st:SortSt}{lo i:Nat}(G:AllG good (arrOf st0))(h:SI b kd st0 st lo)(aa:lo<=(arrOf st0).size)(hi:i+1<(pendingOf st).size)(q:∀B,SI b kd st0 B lo->(pendingOf B).size+1=(pendingOf st).size->(∀i,lo<=i->(arrOf B)[i]?=(arrOf st)[i]?)->Q true B):wpS M A E s (mergeAt' i) Q st:=by
 obtain ⟨⟨D,na,N⟩,U⟩:∃x,(pendingOf st)[i]?=some x:=⟨_,Ybd (by lia)⟩;obtain ⟨⟨sb,nb,ab⟩,p2⟩:∃x,(pendingOf st)[i+1]?=some x:=⟨_,Ybd hi⟩;have two:=λarr'=>Runs.two (arr':=arr') h.ru (by rw [Yax];exact U) (by rw [Yax];exact p2);obtain ⟨t1,t2,t3,t4,t5,t6,_⟩:=two (arrOf st);have ac:=h.size;refine Xu W L h.ki h.fa (G.perm h.pm) U p2 t1 t2 t3 (by lia) t5 t6 λB k1 k2 k3 Y O k6=>?_;have e0:arrOf (setPending st (((pendingOf st).setIfInBounds i (D,na+nb,N)).eraseIdxIfInBounds (i+1)))=arrOf st:=rfl;rw [e0] at Y O;have e1:pendingOf B=((pendingOf st).setIfInBounds i (D,na+nb,N)).eraseIdxIfInBounds (i+1):=k2;have Z:(pendingOf B).toList=((pendingOf st).toList.set i (D,na+nb,N)).eraseIdx (i+1):=by
  rw [e1,Array.toList_eraseIdxIfInBounds,Array.toList_setIfInBounds]
 refine q B ⟨k1.trans h.ki,k3.trans h.fa,Y.trans h.pm,?_⟩ ?_ λj hj=>O j (.inr (by lia))
 ·rw [Z];exact (two (arrOf B)).2.2.2.2.2.2 O k6
 ·have:=Ybh List.length Z;rw [Yan,List.length_eraseIdx,List.length_set,Yan,if_pos hi] at this
  lia
theorem JX (W:WO b)(L:O5 M A E s kd b good){st:SortSt}(hs:kindOf st=kd)(hf:failedOf st=none)(hp:pendingOf st=#[])(G:AllG good (arrOf st))(q:∀ad,(arrOf ad).Perm (arrOf st)->failedOf ad=none->Rng b (arrOf ad) 0 (arrOf st).size->Q () ad):wpS M A E s sortRuns' Q st:=by
 rw [sortRuns'_eq];refine Yad (wpS_get ?_);dsimp only;generalize hsz:(arrOf st).size=size at q;generalize minRun' size size 0=Y;refine Yad (wpS_mono (Q:=λr aa=>r=(none,size)/\SI b kd st aa size) (Yce (λk r aa=>∃lo,r=(none,lo)/\k<=lo/\lo<=size/\SI b kd st aa lo) ?_ ?_ ⟨0,rfl,Yaf _,Yat _,hs,hf,.refl _,by rw [hp];rfl⟩) ?_)
 ·rintro k r aa _ hk ⟨lo,rfl,k1,k2,I⟩;dsimp only;split
  ·have:lo=size:=by lia
   subst this;exact Yag ⟨rfl,I⟩
  ·rename_i ak;have s1:(arrOf aa).size=size:=I.size.trans hsz;refine Yad (Wb W L I.ki (G.perm I.pm) (by lia) (by lia) λn O ah n1 n2 n3=>?_);have Z:SI b kd st O lo:=⟨ah.kd.trans I.ki,ah.fa.trans I.fa,ah.pm.trans I.pm,by rw [ah.pe];exact I.ru.keep λi _ hi=>ah.lw i hi⟩;dsimp only;have U:∀D n,SI b kd st D lo->0<n->Rng b (arrOf D) lo (lo+n)->SI b kd st (setPending D ((pendingOf D).push (lo,n,0))) (lo+n):=by
    intro D n I3 n1 n3;refine ⟨I3.ki,I3.fa,I3.pm,?_⟩;show Runs b (arrOf D) 0 ((pendingOf D).push (lo,n,0)).toList (lo+n);rw [Yeo];exact I3.ru.push n1 n3
   have pow:∀D pw,SI b kd st D lo->SI b kd st (setPending D ((pendingOf D).modify ((pendingOf D).size-1) λx=>(x.1,x.2.1,pw))) lo:=by
    intro D pw I3;refine ⟨I3.ki,I3.fa,I3.pm,?_⟩;show Runs b (arrOf D) 0 ((pendingOf D).modify ((pendingOf D).size-1) λx=>(x.1,x.2.1,pw)).toList lo;rw [Array.toList_modify];exact I3.ru.pow _ _ λx=>⟨rfl,rfl⟩
   split
   ·rename_i ae;refine Yad (wpS_lift (Ydh ⟨rfl,?_⟩));have s2:(arrOf O).size=size:=Z.size.trans hsz;refine Yad (Zd W L Z.ki (G.perm Z.pm) (by lia) n1 (by lia) n3 λD ac r3=>?_);have I3:SI b kd st D lo:=⟨ac.kd.trans Z.ki,ac.fa.trans Z.fa,ac.pm.trans Z.pm,by rw [ac.pe];exact Z.ru.keep λi _ hi=>ac.lw i hi⟩;rw [show (!true)=false from rfl,if_neg Yap];have hN:1<=min (size-lo) Y/\lo+min (size-lo) Y<=size:=by lia
    clear ae;generalize min (size-lo) Y=N at r3 hN;refine Yad (wpS_get ?_);cases hbk:(pendingOf D).back? with
    | none=>exact Yad (Ycs (Yag ⟨_,rfl,by lia,by lia,U D _ I3 (by lia) r3⟩))
    | some x=>
     obtain ⟨s1,n1,af⟩:=x;dsimp only;refine Yad (wpS_mono (Q:=λr B=>r=(none,())/\SI b kd st B lo/\∀i,lo<=i->(arrOf B)[i]?=(arrOf D)[i]?) (Yce (λ_ r B=>r=(none,())/\SI b kd st B lo/\∀i,lo<=i->(arrOf B)[i]?=(arrOf D)[i]?) ?_ (λ_ _ z=>z) ⟨rfl,I3,λ_ _=>rfl⟩) ?_)
     ·rintro k' r B _ ag ⟨rfl,I4,same⟩;refine Yad (wpS_get ?_);by_cases hz:(pendingOf B).size > 1
      ·obtain ⟨⟨z1,z2,z3⟩,pz⟩:∃x,(pendingOf B)[(pendingOf B).size-2]?=some x:=⟨_,Ybd (by lia)⟩;rw [if_pos hz,pz];dsimp only;split
       ·exact Yag ⟨rfl,I4,same⟩
       ·refine Yad (I4.merge W L G (by lia) (by lia) λai I5 _ ab=>?_);rw [show (!true)=false from rfl,if_neg Yap];exact Yag ⟨rfl,I5,λi hi=>(ab i hi).trans (same i hi)⟩
      ·rw [if_neg hz];exact Yag ⟨rfl,I4,same⟩
     ·rintro r B ⟨rfl,I4,same⟩;dsimp only;refine Yad (Ycs (Yad (Ycs (Yag ⟨_,rfl,by lia,by lia,?_⟩))));refine U _ _ (pow B _ I4) (by lia) λi j x y i1 i2 i3 e1 e2=>?_;have e1:(arrOf B)[i]?=some x:=e1;have e2:(arrOf B)[j]?=some y:=e2;rw [same i i1] at e1;rw [same j (by lia)] at e2;exact r3 i j x y i1 i2 i3 e1 e2
   ·have hN:1<=n/\lo+n<=size:=by lia
    refine Yad (wpS_get ?_);cases hbk:(pendingOf O).back? with
    | none=>exact Yad (Ycs (Yag ⟨_,rfl,by lia,by lia,U O _ Z (by lia) n3⟩))
    | some x=>
     obtain ⟨s1,n1,af⟩:=x;dsimp only;refine Yad (wpS_mono (Q:=λr B=>r=(none,())/\SI b kd st B lo/\∀i,lo<=i->(arrOf B)[i]?=(arrOf O)[i]?) (Yce (λ_ r B=>r=(none,())/\SI b kd st B lo/\∀i,lo<=i->(arrOf B)[i]?=(arrOf O)[i]?) ?_ (λ_ _ z=>z) ⟨rfl,Z,λ_ _=>rfl⟩) ?_)
     ·rintro k' r B _ ag ⟨rfl,I4,same⟩;refine Yad (wpS_get ?_);by_cases hz:(pendingOf B).size > 1
      ·obtain ⟨⟨z1,z2,z3⟩,pz⟩:∃x,(pendingOf B)[(pendingOf B).size-2]?=some x:=⟨_,Ybd (by lia)⟩;rw [if_pos hz,pz];dsimp only;split
       ·exact Yag ⟨rfl,I4,same⟩
       ·refine Yad (I4.merge W L G (by lia) (by lia) λai I5 _ ab=>?_);rw [show (!true)=false from rfl,if_neg Yap];exact Yag ⟨rfl,I5,λi hi=>(ab i hi).trans (same i hi)⟩
      ·rw [if_neg hz];exact Yag ⟨rfl,I4,same⟩
     ·rintro r B ⟨rfl,I4,same⟩;dsimp only;refine Yad (Ycs (Yad (Ycs (Yag ⟨_,rfl,by lia,by lia,?_⟩))));refine U _ _ (pow B _ I4) (by lia) λi j x y i1 i2 i3 e1 e2=>?_;have e1:(arrOf B)[i]?=some x:=e1;have e2:(arrOf B)[j]?=some y:=e2;rw [same i i1] at e1;rw [same j (by lia)] at e2;exact n3 i j x y i1 i2 i3 e1 e2
 ·rintro r aa ⟨lo,rfl,k1,k2,I⟩;have:lo=size:=by simp at k1;lia
  subst this;exact ⟨rfl,I⟩
 ·rintro r aa ⟨rfl,I⟩;dsimp only;refine Yad (wpS_mono (Q:=λr O=>r=(none,())/\SI b kd st O size/\(pendingOf O).size<=1) (Yce (λk r O=>r=(none,())/\SI b kd st O size/\(pendingOf O).size+k<=size+1) ?_ ?_ ⟨rfl,I,?_⟩) ?_)
  ·rintro k r O _ hk ⟨rfl,Z,hz⟩;refine Yad (wpS_get ?_);split
   ·rename_i h1;exact Yag ⟨rfl,Z,h1⟩
   ·rename_i h1;generalize hi:(if Option.any _ _=true then (pendingOf O).size-2-1 else (pendingOf O).size-2)=i;have aj:i+1<(pendingOf O).size:=by
     rw [<-hi];have key:∀(c:Prop)[Decidable c](m:Nat),(if c then m-1 else m)<=m:=λc _ m=>by split <;> lia
     refine Nat.lt_of_le_of_lt (Nat.succ_le_succ (key _ ((pendingOf O).size-2))) ?_
     lia
    refine Yad (Z.merge W L G (by lia) aj λD I3 h3 _=>?_);rw [show (!true)=false from rfl,if_neg Yap];exact Yag ⟨rfl,I3,by lia⟩
  ·rintro r O ⟨rfl,Z,hz⟩;exact ⟨rfl,Z,by simp at hz;lia⟩
  ·have:=I.ru.le;rw [Yan] at this
   lia
  ·rintro r O ⟨rfl,Z,h1⟩;refine Yag (q O Z.pm Z.fa ?_);exact Z.ru.one W (by rw [Yan];exact h1)
end
section
variable {prog:PP}{w:Ab}{A:Around}{E:Aa->SS->Prop}{s:SS}{kd:SortKind}{b:Keyed->Keyed->Bool}{good:Keyed->Prop}
noncomputable def JN (s:SS)(a:AD)(vs:LW):SS:={ s with heap:=((s.heap.update a (Obj.mapSeq λ_=>#[])).push (seqObj "tuple" vs.toArray 0)).push (seqObj "list" #[] 0) }
theorem ZaK (W:WO b)(h:arr.size<2):Rng b arr 0 arr.size:=λi j x y i1 i2 D B q=>by
 have:i=j:=by lia
 subst this;rw [B] at q;cases q;exact W.le_refl _
theorem OU (W:WO b)(ha:s.heap.get? a=some (seqObj "list" vs.toArray n))(hz:vs.length<=sizeLine)(hg:∀v∈vs,good (v,v))(hk:2<=vs.length->∀{E':Aa->SS->Prop}{R:SortKind->SS->Prop},R kd (JN s a vs)->wpAny (model prog w) A (keyKind' vs.toArray) R E' (JN s a vs))(L:O5 (model prog w) A E (JN s a vs) kd b good)(q:∀out:Array Keyed,out.Perm (pairsOf vs)->Rng b out 0 vs.length->P (.done (.ret .none)) { s with heap:=sortedHeap s.heap a vs (out.map (·.2)) }) :
  wpAny (model prog w) A (Builtin.«list.sort» { pos:=[.ref a] }) P E s:=by
 rw [list_sort_plain];refine Yaa (Yct ha rfl ?_);refine Yaa (Yfa ha rfl ?_ (by rw [Yau];exact hz) (Yat _));have B:=get?_update_seq ha (λ_=>#[]);generalize (if ((#[]:Array Aa).size == vs.toArray.size)=true then n else n+1)=n1 at B;refine Yaa (seqEpoch_at B rfl ?_);refine Yaa (wpAny_newTuple ?_ hz);refine Yaa (Yfb ?_ (Yat _));refine Ycb ?_;have j:(JN s a vs).heap.get? a=some (seqObj "list" #[] n1):=Yae _ (Yae _ B);show wpAny (model prog w) A _ P E (JN s a vs);have N:(pairsOf vs).size=vs.length:=pairsOf_size vs;dsimp only [Yau];split
 ·rename_i h2;have h2:vs.length<2:=by simpa using h2
  refine Yaa (Yab ?_);refine Yaa (Ybr (Q:=λr s'=>s'=JN s a vs/\failedOf r.2=none/\(arrOf r.2).Perm (pairsOf vs)/\Rng b (arrOf r.2) 0 vs.length) (Yab ⟨rfl,rfl,.refl _,?_⟩) ?_ (λ_ _ z=>z))
  ·have:=ZaK W (arr:=pairsOf vs) (by lia);rw [N] at this;exact this
  ·rintro ⟨_,st⟩ s' ⟨rfl,D,O,Y⟩;dsimp only;refine Yaa (seqEpoch_at j rfl ?_);have D:failedOf st=none:=D;have Z:((arrOf st).map (·.2)).size<=sizeLine+1:=by
    have this:(arrOf st).size=(pairsOf vs).size:=O.size_eq;rw [pairsOf_size] at this;rw [Array.size_map]
    lia
   refine Yaa (Yfa j rfl ?_ (Yat _) Z);have:(n1 != n1)=false:=by simp
   rw [this,D];exact Yab (q (arrOf st) O Y)
 ·rename_i h2;have h2:¬ vs.length<2:=by simpa using h2
  refine Yaa (hk (by lia) ?_);refine Yaa (Ybr (Q:=λr s'=>s'=JN s a vs/\failedOf r.2=none/\(arrOf r.2).Perm (pairsOf vs)/\Rng b (arrOf r.2) 0 vs.length) ?_ ?_ (λ_ _ z=>z))
  ·refine JX (st:=SortSt.mk' kd (vs.toArray.zip vs.toArray) #[] 7 none) (Q:=λ_ st=>failedOf st=none/\(arrOf st).Perm (pairsOf vs)/\Rng b (arrOf st) 0 vs.length) W L rfl rfl rfl (λx U=>?_) λaa k1 k2 k3=>⟨k2,k1,?_⟩
   ·have U:x∈(pairsOf vs).toList:=U;rw [pairsOf_toList] at U;obtain ⟨e,hm⟩:=mem_zip_self U;obtain ⟨x1,x2⟩:=x;have e:x1=x2:=e;subst e;exact hg _ hm
   ·have e:(arrOf (SortSt.mk' kd (vs.toArray.zip vs.toArray) #[] 7 none)).size=vs.length:=N;rw [e] at k3;exact k3
  ·rintro ⟨_,st⟩ s' ⟨rfl,D,O,Y⟩;dsimp only;refine Yaa (seqEpoch_at j rfl ?_);have D:failedOf st=none:=D;have Z:((arrOf st).map (·.2)).size<=sizeLine+1:=by
    have this:(arrOf st).size=(pairsOf vs).size:=O.size_eq;rw [pairsOf_size] at this;rw [Array.size_map]
    lia
   refine Yaa (Yfa j rfl ?_ (Yat _) Z);have:(n1 != n1)=false:=by simp
   rw [this,D];exact Yab (q (arrOf st) O Y)
theorem Jo {h:Heap}(j:c≠a)(e:h.get? c=some o):(h.update a f).get? c=some o:=(Heap.get?_update_ne h c a f j).trans e
theorem Vz (W:WO b)(D:s.heap.IsList l vs.toArray)(hz:vs.length<=sizeLine)(N:∀v∈vs,good (v,v))(O:∀h':Heap,(∀c o,s.heap.get? c=some o->h'.get? c=some o)->2<=vs.length->∀{U:Aa->SS->Prop}{R:SortKind->SS->Prop},R kd { s with heap:=h' }->wpAny (model prog w) A.in1.in1 (keyKind' vs.toArray) R U { s with heap:=h' })(L:∀h':Heap,(∀c o,s.heap.get? c=some o->h'.get? c=some o)->O5 (model prog w) A.in1.in1 E { s with heap:=h' } kd b good)(q:∀out:Array Keyed,out.Perm (pairsOf vs)->Rng b out 0 vs.length->Q (.ref (s.heap.objs.size+1)) { s with heap:=sortedAll s.heap vs (out.map (·.2)) }) :
  wpAny (model prog w) A (call (.builtin "sorted") [.ref l]) Q E s:=by
 refine Calls.call_function_entry kind_sorted plain_sorted entry_sorted (args_sorted1 _) ?_;unfold Builtin.sorted;refine Yaa (Yab ?_);refine Yaa (collect_list D ?_ hz);refine Yaa (Yfb ?_ hz);refine Yaa (Ycb ?_);generalize hh1:(s.heap.push (seqObj "list" #[] 0)).update s.heap.objs.size (Obj.mapSeq λx=>x++vs.toArray)=h1;have j:h1.objs.size=s.heap.objs.size+1:=by rw [<-hh1,Heap.size_update,Ybn]
 have Y:∀c o,s.heap.get? c=some o->h1.get? c=some o:=λc o e=>by
  rw [<-hh1];exact Jo (Yar (Yah e)) (Yae _ e)
 generalize hh2:h1.push { cls:=Value.type "list", data:=Data.seq vs.toArray }=h2;have ha:h2.get? h1.objs.size=some (seqObj "list" vs.toArray 0):=by rw [<-hh2];exact Yaw _ rfl
 have Z:∀c o,s.heap.get? c=some o->h2.get? c=some o:=λc o e=>by
  rw [<-hh2];exact Yae _ (Y c o e)
 have B:∀c o,s.heap.get? c=some o->(JN { s with heap:=h2 } h1.objs.size vs).heap.get? c=some o:=λc o e=>by
  unfold JN;refine Yae _ (Yae _ (Jo ?_ (Z c o e)));have:=Yah e;rw [j];exact Yar (Yen this)
 refine Ycc (s:={ s with heap:=h2 }) slot_list_sort ⟨_,ha,rfl⟩ entry_list_sort ?_ (args_list_sort _);refine OU (s:={ s with heap:=h2 }) W ha hz N (λh=>O _ B h) (L _ B) λout p r=>⟨.none,rfl,Yab ⟨_,rfl,?_⟩⟩;have e:({ s with heap:=sortedHeap h2 h1.objs.size vs (out.map (·.2)) }:SS)={ s with heap:=sortedAll s.heap vs (out.map (·.2)) }:=by
  unfold sortedAll;rw [j,<-hh2,<-hh1]
 show Q (.ref h1.objs.size) { s with heap:=sortedHeap h2 h1.objs.size vs (out.map (·.2)) };rw [e,j];exact q out p r
noncomputable def ZiG:Keyed->Keyed->Bool:=λx y=>match x.1,y.1 with
 | .int i _,.int j _=>decide (i<j)
 | _,_=>false
noncomputable def VA:Aa->Int
 | .int i _=>i
 | _=>0
end
noncomputable def GL:LI->LI->Bool
 | [],[]=>false
 | [],_::_=>true
 | _::_,[]=>false
 | x::xs,y::ys=>if x=y then GL xs ys else decide (x<y)
section
variable {prog:PP}{w:Ab}{A:Around}{E:Aa->SS->Prop}{s:SS}
theorem UX:∀{its:LW}{ns:LI},IntsAre its ns->∀k:Nat,(its[k]?=none/\ns.drop k=[])\/∃i t,its[k]?=some (.int i t)/\ns.drop k=i::ns.drop (k+1)
 | _,_,.nil,k=>.inl ⟨by simp,by simp⟩
 | _,_,.cons n t h,0=>.inr ⟨n,t,rfl,rfl⟩
 | _,_,.cons n t h,k+1=>by
  rcases UX h k with ⟨h1,h2⟩ | ⟨i,t,h1,h2⟩
  ·exact .inl ⟨by simpa using h1,by simpa using h2⟩
  ·exact .inr ⟨i,t,by simpa using h1,by simpa using h2⟩
theorem Jf (h:IntsAre its ns):its.length=ns.length:=by
 induction h with
 | nil=>rfl
 | cons n t h ih=>simp [ih]
theorem Zec (L:s.heap.get? a=some oa)(N:s.heap.get? c=some oc)(O:oa.data=.seq xs.toArray na)(U:oc.data=.seq ys.toArray nc)(Y:IntsAre xs ns)(Z:IntsAre ys ms) :
  ∀left k:Nat,ns.length-k=left->k<=ns.length->k<=ms.length->R (.ok (.ret (.bool (GL (ns.drop k) (ms.drop k))))) s->codeAny (model prog w) A (.builtin "list.__eq__.loop" { pos:=[.ref a,.ref c,rawInt (k:Int),rawInt 0] }) R s:=by
 intro left
 induction left with
 | zero=>
  intro k hl h1 h2 q;refine Ycz MeetsSeq3.entry_eq_loop ?_;rw [Ydz MeetsSeq3.plain_eq_loop _];show wpAny _ A.in1 (Builtin.List.listItems (.ref a) >>= _) _ _ s;refine Yaa (Yct L O (Yaa (Yct N U ?_)));have e1:xs.toArray[((k:Int)).toNat]?=none:=by
   rw [Ydw];rcases UX Y k with ⟨h,_⟩ | ⟨i,t,h,_⟩
   ·simpa using h
   ·have:=(Yao.mp h).1;have:=Jf Y
    lia
  rw [e1];show wpAny _ A.in1 (Builtin.List.listItems (.ref a) >>= _) _ _ s;refine Yaa (Yct L O (Yaa (Yct N U (Yab ?_))));show R (.ok (.ret (.bool (decide (xs.toArray.size<ys.toArray.size))))) s;have D:GL (ns.drop k) (ms.drop k)=decide (xs.toArray.size<ys.toArray.size):=by
   rw [Yau,Yau,Jf Y,Jf Z];have:ns.drop k=[]:=Yfv (by lia);rw [this];cases hd:ms.drop k with
   | nil=>
    have:=List.drop_eq_nil_iff.mp hd;rw [Ybp (by lia)]
    rfl
   | cons y l=>
    have:k<ms.length:=by
     refine Nat.lt_of_not_le λh=>?_;rw [Yfv h] at hd;cases hd
    rw [Yay (by lia)]
    rfl
  rw [<-D];exact q
 | succ left ih=>
  intro k hl h1 h2 q;refine Ycz MeetsSeq3.entry_eq_loop ?_;rw [Ydz MeetsSeq3.plain_eq_loop _];show wpAny _ A.in1 (Builtin.List.listItems (.ref a) >>= _) _ _ s;refine Yaa (Yct L O (Yaa (Yct N U ?_)));rw [Ydw];rcases UX Y k with ⟨h,z⟩ | ⟨i,t,hi,di⟩
  ·have:=List.drop_eq_nil_iff.mp z
   lia
  ·have e1:xs.toArray[k]?=some (.int i t):=by simpa using hi
   rw [e1];rcases UX Z k with ⟨h,z⟩ | ⟨j,u,hj,dj⟩
   ·have D:ys.toArray[k]?=none:=by simpa using h
    rw [D];show wpAny _ A.in1 (Builtin.List.listItems (.ref a) >>= _) _ _ s;refine Yaa (Yct L O (Yaa (Yct N U (Yab ?_))));show R (.ok (.ret (.bool (decide (xs.toArray.size<ys.toArray.size))))) s;rw [di,z] at q;have:=List.drop_eq_nil_iff.mp z;rw [Yau,Yau,Jf Y,Jf Z,Ybp (by lia)];exact q
   ·have D:ys.toArray[k]?=some (.int j u):=by simpa using hj
    rw [D];rw [di,dj] at q;show wpAny _ A.in1 (eqBool (.int i t) (.int j u) >>= _) _ _ s;refine Yaa (wpAny_eqBool_int ?_);have kl:k<ms.length:=by
     have:=(Yao.mp hj).1;rw [Jf Z] at this;exact this
    by_cases B:i=j
    ·rw [show (i == j)=true by rw [B];exact Yff _,if_pos rfl];refine Yab ⟨Yeg MeetsSeq3.plain_eq_loop _,ih (k+1) (by lia) (by lia) (by lia) ?_⟩;unfold GL at q;rw [if_pos B] at q;exact q
    ·rw [show (i == j)=false by rw [Yea];exact B,if_neg Yap];refine Yaa (Yct L O (Yaa (Yct N U ?_)));rw [e1,D];refine Yaa (lt_int (Yab ?_));unfold GL at q;rw [if_neg B] at q;exact q
theorem Ye (a c:AD)(xs ys:LW)(ns ms:LI)(na nc:Nat)(q:IntsAre xs ns)(B:IntsAre ys ms):Meets (Builtin.«list.__lt__» { pos:=[.ref a,.ref c] }) λA R s=>
  s.heap.IsList a xs.toArray/\s.heap.IsList c ys.toArray/\R (.ok (.ret (.bool (GL ns ms)))) s:=by
 intro prog w A R s ⟨ha,D,L⟩;obtain ⟨oa,N,ca,n1,O⟩:=ha;obtain ⟨U,j,Y,n2,Z⟩:=D;show wpAny _ A.in1 (isInstance (.ref c) (.type "list") >>= _) _ _ s;refine Yaa (Yew (T := "list") ⟨U,j,Y⟩ (by first | rfl | decide +kernel) ?_);refine Yab ⟨Yeg MeetsSeq3.plain_eq_loop _,?_⟩;exact Zec N j O Z q B _ 0 rfl (Yat _) (Yat _) L
theorem Ze (ha:s.heap.IsList a xs.toArray)(q:s.heap.IsList c ys.toArray)(B:IntsAre xs ns)(D:IntsAre ys ms)(L:A.units<cLine)(h:Q (GL ns ms) s) :
  wpAny (model prog w) A (oneLt' true (.ref a) (.ref c)) Q E s:=by
 rw [oneLt'_eq];dsimp only;rw [if_pos rfl];refine Yaa (wpAny_cRoom L ?_);have j:s.TypeIs (.ref a) "list" := ha.elim λo z=>⟨o,z.1,z.2.1⟩;refine Yaa (wpAny_callSpecialIfBound?_slot j F.slot_list_lt (call_meets F.slot_list_lt j F.entry_list_lt (F.args_list_lt_2 _ _) (Ye a c xs ys ns ms 0 0 B D) ⟨ha,q,?_⟩));show wpAny _ A (truthOfDropped (.bool (GL ns ms))) Q E s;exact Yeb h
end
end L2
namespace L2
open PySem PySem.Spec PyProof.Rows Classical
theorem Jg:∀xs:LI,GL xs xs=false
 | []=>rfl
 | x::xs=>by
  unfold GL;rw [if_pos rfl];exact Jg xs
theorem Ow:∀{xs ys zs:LI},GL xs ys=true->GL ys zs=true->GL xs zs=true
 | [],[],_,h,_=>by simp [GL] at h
 | [],_::_,[],_,h=>by simp [GL] at h
 | [],_::_,_::_,_,_=>rfl
 | _::_,[],_,h,_=>by simp [GL] at h
 | _::_,_::_,[],_,h=>by simp [GL] at h
 | x::xs,y::ys,z::zs,h1,h2=>by
  unfold GL at h1 h2 ⊢;by_cases e1:x=y
  ·rw [if_pos e1] at h1;by_cases e2:y=z
   ·rw [if_pos e2] at h2;rw [if_pos (e1.trans e2)];exact Ow h1 h2
   ·rw [if_neg e2] at h2;rw [if_neg (by rw [e1];exact e2),e1];exact h2
  ·rw [if_neg e1] at h1;have h1:=Ybt h1;by_cases e2:y=z
   ·rw [if_neg (by rw [<-e2];exact e1),<-e2];exact Yay h1
   ·rw [if_neg e2] at h2;have h2:=Ybt h2;rw [if_neg (by lia)];exact Yay (by lia)
theorem Oh:∀{xs ys:LI},GL xs ys=false->GL ys xs=false->xs=ys
 | [],[],_,_=>rfl
 | [],_::_,h,_=>by simp [GL] at h
 | _::_,[],_,h=>by simp [GL] at h
 | x::xs,y::ys,h1,h2=>by
  unfold GL at h1 h2;by_cases e:x=y
  ·rw [if_pos e] at h1;rw [if_pos e.symm] at h2;rw [e,Oh h1 h2]
  ·rw [if_neg e] at h1;rw [if_neg (Ne.symm e)] at h2;have h1:=Yfo h1;have h2:=Yfo h2
   lia
theorem Yg {α:Type}{κ:Keyed->α}{lt:α->α->Bool}(j:∀a,lt a a=false)(B:∀{a b c},lt a b=true->lt b c=true->lt a c=true)(q:∀{a b},lt a b=false->lt b a=false->a=b):WO (λx y=>lt (κ x) (κ y)):=by
 refine ⟨λx=>j _,λx y z=>B,λx y z h=>?_⟩;cases h1:lt (κ x) (κ y) with
 | true=>exact .inl rfl
 | false=>
  cases h2:lt (κ y) (κ x) with
  | true=>exact .inr (B h2 h)
  | false=>
   rw [<-q h1 h2];exact .inr h
theorem JO {α β:Type}{f:α->β}:∀{l:List β}{zs:List α},l.Perm (zs.map f)->∃j:List α,j.Perm zs/\j.map f=l:=by
 intro l zs h;generalize hm:zs.map f=m at h
 induction h generalizing zs with
 | nil=>exact ⟨zs,.refl _,by rw [hm]⟩
 | @cons x l1 l2 _ ih=>
  cases zs with
  | nil=>simp at hm
  | cons z zs=>
   simp at hm;obtain ⟨j,h1,h2⟩:=ih hm.2;exact ⟨z::j,h1.cons z,by rw [Yaq,h2,hm.1]⟩
 | swap x y l=>
  cases zs with
  | nil=>simp at hm
  | cons z zs=>
   cases zs with
   | nil=>simp at hm
   | cons z2 zs=>
    simp at hm;exact ⟨z2::z::zs,.swap _ _ _,by simp [hm.1,hm.2.1,hm.2.2]⟩
 | trans _ _ ih1 ih2=>
  obtain ⟨B,h1,h2⟩:=ih2 hm;obtain ⟨q,D,L⟩:=ih1 h2;exact ⟨q,D.trans h1,L⟩
section
variable {prog:PP}{w:Ab}{A:Around}{E:Aa->SS->Prop}{s:SS}{b:Keyed->Keyed->Bool}{good:Keyed->Prop}
theorem Yh (h:∀x y,good x->good y->∀{j:Aa->SS->Prop}{Q:Bool->SS->Prop},Q (b x y) s->wpAny (model prog w) A (oneLt' true x.1 y.1) Q j s):O5 (model prog w) A E s oneType' b good:=by
 intro x y st Q B D L q;rw [lt'_eq];refine Yad (wpS_get ?_);refine Yad (wpS_lift ?_);rw [L,keyLt'_oneType];exact Ydj (h x y B D ⟨rfl,Yag q⟩)
theorem JP {β:Type}{f:Aa->Sem β}{g:Aa->β}:∀{vs:LW}{Q:List β->SS->Prop},(∀v∈vs,∀{Q:β->SS->Prop},Q (g v) s->wpAny (model prog w) A (f v) Q E s)->Q (vs.map g) s->wpAny (model prog w) A (List.mapM f vs) Q E s
 | [],Q,_,q=>by
  rw [List.mapM_nil];exact Yab q
 | v::vs,Q,h,q=>by
  rw [List.mapM_cons];refine Yaa (h v (Ybg ..) ?_);exact Yaa (JP (λu hu=>h u (Ybe _ hu)) (Yab q))
theorem OV {α β:Type}{m:Sem α}{f:α->β}{Q:β->SS->Prop}(h:wpAny (model prog w) A m (λa s'=>Q (f a) s') E s):wpAny (model prog w) A (f <$> m) Q E s:=by
 rw [map_eq_pure_bind];exact Yaa (Ybr h (λa s' z=>Yab z) λ_ _ z=>z)
theorem UY {vs:LW}{R:SortKind->SS->Prop}(L:T ≠ "tuple")(h:∀v∈vs,s.TypeIs v T)(h2:2<=vs.length)(q:R oneType' s):wpAny (model prog w) A (keyKind' vs.toArray) R E s:=by
 rw [keyKind'_eq,List.mapM_toArray];have N:(Value.type T != Value.type "tuple")=true:=by
  rw [bne_iff_ne];intro e;injection e with e
  exact L e
 refine Yaa (OV (JP (g:=λ_=>none) (λv D Q q=>?_) ?_))
 ·show wpAny _ _ (typeOf v >>= _) _ _ s;refine Yaa (Yec (h v D) ?_);rw [if_pos N];exact Yab q
 ·obtain ⟨j,B,rest,rfl⟩:∃j B rest,vs=j::B::rest:=by
   cases vs with
   | nil=>simp at h2
   | cons j t=>cases t with
    | nil=>simp at h2
    | cons B rest=>exact ⟨j,B,rest,rfl⟩
  rw [if_neg (by simp)];rw [if_neg (by simp)];rw [oneTypeOnly'_eq,List.mapM_toArray];refine Yaa (Yaa (OV (JP (g:=λ_=>Value.type T) (λv D Q q=>Yec (h v D) q) ?_)));simp only [Yaq,List.getElem?_toArray,List.getElem?_cons_zero];refine Yab ?_;rw [if_pos (by simp)];exact Yab q
end
noncomputable def ltI (x y:Int):Bool:=decide (x<y)
theorem ZfD:WO (λx y=>ltI (VA x.1) (VA y.1)):=Yg (κ:=λx:Keyed=>VA x.1) (lt:=ltI) (λa=>by simp [ltI]) (λ{a b c} h1 h2=>by
  have h1:=Ybt h1;have h2:=Ybt h2;exact Yay (by lia)) (λ{a b} h1 h2=>by
  have h1:=Yfo h1;have h2:=Yfo h2
  lia)
theorem JG (h:Rng b out 0 n)(D:out.size=n):out.toList.Pairwise (kle b):=by
 rw [Yef];intro i j hi q B;rw [Yan] at hi q;exact h i j _ _ (Yat _) (by lia) (by lia) (by simp [hi]) (by simp [q])
theorem Wc {out:Array Keyed}(h:out.Perm (pairsOf vs)):(out.map (·.2)).toList.Perm vs/\(∀x∈out.toList,x.1=x.2/\x.1∈vs)/\out.size=vs.length:=by
 have p:out.toList.Perm (vs.zip vs):=by
  have:=h.toList;rw [pairsOf_toList] at this;exact this
 refine ⟨?_,λx j=>mem_zip_self (p.mem_iff.mp j),by rw [h.size_eq,pairsOf_size]⟩;rw [Array.toList_map];have:=p.map (λx:Keyed=>x.2);rw [show (vs.zip vs).map (λx:Keyed=>x.2)=vs from List.map_snd_zip (Yaf _)] at this;exact this
noncomputable def Zed (h:Heap)(v:Aa):LI:=if q:∃ns a its,v=.ref a/\h.IsList a its/\IntsAre its.toList ns then choose q else []
theorem Wd (h:IntsAre its ns)(k:IntsAre its ms):ns=ms:=by
 induction h generalizing ms with
 | nil=>cases k;rfl
 | cons n t h ih=>cases k with
  | cons _ _ k=>rw [ih k]
theorem VB {h:Heap}(h1:h.IsList a xs)(h2:h.IsList a ys):xs=ys:=by
 obtain ⟨o,e,_,n,d⟩:=h1;obtain ⟨o',j,_,B,q⟩:=h2;rw [e] at j;cases j;rw [d] at q;cases q
 rfl
theorem We (B:h.IsList a its)(hi:IntsAre its.toList ns):Zed h (.ref a)=ns:=by
 have q:∃ns j its,Value.ref a=.ref j/\h.IsList j its/\IntsAre its.toList ns:=⟨ns,a,its,rfl,B,hi⟩;unfold Zed;rw [dif_pos q];obtain ⟨j,D,e,h1,h2⟩:=choose_spec q;cases e;have:=VB B h1;subst this;exact Wd h2 hi
theorem Zee (h:Heap):WO (λx y=>GL (Zed h x.1) (Zed h y.1)):=Yg (κ:=λx:Keyed=>Zed h x.1) (lt:=GL) Jg Ow Oh
section
variable {X:Cx}(K:FG)
noncomputable def Zef:List V->Hp->VK->Prop:=λxs H Q=>∃(p:AD)(zs:List (AD×LI)),xs=[.ref p]/\SqL K H p (zs.map λz=>V.ref z.1)/\(∀z∈zs,SqL K H z.1 (z.2.map V.int)) /\
 ∀(l:AD)(zs':List (AD×LI)),H l=none->zs'.Perm zs->(zs'.map (·.2)).Pairwise (λa b=>GL b a=false)->Q (.ref l) (upd H l (.lst (zs'.map λz=>V.ref z.1)))
theorem Yi:∀{zs:List (AD×LI)}{its:LW},Vals (zs.map λz=>V.ref z.1) its->its=zs.map λz=>Value.ref z.1
 | [],_,h=>by cases h;rfl
 | z::zs,_,h=>by
  cases h with
  | cons r h=>
   cases r;rw [Yi h]
   rfl
theorem UZ:∀(zs:List (AD×LI)),Vals (zs.map λz=>V.ref z.1) (zs.map λz=>Value.ref z.1)
 | []=>.nil
 | z::zs=>.cons rfl (UZ zs)
theorem Zeg (hu:X.A.units+64<cLine)(h:X.K=K:=by rfl):JY X (.builtin "sorted") (Zef K):=by
 subst h;intro qQ s σ H xs us Q I rv h;obtain ⟨p,zs,rfl,hq,hz,q⟩:=h;obtain ⟨u,rfl,ru⟩:=rv.one;cases ru;obtain ⟨its,r,pl,O⟩:=I.list hq;have hl:=r.length;rw [Yac] at hl O;have ei:=Yi r;have key:∀z∈zs,∃its:Array Aa,s.heap.IsList z.1 its/\IntsAre its.toList z.2:=λz L=>by
  obtain ⟨iz,rz,pz,_⟩:=I.list (hz z L);exact ⟨iz.toArray,pz.isList,Oa rz⟩
 have U:∀v∈its,∃a,∃B:Array Aa,∃ns,v=.ref a/\s.heap.IsList a B/\IntsAre B.toList ns:=λv Y=>by
  rw [ei] at Y;obtain ⟨z,L,rfl⟩:=Yal.mp Y;obtain ⟨B,h1,h2⟩:=key z L;exact ⟨z.1,B,z.2,rfl,h1,h2⟩
 have j:∀{h':Heap}{a:AD}{B:Array Aa},(∀c o,s.heap.get? c=some o->h'.get? c=some o)->s.heap.IsList a B->h'.IsList a B:=λk hl=>by
  obtain ⟨o,e,r⟩:=hl;exact ⟨o,k _ _ e,r⟩
 refine Vz (good:=λx=>∃a,∃B:Array Aa,∃ns,x.1=.ref a/\s.heap.IsList a B/\IntsAre B.toList ns) (Zee s.heap) pl.isList (by lia) U (λh' k h2 E' R q=>?_) (λh' k=>Yh λx y gx gy E' Q q=>?_) λout hp hr=>?_
 ·refine UY (T := "list") (by decide) (λv Y=>?_) h2 q;obtain ⟨a,B,ns,rfl,h1,_⟩:=U v Y;obtain ⟨o,e,c,_⟩:=j k h1;exact ⟨o,e,c⟩
 ·obtain ⟨a,B,ns,e1,h1,h2⟩:=gx;obtain ⟨c,jt,ms,e2,Z,h4⟩:=gy;simp only [e1,e2,We h1 h2,We Z h4] at q ⊢;exact Ze (xs:=B.toList) (ys:=jt.toList) (j k h1) (j k Z) h2 h4 (by rw [Ydk,Ydk];lia) q
 ·obtain ⟨o1,o2,o3⟩:=Wc hp;obtain ⟨e,he⟩:=sortedAll_at s.heap its (out.map (·.2));rw [ei] at o1;obtain ⟨N,p1,p2⟩:=JO o1;have ps:(N.map (·.2)).Pairwise (λa b=>GL b a=false):=by
   have a1:=JG hr o3;have a2:(out.toList.map (·.2)).Pairwise (λu v=>GL (Zed s.heap v) (Zed s.heap u)=false):=by
    rw [Ybs];refine a1.imp_of_mem λ{x y} hx hy D=>?_;rw [<-(o2 x hx).1,<-(o2 y hy).1];exact D
   rw [Array.toList_map] at p2;rw [<-p2,Ybs] at a2;rw [Ybs];refine a2.imp_of_mem λ{x y} hx hy D=>?_;obtain ⟨B,h1,h2⟩:=key x (p1.mem_iff.mp hx);obtain ⟨jt,Z,h4⟩:=key y (p1.mem_iff.mp hy);rw [We h1 h2,We Z h4] at D;exact D
  refine ⟨.ref _,_,I.laid (a:=s.heap.objs.size+1) (t':=s.toks) (o:=.lst (N.map λz=>V.ref z.1)) (λb o e=>sortedAll_old e) (Ydt _) ⟨by rw [Yac,p1.length_eq];exact O,(out.map (·.2)).toList,e,by rw [<-p2];exact UZ N,he⟩,rfl,q _ _ (I.hok.fresh (Ydt _)) p1 ps⟩
end
end L2
namespace L2
open PySem PySem.Spec PyProof.Rows
section
variable {prog:PP}{w:Ab}{A:Around}{E:Aa->SS->Prop}{s:SS}
noncomputable def Fall (kz:LI)(vs out:LW):Prop:=∃ps:List (Int×Aa),ps.Perm (kz.zip vs)/\out=ps.map Prod.snd/\ps.Pairwise (λp q=>q.1<=p.1)
theorem fall_of {xs:Array Keyed}(q:IntsAre j kz)(B:xs.toList.Perm (j.zip vs))(D:xs.toList.Pairwise (kle λx y=>ltI (VA x.1) (VA y.1))):Fall kz vs ((xs.toList.map (·.2)).reverse):=by
 have L:∀{l:LW}{ns:LI},IntsAre l ns->l.map VA=ns:=by
  intro l ns h
  induction h with
  | nil=>rfl
  | cons n t h ih=>rw [Yaq,ih];rfl
 refine ⟨(xs.toList.map λx=>(VA x.1,x.2)).reverse,(List.reverse_perm _).trans ?_,?_,?_⟩
 ·refine (B.map λx:Keyed=>(VA x.1,x.2)).trans (.of_eq ?_);rw [<-L q,List.zip_map_left];exact List.map_congr_left λ⟨x,y⟩ _=>rfl
 ·rw [List.map_reverse,Ydg]
  rfl
 ·rw [List.pairwise_reverse,Ybs];refine D.imp λ{x y} h=>?_;have:=Yfo h
  lia
structure ZfE (J:SS->Prop)(a b:AD):Prop where
 put:∀(s:SS)(c:AD)(f:Obj->Obj),c=a\/c=b->J s->J { s with heap:=s.heap.update c f }
noncomputable abbrev keyHeap (h:Heap)(a:AD)(vs:LW):Heap:=((h.update a (Obj.mapSeq λ_=>#[])).push (seqObj "tuple" vs.toArray 0)).push (seqObj "list" #[] 0)
theorem Zcq {α:Type}{R:α->α->Prop}:∀{l:List α},l.length<2->l.Pairwise R:=λ{l} h=>by
 cases l with
 | nil=>exact .nil
 | cons a l=>
  cases l with
  | nil=>simp
  | cons b l=>exact absurd h (by simp)
theorem OW (ha:s.heap.get? a=some (seqObj "list" vs.toArray n))(hz:vs.length<=sizeLine)(hl:kz.length=vs.length)(S:ZfE J a (s.heap.objs.size+1))(hJ:J { s with heap:=keyHeap s.heap a vs })(ai:∀(i:Nat)(v:Aa)(k:Int)(s1:SS)(R:Aa->SS->Prop)(E':Aa->SS->Prop),vs[i]?=some v->kz[i]?=some k->J s1->s.heap.objs.size+1<s1.heap.objs.size ->
   (∀t N,J N->s1.heap.objs.size<=N.heap.objs.size->(∀c o,c=a\/c=s.heap.objs.size+1->s1.heap.get? c=some o->N.heap.get? c=some o)->R (.int k t) N)->wpAny (model prog w) A (call (.ref q) [v]) R E' s1)(fin:∀(N:SS)(out:Array Aa)(c:Nat),J N->N.heap.get? a=some (seqObj "list" out c)->Fall kz vs out.toList->P (.done (.ret .none)) N) :
  wpAny (model prog w) A (Builtin.«list.sort» ⟨[.ref a],[(Str.ofString "key", .ref q),(Str.ofString "reverse", .bool true)]⟩) P E s:=by
 rw [PyProof.Rows.ksk_t2];unfold PyProof.Rows.ksk_tree;have aj:=Yah ha;refine Yaa (Yct ha rfl ?_);refine Yaa (Yfa ha rfl ?_ (by rw [Yau];exact hz) (Yat _));have ab:=get?_update_seq ha (λ_=>#[]);generalize (if ((#[]:Array Aa).size == vs.toArray.size)=true then n else n+1)=O at ab;refine Yaa (seqEpoch_at ab rfl ?_);refine Yaa (wpAny_newTuple ?_ hz);refine Yaa (Yfb ?_ (Yat _));refine Ycb ?_;have z1:((s.heap.update a (Obj.mapSeq λ_=>#[])).push (seqObj "tuple" vs.toArray 0)).objs.size=s.heap.objs.size+1:=by rw [Ybn,Heap.size_update]
 have ac:(keyHeap s.heap a vs).get? (s.heap.objs.size+1)=some (seqObj "list" #[] 0):=by rw [<-z1];exact Yaw _ rfl
 have ad:(keyHeap s.heap a vs).get? a=some (seqObj "list" #[] O):=Yae _ (Yae _ ab);have z2:(keyHeap s.heap a vs).objs.size=s.heap.objs.size+2:=by rw [Ybn,z1]
 show wpAny (model prog w) A (PyProof.Rows.ksk_rest a (.ref q) true vs.toArray O (.ref ((s.heap.update a (Obj.mapSeq λ_=>#[])).push (seqObj "tuple" vs.toArray 0)).objs.size)) P E { s with heap:=keyHeap s.heap a vs };rw [z1];generalize keyHeap s.heap a vs=h0 at hJ ac ad z2 ⊢;generalize hkS:s.heap.objs.size+1=U at *;have ae:a≠U:=by rw [<-hkS];exact Yar (Yen aj)
 unfold PyProof.Rows.ksk_rest;refine Yaa (Ydh ?_);refine Yaa ?_;rw [<-Array.forIn_toList];refine PyProof.Rows.ksk_fold (λi s1=>J s1/\U<s1.heap.objs.size/\s1.heap.get? a=some (seqObj "list" #[] O)/\∃B c,s1.heap.get? U=some (seqObj "list" B c)/\IntsAre B.toList (kz.take i)) vs.toArray.toList 0 _ ⟨hJ,by show U<h0.objs.size;lia,ad,#[],0,ac,.nil⟩ ?_ ?_
 ·rintro j x s1 Y ⟨j1,l1,a1,B,c,k1,Z⟩;have Y:vs[j]?=some x:=by simpa using Y
  have hj:j<vs.length:=(Yao.mp Y).1;have hk:kz[j]?=some kz[j]:=Yba (by lia);rw [Ydm] at Z;refine Yaa (Ydj (ai j x kz[j] s1 _ _ Y hk j1 l1 λt N j2 l2 kp=>?_));have k2:=kp U _ (.inr rfl) k1;have a2:=kp a _ (.inl rfl) a1;have il:B.size=j:=by
   have:=Z.length;rw [Yan,Ybo] at this
   lia
  refine Yaa (Yfa k2 rfl ?_ (by lia) (by show (B.push _).size<=_;rw [Ycq];lia));refine Yab ⟨rfl,S.put _ _ _ (.inr rfl) j2,by show U<(N.heap.update U _).objs.size;rw [Heap.size_update];lia,(Ycn _ _ (Ne.symm ae)).trans a2,B.push (.int kz[j] t),_,get?_update_seq k2 (·.push (.int kz[j] t)),?_⟩;rw [Yeo,Ydm,Ycf,hk];exact PyProof.Rows.ksk_snoc Z
 ·rintro s1 ⟨j1,l1,a1,B,c,k1,Z⟩;rw [show 0+vs.toArray.toList.length=kz.length by simp [hl],Ycd] at Z;have il:B.size=vs.length:=by
   have:=Z.length;rw [Yan] at this
   lia
  have af:∀v∈B.toList,∃i t,v=.int i t:=Z.all;refine Yaa (Yct k1 rfl ?_);have D:(B.zip vs.toArray).toList=B.toList.zip vs:=PyProof.Rows.ksk_zip B vs;have al:(B.zip vs.toArray).size=vs.length:=by simp [Array.size_zip,il]
  have aa:∀st:SortSt,failedOf st=none->(arrOf st).toList.Perm (B.toList.zip vs)->(arrOf st).toList.Pairwise (kle λx y=>ltI (VA x.1) (VA y.1))->wpAny (model prog w) A (PyProof.Rows.ksk_tail a true O (.ref U) st) P E s1:=by
   intro st f0 p0 r0;have am:(arrOf st).size=vs.length:=by
    have:=p0.length_eq;rw [Yan,List.length_zip,Yan] at this
    lia
   unfold PyProof.Rows.ksk_tail;refine Yaa (Yfa k1 rfl ?_ (by lia) (Yat _));refine Yaa (wpAny_letGo ?_);have a3:(s1.heap.update U (Obj.mapSeq λ_=>#[])).get? a=some (seqObj "list" #[] O):=(Ycn _ _ (Ne.symm ae)).trans a1;refine Yaa (seqEpoch_at a3 rfl ?_);refine Yaa (Yfa a3 rfl ?_ (Yat _) (by rw [if_pos rfl,Array.size_reverse,Array.size_map];lia));rw [show (O != O)=false by simp,f0];refine Yab (fin _ _ _ (S.put _ _ _ (.inl rfl) (S.put _ _ _ (.inr rfl) j1)) (get?_update_seq a3 _) ?_);rw [if_pos rfl,Yeq,Array.toList_map];exact fall_of Z p0 r0
  unfold PyProof.Rows.ksk_end;dsimp only;rw [if_pos rfl];refine Yaa (Ydh ?_);split
  ·rename_i h2;have h2:vs.length<2:=by simpa using h2
   refine Yaa (Yab ?_);refine Yaa (Ybr (Q:=λr s'=>s'=s1/\r.2=SortSt.mk' general' (B.zip vs.toArray).reverse #[] 7 none) (Yab ⟨rfl,rfl⟩) ?_ (λ_ _ z=>z));rintro ⟨_,st⟩ s' ⟨rfl,rfl⟩;refine aa _ rfl ?_ ?_
   ·show (B.zip vs.toArray).reverse.toList.Perm _;rw [Yeq,D];exact List.reverse_perm _
   ·show (B.zip vs.toArray).reverse.toList.Pairwise _;have ak:(B.zip vs.toArray).reverse.toList.length<2:=by rw [Yan,Array.size_reverse];lia
    exact Zcq ak
  ·rename_i h2;have h2:¬ vs.length<2:=by simpa using h2
   have kk:wpAny (model prog w) A (keyKind' B) (λag s'=>ag=oneType'/\s'=s1) E s1:=by
    have:B=B.toList.toArray:=by simp
    rw [this];exact UY (T := "int") (by decide) (λv hv=>by obtain ⟨i,t,rfl⟩:=af v hv;exact typeIs_int _ _ _) (by rw [Yan];lia) ⟨rfl,rfl⟩
   refine Yaa (Ybr kk ?_ (λ_ _ z=>z));rintro _ an ⟨rfl,es⟩;rw [es];have L:O5 (model prog w) A E s1 oneType' (λx y=>ltI (VA x.1) (VA y.1)) (λx=>∃i t,x.1=.int i t):=Yh λx y gx gy E' Q q=>by
    obtain ⟨i,t,O⟩:=gx;obtain ⟨j,u,e2⟩:=gy;simp only [O,e2] at q ⊢;exact oneLt_int q
   refine Yaa (Ybr (JX (st:=SortSt.mk' oneType' (B.zip vs.toArray).reverse #[] 7 none) (Q:=λ_ st=>failedOf st=none/\(arrOf st).toList.Perm (B.toList.zip vs)/\(arrOf st).toList.Pairwise (kle λx y=>ltI (VA x.1) (VA y.1))) ZfD L rfl rfl rfl (λx Y=>?_) λah p1 f1 r1=>⟨f1,?_,?_⟩) ?_ (λ_ _ z=>z))
   ·have Y:x∈(B.zip vs.toArray).reverse.toList:=Y;rw [Yeq,List.mem_reverse,D] at Y;exact af _ (List.of_mem_zip (a:=x.1) (b:=x.2) Y).1
   ·have p1:(arrOf ah).Perm (B.zip vs.toArray).reverse:=p1;refine p1.toList.trans ?_;rw [Yeq,D];exact List.reverse_perm _
   ·have p1:(arrOf ah).Perm (B.zip vs.toArray).reverse:=p1;exact JG r1 p1.size_eq
   ·rintro ⟨_,st⟩ s' ⟨rfl,f1,p1,r1⟩;exact aa st f1 p1 r1
noncomputable def upI (a:Int)(n:Nat):LI:=(List.range n).map λ(i:Nat)=>a+(i:Int)
theorem Zeh :∀{n:Nat}{acc:Array Aa},ItemsOf (λi v=>∃t,v=Value.int (a+i * 1) t) acc n->IntsAre acc.toList (upI a n):=by
 intro n acc h;have e:∀(l:LW)(b:Int),(∀(j:Nat) v,l[j]?=some v->∃t,v=Value.int (b+j) t)->IntsAre l ((List.range l.length).map λ(i:Nat)=>b+(i:Int)):=by
  intro l
  induction l with
  | nil=>intro b _;exact .nil
  | cons x l ih=>
   intro b B;obtain ⟨t,e⟩:=B 0 x rfl;subst e;rw [Ybm,List.range_succ_eq_map,Yaq,Ydg];have h2:=ih (b+1) λj v q=>by
    obtain ⟨t,e⟩:=B (j+1) v (by simpa using q);exact ⟨t,by rw [e];congr 1;lia⟩
   have D:((List.range l.length).map λ(i:Nat)=>b+1+(i:Int))=(List.range l.length).map ((λ(i:Nat)=>b+(i:Int))∘Nat.succ):=List.map_congr_left λi _=>by show b+1+(i:Int)=b+((i+1:Nat):Int);lia
   rw [D] at h2;exact .cons _ t h2
 have:=e acc.toList a λj v q=>by
  rw [Yax] at q;obtain ⟨t,e⟩:=h.2 j v q;exact ⟨t,by rw [e];congr 1;lia⟩
 rw [Yan,h.1] at this;exact this
theorem Yj:∀{vs:LW}{ns:LI}{i:Nat}{v:Aa},IntsAre vs ns->vs[i]?=some v->∃k t,ns[i]?=some k/\v=.int k t
 | _,_,i,v,.nil,h=>by simp at h
 | _,_,0,v,.cons n t _,h=>⟨n,t,rfl,by simpa using h.symm⟩
 | _,_,i+1,v,.cons n t r,h=>by
  obtain ⟨k,t',e1,e2⟩:=Yj (i:=i) r (by simpa using h);exact ⟨k,t',by simpa using e1,e2⟩
theorem WY:∀{l:LW}{ns:LI},IntsAre l ns->l.map VA=ns
 | _,_,.nil=>rfl
 | _,_,.cons n t r=>by rw [Yaq,WY r];rfl
theorem Yk:∀{l:LW},(∀v∈l,∃i t,v=.int i t)->IntsAre l (l.map VA)
 | [],_=>.nil
 | x::l,h=>by
  obtain ⟨i,t,e⟩:=h x Ybg;subst e;exact .cons i t (Yk λv j=>h v (Ybe _ j))
theorem ZaL {n:Nat}(q:A.handled=none)(B:IsRange s.heap r a b 1 t u v)(j:Builtin.Range.small a b 1=true)(D:Builtin.Range.rangeSize a b 1=n)(L:n<=1000)(N:∀h' tk (acc:Array Aa) c,(∀c o,s.heap.get? c=some o->h'.get? c=some o)->h'.get? s.heap.objs.size=some { cls:=.type "list", dict:=none,data:=.seq acc c,slots:=#[] }->IntsAre acc.toList (upI a n)->R (.ok (.ret (.ref s.heap.objs.size))) { s with heap:=h',toks:=tk }) :
  codeAny (model prog w) A (.builtin "proto.collect" ⟨[.ref r],[]⟩) R s:=by
 refine Ycz F.entry_proto_collect ?_;rw [Ydz F.plain_proto_collect _];refine Yaa (Yfb ?_ (Yat _));refine Yab ⟨Yeg F.plain_list_iadd _,Ycz F.entry_list_iadd ?_⟩;rw [Ydz F.plain_list_iadd _];have O:(s.heap.push { cls:=.type "list", data:=.seq #[] }).get? s.heap.objs.size=some { cls:=.type "list", data:=.seq #[] }:=Yaw _ rfl;exact wpAny_extend_range (A:=A) (R:=R) (s:={ s with heap:=s.heap.push { cls:=.type "list", data:=.seq #[] } }) q (Yae _ B) j D (Ybq L (by decide)) s.heap.objs.size (.ref s.heap.objs.size) 0 O λh' tk acc c' kp U Y=>
  N h' tk acc c' (λd o e=>kp d o (Yar (Yah e)) (Yae _ e)) U (Zeh Y)
theorem Xv {n:Nat}(B:A.handled=none)(D:IsRange s.heap r a b 1 t u v)(j:Builtin.Range.small a b 1=true)(L:Builtin.Range.rangeSize a b 1=n)(N:n<=1000)(O:∀h' tk (vs:LW),(∀c o,s.heap.get? c=some o->h'.get? c=some o)->s.heap.objs.size<=h'.objs.size->IntsAre vs (upI a n)->Q vs { s with heap:=h',toks:=tk }):wpAny (model prog w) A (collect (.ref r)) Q E s:=
 Yaa (wpAny_runValue (ZaL B D j L N λh' tk acc c k q U=>Yaa (wpAny_load q (Yab (O h' tk acc.toList k (Ycw (Yah q)) U)))))
theorem Vg {n:Nat}{kz:LI}{J:SS->Prop}(hh:A.in1.in1.handled=none)(hr:IsRange s.heap r a b 1 t u v)(L:Builtin.Range.small a b 1=true)(hn:Builtin.Range.rangeSize a b 1=n)(qV:n<=1000)(hl:kz.length=n)(hJ:∀h' tk,(∀c o,s.heap.get? c=some o->h'.get? c=some o)->J { s with heap:=h',toks:=tk })(put:∀(B:SS)(c:AD)(f:Obj->Obj),s.heap.objs.size<=c->J B->J { B with heap:=B.heap.update c f })(Z:∀(i:Nat)(k:Int)(t:Tok)(B:SS)(R:Aa->SS->Prop)(E':Aa->SS->Prop),kz[i]?=some k->i<n->J B ->
   (∀t D,J D->B.heap.objs.size<=D.heap.objs.size->(∀c o,s.heap.objs.size<=c->B.heap.get? c=some o->D.heap.get? c=some o)->R (.int k t) D)->wpAny (model prog w) A.in1.in1 (call (.ref q) [.int (a+(i:Int)) t]) R E' B)(fin:∀(D:SS)(l:AD)(out:Array Aa)(c:Nat)(ps:List (Int×Int)),J D->s.heap.objs.size<=l->D.heap.get? l=some (seqObj "list" out c)->IntsAre out.toList (ps.map Prod.snd)->ps.Perm (kz.zip (upI a n))->ps.Pairwise (λp q=>q.1<=p.1)->Q (.ref l) D) :
  wpAny (model prog w) A (call (.builtin "sorted") [.ref r] [(Str.ofString "key", .ref q),(Str.ofString "reverse", .bool true)]) Q E s:=by
 have aa:=Yav;refine call_function_entry_kw kind_sorted plain_sorted entry_sorted (ksk_s2 _ _ _) ?_;unfold Builtin.sorted;refine Yaa (Yab ?_);refine Yaa (Xv hh hr L hn qV λh1 tk vs k1 sz Y=>?_);have N:vs.length=n:=by
  have:=Y.length;unfold upI at this;rw [Yac,Ydo] at this;exact this
 refine Yaa (Yfb ?_ (by lia));have k2:∀c o,s.heap.get? c=some o->(h1.push { cls:=Value.type "list", data:=Data.seq vs.toArray }).get? c=some o:=λc o e=>Yae _ (k1 c o e);have eL:(h1.push { cls:=Value.type "list", data:=Data.seq vs.toArray }).get? h1.objs.size=some (seqObj "list" vs.toArray 0):=Yaw _ rfl;have zz:(h1.push { cls:=Value.type "list", data:=Data.seq vs.toArray }).objs.size=h1.objs.size+1:=Ybn ..;have j1:J { s with heap:=h1.push { cls:=Value.type "list", data:=Data.seq vs.toArray },toks:=tk }:=hJ _ tk k2;show wpAny _ _ _ _ _ { s with heap:=h1.push { cls:=Value.type "list", data:=Data.seq vs.toArray },toks:=tk };have O:∀h':Heap,(∀c o,s.heap.get? c=some o->h'.get? c=some o)->J { s with heap:=h',toks:=tk }:=λh' k=>hJ h' tk k;generalize h1.push { cls:=Value.type "list", data:=Data.seq vs.toArray }=h2 at k2 eL zz j1 ⊢;refine Yaa (Ycb (wpAny_call_entry_kw (s:={ s with heap:=h2,toks:=tk }) slot_list_sort ⟨_,eL,rfl⟩ entry_list_sort ?_ (ksk_l2 _ _ _)));refine OW (s:={ s with heap:=h2,toks:=tk }) (J:=λB=>J B) eL (by lia) (hl.trans N.symm) ⟨λB c f hc j=>put B c f (by rcases hc with rfl | rfl;exact sz;show _<=h2.objs.size+1;lia) j⟩ ?_ ?_ ?_
 ·refine O _ λc o e=>Yae _ (Yae _ ((Ycn _ _ ?_).trans (k2 c o e)));exact Ydd (Ybk (Yah e) sz)
 ·intro i v k B R E' U hk j _ hR;have hi:i<n:=by rw [<-N];exact (Yao.mp U).1
  obtain ⟨t,e⟩:∃t,v=.int (a+(i:Int)) t:=by
   obtain ⟨k',t,e1,e2⟩:=Yj Y U;unfold upI at e1;rw [Yaz,List.getElem?_range hi] at e1;exact ⟨t,by rw [e2,<-Ybl e1]⟩
  subst e;exact Z i k t B R E' hk hi j λt D j2 l2 kp=>hR t D j2 l2 λc o hc e=>kp c o (by rcases hc with rfl | rfl;exact sz;show _<=h2.objs.size+1;lia) e
 ·intro D out c j e F;obtain ⟨ps,p1,p2,p3⟩:=F;refine ⟨.none,rfl,Yab ⟨_,rfl,?_⟩⟩;refine fin D _ out c (ps.map λx=>(x.1,VA x.2)) j sz e ?_ ?_ ?_
  ·rw [Ydg,show (Prod.snd∘λx:Int×Aa=>(x.1,VA x.2))=VA∘Prod.snd from rfl,<-Ydg,<-p2];refine Yk λv U=>?_;rw [p2] at U;obtain ⟨x,hx,rfl⟩:=Yal.mp U;exact Y.all _ (List.of_mem_zip (a:=x.1) (b:=x.2) (p1.mem_iff.mp hx)).2
  ·refine (p1.map λx=>(x.1,VA x.2)).trans (.of_eq ?_);rw [<-WY Y,List.zip_map_right];exact List.map_congr_left λ⟨x,y⟩ _=>rfl
  ·rw [Ybs];exact p3
theorem Yl (jJ:A.depth<recursionLimit)(ho:s.heap.get? O=some (W.kla_obj "<lambda>" qual params body scope clos pm c' B))(U:s.heap.CodeRec (.ref c') qual)(Y:s.heap.NoLimit)(Z:scope.isCoroutine=false)(D:scope.isGenerator=false)(hk:scope.kind=.function)(j:bindArgs (W.kla_fn "<lambda>" qual params body scope clos pm (.ref c') B) ⟨[arg],[]⟩=pure [(x,arg)])(N:scope.names.lookup x=some .local)(jX:∀y∈scope.names,y.2≠.cell)(h:∀(h1:Heap)(L:AD),(∀b o,s.heap.get? b=some o->h1.get? b=some o)->s.heap.objs.size<=h1.objs.size->h1.Ns L (λy=>[(x,arg)].reverse.lookup y) ->
   wpAny (model prog w) (A.deeper (W.envX qual scope L O (.ref c') clos)) (eval body (W.envX qual scope L O (.ref c') clos)) R (λ_ _=>False) { s with heap:=h1,toks:=s.toks+1 }) :
  wpAny (model prog w) A (call (.ref O) [arg]) R E s:=by
 refine wpAny_call (W.kla_callFunE jJ ho rfl Z D rfl U ?_);rw [j];refine Yab (wpAny_newFunctionEnv jX (λy hy=>?_) (λh1 aa q=>⟨?_,?_⟩) hk)
 ·cases Yai.mp hy;exact N
 ·exact Y.fresh _ q
 ·refine W.kla_codeExpr ?_;have k1:∀b o,s.heap.get? b=some o->h1.get? b=some o:=λb o e=>q.extBut b o (Yar (Yah e)) (Yae _ e);refine Ybr (h h1 s.heap.objs.size k1 ?_ aa) (λv s' hR=>hR) λ_ _ z=>z.elim;rw [q.1,Ybn];exact Ydt _
theorem ZaM (hk:env.scope.kind=.function)(B:env.kindOf x=some .local)(D:s.heap.Ns env.locals m)(L:m x=some (.int i t))(N:env.kindOf y=some .free)(O:env.cells.lookup y=some c)(jX:s.heap.IsCell c (some (.ref l)))(hl:s.heap.IsList l items)(h0:2<=i)(h1:i<2 ^ 62)(U:items[(i-2).toNat]?=some (.ref p))(hp:s.heap.IsTuple p vals)(hv:vals[0]?=some (.int k u))(hz:vals.size<=sizeLine)(Y:(x == ("__debug__" : Str))=false)(Z:(y == ("__debug__" : Str))=false)(aa:(y == ("__classdict__" : Str))=false)(q:∀tk,Q (.int k u) { s with toks:=tk }) :
  wpAny (model prog w) A (eval (.Subscript (.Subscript (.Name y p1) (.BinOp (.Name x p2) .Sub (.Constant (.int 2) d1 p3) p4) p5) (.Constant (.int 0) d2 p6) p7) env) Q E s:=by
 refine Subscript_ (Subscript_ (wpAny_Name (wpAny_loadName_free hk N O jX ?_ aa) Z));refine wpAny_BinOp (wpAny_Name (wpAny_loadName_local hk B D L ?_) Y);refine wpAny_Constant_int ?_;refine PyProof.Rows.sub_int ?_;refine item_listR hl (by lia) (by lia) U ?_ rfl;refine wpAny_Constant_int ?_;have ab:=Yav;have ac:0<vals.size:=by
  have:=Yft.mp hv;exact this.1
 exact subscriptTail_builtinR (x:=.int k u) hp.typeIs slot_tuple_getitem.lookup (getItem_tuple (j:=0) (Q:=λr s'=>r=.int k u/\Q r s') hp (by lia) (by lia) (by rw [seqIndex_of (by lia) (by lia)];rfl) hv ⟨rfl,q _⟩) rfl
end
noncomputable def SameL (P:AD)(H H':Hp):Prop:=∀a o,a≠P->H a=some o->H' a=some o
theorem SameL.of (s:Same H H'):SameL P H H':=λa o _ e=>s a o e
theorem SameL.trans (a:SameL P H H')(b:SameL P H' H''):SameL P H H'':=λc o n e=>b c o n (a c o n e)
noncomputable def Zei (qual:Str)(j:Obj):Prop:=∃vs t,j.data=.fields vs/\vs[1]?=some (.str qual t)
noncomputable def LamOn (P:AD)(j col:Nat)(qual:Str)(H:Hp)(c:AD):Prop:=H P=some (.tbl #[rawInt j,rawInt col,.ref c])/\∃q,H c=some (.frz q (.own c))/\Zei qual q
noncomputable def LamSt (P:AD)(j col:Nat)(qual:Str)(H:Hp):Prop:=H P=some (.tbl #[])\/∃c,LamOn P j col qual H c
theorem LamOn.same (h:LamOn P j col qual H c)(s:Same H H'):LamOn P j col qual H' c:=⟨s _ _ h.1,h.2.elim λq z=>⟨q,s _ _ z.1,z.2⟩⟩
theorem LamSt.same (h:LamSt P j col qual H)(s:Same H H'):LamSt P j col qual H':=h.imp (λe=>s _ _ e) λ⟨c,z⟩=>⟨c,z.same s⟩
section
variable {X:Cx}
noncomputable def ZiA (P:AD)(qual:Str)(params:Arguments)(body:Expr)(scope:Scope)(clos:List (Str×AD))(pos:Pos)(pm:Aa):TE:=λσ H Q=>LamSt P pos.line pos.col qual H /\
 ∀(f c:AD)(ctv:Aa)(H':Hp),SameL P H H'->LamOn P pos.line pos.col qual H' c->H f=none->H' f=some (.frz (W.kla_obj "<lambda>" qual params body scope clos pm c ctv) (.own f))->Q (.ref f) H'
theorem Zdj (aa:closureFor scope X.env=pure clos)(B:X.env.code=.ref c)(C:W.CodeHd X.base c P)(hb:X.base.BuiltinsAt X.mg P)(hq:X.env.qual ++ "<lambda>" = qual)(ab:defaultsOf params X.env=([],[]):=by rfl):PE X (.Lambda params body scope pos) (ZiA P qual params body scope clos pos ((X.mg "__name__").getD .none)):=by
 intro qQ s σ H Q I h;obtain ⟨st,q⟩:=h;refine W.kla_eval ab ?_;rw [hq];have hg:s.heap.Ns mainGlobals X.mg:=I.ok.mod.glob.keeps I.bk;have hB:s.heap.BuiltinsAt X.mg P:=by
  obtain ⟨bm,o,h1,h2,h3,h4,h5,h6⟩:=hb;exact ⟨bm,o,h1,h2,h3,h4,I.bk _ _ h5,h6⟩
 rcases st with U | ⟨c',e1,oc,e2,vs,tq,N,hv⟩
 ·have hP:s.heap.get? P=some (W.tabObj #[]):=I.hok P _ U;have ah:mainGlobals≠P:=λz=>by
   obtain ⟨o,es,ep,e,N,_⟩:=hg;rw [z,hP] at e;cases e;cases N
  refine W.kla_makeFunction (mg:=X.mg) aa I.ok.glob hg B (C.keeps I.bk) hP trivial rfl ah hB λc' j h' tk hx D ad ae Y=>?_;obtain ⟨c2,oc,vs,tq,ec,ag,N,hv⟩:=ae;cases ec;have ai:c'≠P:=λz=>by rw [z] at D;exact Ycm _ (Ybk (Yah hP) D)
  have aj:P<h'.objs.size:=Yah Y;have nc:H c'=none:=I.hok.fresh D;have L:s.heap.objs.size<=h'.objs.size:=Ybq D (Ycw ad);have nf:H h'.objs.size=none:=I.hok.fresh L;have ak:c'≠h'.objs.size:=Yar ad;have al:P≠h'.objs.size:=Yar aj;generalize hH':upd (upd (upd H P (.tbl #[rawInt pos.line,rawInt pos.col,.ref c'])) c' (.frz oc (.own c'))) h'.objs.size (.frz (W.kla_obj "<lambda>" qual params body scope clos ((X.mg "__name__").getD .none) c' j) (.own h'.objs.size))=H';have aP:H' P=some (.tbl #[rawInt pos.line,rawInt pos.col,.ref c']):=by rw [<-hH',Gj al,Gj (Ne.symm ai),Gc]
  have ac:H' c'=some (.frz oc (.own c')):=by rw [<-hH',Gj ak,Gc]
  have af:H' h'.objs.size=some (.frz (W.kla_obj "<lambda>" qual params body scope clos ((X.mg "__name__").getD .none) c' j) (.own h'.objs.size)):=by rw [<-hH',Gc]
  have ao:∀b,b≠P->b≠c'->b≠h'.objs.size->H' b=H b:=λb h1 h2 h3=>by rw [<-hH',Gj h3,Gj h2,Gj h1]
  have Z:SameL P H H':=λb o hb e=>by
   rw [ao b hb (λz=>by rw [z,nc] at e;cases e) (λz=>by rw [z,nf] at e;cases e)];exact e
  have kp:∀b o,b≠P->s.heap.get? b=some o->(h'.push (W.kla_obj "<lambda>" qual params body scope clos ((X.mg "__name__").getD .none) c' j)).get? b=some o:=λb o hb e=>Yae _ (hx b o hb e);have nP:∀b,H b=none->b≠P:=λb n z=>by rw [z,U] at n;cases n
  have I':Inv X qQ σ H' { s with heap:=h'.push (W.kla_obj "<lambda>" qual params body scope clos ((X.mg "__name__").getD .none) c' j),toks:=tk }:=by
   refine I.un ⟨λb o e n _ _=>kp b o (nP b n) e,λb o e n _ _=>⟨o.slots,kp b o (nP b n) e⟩,λb o e n _=>?_,λb o e _=>?_,λb ys e=>Z b _ (λz=>by rw [z,U] at e;cases e) e,λb o u e=>Z b _ (λz=>by rw [z,U] at e;cases e) e,λb ps e=>?_⟩ λb o e=>?_
   ·rw [ao b (nP b n) (Yar (Ybk (Yah e) D)) (Yar (Ybk (Yah e) L))];exact n
   ·by_cases z:b=P
    ·rw [z];exact ⟨_,Yae _ Y⟩
    ·exact ⟨o,kp b o z e⟩
   ·by_cases z:b=P
    ·rw [z,U] at e;cases e;exact ⟨_,by rw [z];simpa using aP⟩
    ·exact ⟨#[],by rw [Z b _ z e];simp⟩
   ·by_cases z:b=P
    ·rw [z,aP] at e;cases e;rw [z];exact Yae _ Y
    ·by_cases z2:b=c'
     ·rw [z2,ac] at e;cases e;rw [z2];exact ⟨Yae _ ag,_,Yae _ ag⟩
     ·by_cases z3:b=h'.objs.size
      ·rw [z3,af] at e;cases e;rw [z3];exact ⟨Yaw _ rfl,_,Yaw _ rfl⟩
      ·rw [ao b z z2 z3] at e;refine (I.hok b o e).stay (λd u N O=>kp d u ?_ O) (λd O=>Z d _ (λy=>by rw [y,U] at O;cases O) O) λd ys O=>Z d _ (λy=>by rw [y,U] at O;cases O) O;rcases N with rfl | N
       ·exact z
       ·exact λy=>by rw [y,U] at N;cases N
  exact ⟨.ref h'.objs.size,H',I',rfl,q _ c' j H' Z ⟨aP,oc,ac,vs,tq,N,hv⟩ nf af⟩
 ·have hP:s.heap.get? P=some (W.tabObj #[rawInt pos.line,rawInt pos.col,.ref c']):=I.hok P _ e1;refine W.kla_makeFunctionHit (cv:=.ref c') (mg:=X.mg) aa I.ok.glob hg B (C.keeps I.bk) hP trivial ?_ hB λj h' tk hk L=>?_
  ·simp [codeAmong,rawInt]
  ·have nf:H h'.objs.size=none:=I.hok.fresh L;have I':=I.laid (a:=h'.objs.size) (o:=.frz (W.kla_obj "<lambda>" qual params body scope clos ((X.mg "__name__").getD .none) c' j) (.own h'.objs.size)) (h':=h'.push (W.kla_obj "<lambda>" qual params body scope clos ((X.mg "__name__").getD .none) c' j)) (t':=tk) (λb o e=>Yae _ (hk b o e)) L ⟨Yaw _ rfl,_,Yaw _ rfl⟩;have sm:Same H (upd H h'.objs.size (.frz (W.kla_obj "<lambda>" qual params body scope clos ((X.mg "__name__").getD .none) c' j) (.own h'.objs.size))):=Same.new nf;exact ⟨.ref h'.objs.size,_,I',rfl,q _ c' j _ (.of sm) (LamOn.same ⟨e1,oc,e2,vs,tq,N,hv⟩ sm) nf Gc⟩
theorem VC {id:String}{r:St->List V->List V->Hp->VK->Prop}(N:∀(qQ:List (AD×Obj))(s:SS)(σ:St)(H:Hp)(xs:List V)(us:LW)(zs:List V)(ws:LW)(Q:VK),Inv X qQ σ H s->Vals xs us->Vals zs ws->r σ xs zs H Q->wpAny (model X.prog X.w) X.A (call (.builtin id) us (ks.zip ws)) (EP X qQ σ Q) X.xe s)(O:Gl X x)(U:X.mg x=none)(Y:bootBuiltins x=some (.builtin id))(ha:PA X (e::es) t)(j:PK X kws tk)(q:(backToKw pos (keywordEach kws X.env)).filterMap (·.1)=ks:=by rfl)(Z:x ≠ "__name__" := by decide)(B:(x == ("__debug__" : Str))=false:=by decide)(he:backTo pos (starEach (e::es) X.env)=(false,eval e X.env)::backTo pos (starEach es X.env):=by rfl)(D:(backTo pos (starEach (e::es) X.env)).any (·.1)=false:=by rfl)(qK:(backToKw pos (keywordEach kws X.env)).all (·.1.isSome)=true:=by rfl)(L:(backToKw pos (keywordEach kws X.env)).any (·.1.isNone)=false:=by rfl) :
  PE X (.Call (.Name x p) (e::es) kws pos) (λσ H Q=>t σ H λvs H1=>tk σ H1 λzs H2=>r σ vs zs H2 Q):=by
 intro qQ s σ H Q I h;refine Yej (Ol I O U Y ?_ Z B);refine PyProof.Rows.callWith_kw (thG (ha pos qQ s σ H _ I h) λus s1 vs H1 I1 r1 q1=>thG (j pos qQ s1 σ H1 _ I1 q1) λws s2 zs H2 I2 r2 q2=>?_) he D qK L;rw [q];exact N qQ s2 σ H2 vs us zs ws Q I2 r1 r2 q2
noncomputable def ZhI (K:FG)(j:Nat)(qual:Str)(params:Arguments)(body:Expr)(scope:Scope)(clos:List (Str×AD))(pm:Aa):St->List V->List V->Hp->VK->Prop:=λσ xs zs H Q=>
 ∃(r f c nl:AD)(oc:Obj)(ctv:Aa)(n:Nat)(ts:List (AD×Int×List V)),xs=[.ref r]/\zs=[.ref f,.bl true]/\H r=some (.rng 2 ((n:Nat)+2))/\n<=1000 /\
  H f=some (.frz (W.kla_obj "<lambda>" qual params body scope clos pm c ctv) (.own f))/\H c=some (.frz oc (.own c))/\Zei qual oc/\σ[j]?=some (some (.ref nl))/\SqL K H nl (ts.map λt=>V.ref t.1)/\ts.length=n/\(∀t∈ts,SqT K H t.1 (V.int t.2.1::t.2.2)) /\
  ∀(l:AD)(ps:List (Int×Int)),H l=none->ps.Perm ((ts.map (·.2.1)).zip (upI 2 n))->ps.Pairwise (λp q=>q.1<=p.1)->Q (.ref l) (upd H l (.lst ((ps.map Prod.snd).map V.int)))
theorem ZaN {K:FG}(hK:X.K=K)(hc:X.calm=true)(jJ:X.A.in1.in1.depth<recursionLimit)(hN:X.N[j]?=some y)(hv:Vis X.env.scope y)(af:X.env.kindOf y=some .cell)(ag:X.env.cells.lookup y=some cc)(ah:scope.isCoroutine=false)(Y:scope.isGenerator=false)(hk:scope.kind=.function)(U:∀(c:AD)(ctv arg:Aa),bindArgs (W.kla_fn "<lambda>" qual params (.Subscript (.Subscript (.Name y p1) (.BinOp (.Name x p2) .Sub (.Constant (.int 2) d1 p3) p4) p5) (.Constant (.int 0) d2 p6) p7) scope [(y,cc)] pm (.ref c) ctv) ⟨[arg],[]⟩=pure [(x,arg)])(Z:scope.names.lookup x=some .local)(ai:scope.names.lookup y=some .free)(jX:∀z∈scope.names,z.2≠.cell)(aj:(x == ("__debug__" : Str))=false)(ak:(y == ("__debug__" : Str))=false)(al:(y == ("__classdict__" : Str))=false)(qQ:List (AD×Obj))(s:SS)(σ:St)(H:Hp)(xs:List V)(us:LW)(zs:List V)(ws:LW)(Q:VK)(I:Inv X qQ σ H s)(rx:Vals xs us)(rz:Vals zs ws)(h:ZhI K j qual params (.Subscript (.Subscript (.Name y p1) (.BinOp (.Name x p2) .Sub (.Constant (.int 2) d1 p3) p4) p5) (.Constant (.int 0) d2 p6) p7) scope [(y,cc)] pm σ xs zs H Q) :
  wpAny (model X.prog X.w) X.A (call (.builtin "sorted") us (([Str.ofString "key", Str.ofString "reverse"]:List Str).zip ws)) (EP X qQ σ Q) X.xe s:=by
 subst hK;obtain ⟨r,f,c,nl,oc,ctv,n,ts,rfl,rfl,er,hn,ef,ec,⟨am,tq,an,ao⟩,eσ,hq,aa,ht,q⟩:=h;obtain ⟨u,rfl,ru⟩:=rx.one;cases ru;obtain ⟨u1,u2,rfl,ap,aq⟩:=rz.two;cases ap;cases aq;obtain ⟨t0,t1,t2,eR⟩:=I.hok r _ er;have ay:=Yav.symm;have D:∀(h1:Heap)(tk:Nat),(∀b o,s.heap.get? b=some o->h1.get? b=some o)->Inv X qQ σ H { s with heap:=h1,toks:=tk }:=λh1 tk k=>I.kept (t':=tk) k;show wpAny (model X.prog X.w) X.A (call (.builtin "sorted") [.ref r] [(Str.ofString "key", .ref f),(Str.ofString "reverse", .bool true)]) (EP X qQ σ Q) X.xe s;refine Vg (kz:=ts.map (·.2.1)) (n:=n) (J:=λs1=>∃h1 tk,s1={ s with heap:=h1,toks:=tk }/\∀b o,s.heap.get? b=some o->h1.get? b=some o) (I.ok.hd hc) eR (small_one (by lia) (by lia) (by lia) (by lia)) (by rw [rangeSize_one];split <;> lia) hn (by rw [Yac];exact aa)
  (λh1 tk k=>⟨h1,tk,rfl,k⟩) ?_ ?_ ?_
 ·rintro s1 d g hd ⟨h1,tk,rfl,k⟩;exact ⟨_,tk,rfl,λb o e=>(Ycn _ _ (Ydd (Ybk (Yah e) hd))).trans (k b o e)⟩
 ·rintro i k t s1 R E' O hi ⟨h1,tk,rfl,kp⟩ hR;have I1:=D h1 tk kp;obtain ⟨B,ab,rfl⟩:∃B,ts[i]?=some B/\B.2.1=k:=by
   rw [Yaz] at O;cases z:ts[i]? with
   | none=>rw [z] at O;cases O
   | some B=>rw [z] at O;exact ⟨B,rfl,Ybl O⟩
  have of:h1.get? f=some (W.kla_obj "<lambda>" qual params (.Subscript (.Subscript (.Name y p1) (.BinOp (.Name x p2) .Sub (.Constant (.int 2) d1 p3) p4) p5) (.Constant (.int 0) d2 p6) p7) scope [(y,cc)] pm c ctv):=(I1.hok f _ ef).1;have ar:h1.get? c=some oc:=(I1.hok c _ ec).1;refine Yl (s:={ s with heap:=h1,toks:=tk }) (x:=x) jJ of ⟨c,oc,am,tq,rfl,ar,an,ao⟩ (I1.ok.mod.nolimit.keeps I1.bk) ah Y hk (U _ _ _) Z jX λh2 L k2 sz as=>?_;have I2:Inv X qQ σ H { s with heap:=h2,toks:=tk+1 }:=D h2 (tk+1) λb o e=>k2 b o (kp b o e);obtain ⟨m,hm,lk⟩:=I2.loc;obtain ⟨u,ru,lu⟩:=lk j y _ hN eσ hv;cases ru;have au:h2.IsCell cc (some (.ref nl)):=by
   rcases lu with ⟨z,_⟩ | ⟨_,c2,z1,z2⟩
   ·rw [af] at z;cases z
   ·rw [ag] at z1;cases z1;exact z2
  obtain ⟨its,rv,pl,hz⟩:=I2.list hq;obtain ⟨ui,gi,ri⟩:=rv.get (show (ts.map λt=>V.ref t.1)[i]?=some (V.ref B.1) by rw [Yaz,ab];rfl);cases ri;obtain ⟨ac,ad,av,aw⟩:=I2.tuple (ht B (Ybf ab));obtain ⟨uk,gk,rk⟩:=ad.get (show (V.int B.2.1::B.2.2)[0]?=some (V.int B.2.1) from rfl);obtain ⟨tu,rfl⟩:=rk;refine ZaM (m:=λz=>[(x,Value.int (2+(i:Int)) t)].reverse.lookup z) (i:=2+(i:Int)) (k:=B.2.1) (u:=tu) (t:=t) (c:=cc) (l:=nl) (p:=B.1) (items:=its.toArray) (vals:=ac.toArray) hk Z as (by simp) ai (by simp) au pl.isList (by lia) (by lia) ?_ av ?_ ?_ aj ak al λax=>?_
  ·rw [show (2+(i:Int)-2).toNat=i by lia];simpa using gi
  ·simpa using gk
  ·rw [Yau,<-ad.length];exact aw
  ·exact hR tu _ ⟨h2,ax,rfl,λb o e=>k2 b o (kp b o e)⟩ sz λb o _ e=>k2 b o e
 ·rintro s2 l out cn ps ⟨h1,tk,rfl,kp⟩ hl eL hi pm pw;refine ⟨.ref l,_,I.laid (a:=l) (o:=.lst ((ps.map Prod.snd).map V.int)) (h':=h1) (t':=tk) kp hl ⟨?_,out.toList,cn,UM hi,by simpa [seqObj] using eL⟩,rfl,q l ps (I.hok.fresh hl) pm pw⟩;have ae:=pm.length_eq;rw [List.length_zip,Yac,aa] at ae;rw [Yac,Yac,ae]
  lia
end
section
variable {P:PP}{w:Ab}{K:FG}{mg:Str->Option Aa}{base:Heap}
theorem Fun.okC {st:Stmt}(F:Fun K x qual st f fd)(L:fd.code=.ref c)(S:Gn N ps (Gf st))(len:∀vs H Q E,sp vs H Q E->vs.length=ps.length)(O:∀(A:Around)(outer:List Env)(s:SS)(H:Hp)(vs:List V)(Q:VK)(E:XK),Room k (A.deeper (envOfC qual (Gf st) s.heap.objs.size f (.ref c)))->sp vs H Q E ->
   ∃t,PSs (YT CX0 P w K mg base N qual (Gf st) f (.ref c) A outer s H E).nox (GR st) t/\t { nx:=λ_ H'=>Q .non H',rt:=Q } (start N vs) H):GE P w K mg base CX0 (k+1) f fd ps sp:=by
 obtain ⟨oc,od,kV,U,pm,an,j,ct,Y,rfl,Z,B⟩:=F.ex;have e:j=.ref c:=L;subst e;refine ZS Z B S len λA outer s H vs Q E hr D=>?_;obtain ⟨t,h,q⟩:=O A outer s H vs Q E hr D;exact ⟨t,h.nox,q⟩
theorem SameL.lst {P:AD}{H H':Hp}{a:AD}{xs:List V}{ps:Array Aa}(s:SameL P H H')(j:H P=some (.tbl ps))(e:H a=some (.lst xs)):H' a=some (.lst xs):=s a _ (λz=>by rw [z,j] at e;cases e) e
theorem SameL.tup {P:AD}{H H':Hp}{a:AD}{xs:List V}{ps:Array Aa}(s:SameL P H H')(j:H P=some (.tbl ps))(e:H a=some (.tup xs)):H' a=some (.tup xs):=s a _ (λz=>by rw [z,j] at e;cases e) e
theorem SameL.dK {P:AD}{H H':Hp}{a:AD}{xs:List (Key×V)}{ps:Array Aa}(s:SameL P H H')(j:H P=some (.tbl ps))(e:H a=some (.dK xs)):H' a=some (.dK xs):=s a _ (λz=>by rw [z,j] at e;cases e) e
theorem LamSt.tbl {P:AD}(h:LamSt P j col qual H):∃ps,H P=some (.tbl ps):=by
 rcases h with h | ⟨c,h,_⟩
 ·exact ⟨_,h⟩
 ·exact ⟨_,h⟩
theorem Trs.sameL {P:AD}{H H':Hp}{ps:Array Aa}(s:SameL P H H')(hP:H P=some (.tbl ps)):∀{xs:List V}{ts:List Tri},Trs H xs ts->Trs H' xs ts
 | _,_,.nil=>.nil
 | _,_,.cons e r=>.cons (s.tup hP e) (Trs.sameL s hP r)
theorem SameL.free {P p:AD}(s:SameL P H H')(B:H P=some (.tbl ps))(j:∃qs,H' P=some (.tbl qs))(h:H' p=none):H p=none:=by
 cases e:H p with
 | none=>rfl
 | some o=>
  by_cases z:p=P
  ·obtain ⟨qs,q⟩:=j;rw [z,q] at h;cases h
  ·rw [s p o z e] at h;cases h
theorem SameL.put {P p:AD}(s:SameL P H H')(h:H p=none):SameL P H (upd H' p o):=λa u n e=>Gm (s a u n e) (λz=>by rw [z,h] at e;cases e)
end
end L2
namespace L2
open PySem PySem.Spec PyProof.Rows Classical
section
variable {prog:PP}{w:Ab}{A:Around}{E:Aa->SS->Prop}{s:SS}{b:Keyed->Keyed->Bool}{good:Keyed->Prop}
theorem ZaO (h:∀x y,good x->good y->∀{j:Aa->SS->Prop}{Q:Bool->SS->Prop},Q (b x y) s->wpAny (model prog w) A (keyLt' (tuples' true) x.1 y.1) Q j s):O5 (model prog w) A E s (tuples' true) b good:=by
 intro x y st Q B D L q;rw [lt'_eq];refine Yad (wpS_get ?_);refine Yad (wpS_lift ?_);rw [L];exact Ydj (h x y B D ⟨rfl,Yag q⟩)
theorem Ym {Q:Bool->SS->Prop}{fin:Bool}:∀{xs ys:LW}{ns ms:LI}(i:Nat),IntsAre xs ns->IntsAre ys ms->fin=decide (ns.length<ms.length)->Q (GL ns ms) s->W.KatLex prog w A true fin Q (xs.zip ys) i s
 | _,_,_,_,i,.nil,hy,hf,q=>by
  refine W.kat_nil ?_;cases hy with
  | nil=>rw [hf];exact q
  | cons m u hy=>rw [hf];simpa [GL] using q
 | _,_,_,_,i,.cons n t hx,.nil,hf,q=>by
  refine W.kat_nil ?_;rw [hf];simpa [GL] using q
 | _,_,_,_,i,.cons (vs:=xs) (ns:=ns) n t hx,.cons (vs:=ys) (ns:=ms) m u hy,hf,q=>by
  rw [List.zip_cons_cons];refine W.kat_cons (wpAny_eqBool_int ?_);unfold GL at q;refine W.kat_go (λj=>W.kat_yes (Ym (i+1) hx hy ?_ ?_)) λj=>W.kat_no ?_
  ·rw [hf];simp
  ·have j:n=m:=by simpa using j
   rw [if_pos j] at q;exact q
  ·have j:n≠m:=by simpa using j
   rw [if_neg j] at q;cases hc:(true && i == 0) with
   | true=>exact oneLt_int q
   | false=>exact W.kat_one _ _ (PyProof.Rows.lt_int q)
noncomputable def Zej (h:Heap)(v:Aa):LI:=if q:∃ns a its,v=.ref a/\h.IsTuple a its/\IntsAre its.toList ns then choose q else []
theorem U0 {h:Heap}(h1:h.IsTuple a xs)(h2:h.IsTuple a ys):xs=ys:=by
 obtain ⟨o,e,_,n,d⟩:=h1;obtain ⟨o',j,_,B,q⟩:=h2;rw [e] at j;cases j;rw [d] at q;cases q
 rfl
theorem Wf (B:h.IsTuple a its)(hi:IntsAre its.toList ns):Zej h (.ref a)=ns:=by
 have q:∃ns j its,Value.ref a=.ref j/\h.IsTuple j its/\IntsAre its.toList ns:=⟨ns,a,its,rfl,B,hi⟩;unfold Zej;rw [dif_pos q];obtain ⟨j,D,e,h1,h2⟩:=choose_spec q;cases e;have:=U0 B h1;subst this;exact Wd h2 hi
theorem ZfF (h:Heap):WO (λx y=>GL (Zej h x.1) (Zej h y.1)):=Yg (κ:=λx:Keyed=>Zej h x.1) (lt:=GL) Jg Ow Oh
end
section
variable {prog:PP}{w:Ab}{A:Around}{E:Aa->SS->Prop}{s:SS}
theorem ZaP {β:Type}{f:Aa×Aa->β->Sem (ForInStep β)}{c0:β}{cR:Bool->β}{Q:β->SS->Prop}(feq:∀(x:Int)(t u:Tok){Q:ForInStep β->SS->Prop},Q (.yield c0) s->wpAny (model prog w) A (f (.int x t,.int x u) c0) Q E s)(fne:∀(x y:Int)(t u:Tok){Q:ForInStep β->SS->Prop},x≠y->Q (.done (cR (decide (x<y)))) s->wpAny (model prog w) A (f (.int x t,.int y u) c0) Q E s) :
  ∀{xs ys:LW}{ns ms:LI},IntsAre xs ns->IntsAre ys ms->Q (cR (GL ns ms)) s->(decide (ns.length<ms.length)=GL ns ms->Q c0 s)->wpAny (model prog w) A (forIn (xs.zip ys) c0 f) Q E s
 | _,_,_,_,.nil,hy,_,q=>by
  rw [List.zip_nil_left,List.forIn_nil];refine Yab (q ?_);cases hy <;> simp [GL]
 | _,_,_,_,.cons n t hx,.nil,_,q=>by
  rw [List.zip_nil_right,List.forIn_nil];exact Yab (q (by simp [GL]))
 | _,_,_,_,.cons n t hx,.cons m u hy,q1,q2=>by
  rw [List.zip_cons_cons,List.forIn_cons];by_cases e:n=m
  ·subst e;refine Yaa (feq n t u ?_);dsimp only;unfold GL at q1 q2;rw [if_pos rfl] at q1 q2;exact ZaP feq fne hx hy q1 λz=>q2 (by rw [<-z];simp)
  ·refine Yaa (fne n m t u e ?_);dsimp only;unfold GL at q1;rw [if_neg e] at q1;exact Yab q1
theorem Yn (ha:s.heap.IsTuple a xs)(N:s.heap.IsTuple b ys)(B:IntsAre xs.toList ns)(D:IntsAre ys.toList ms)(h:P (.done (.ret (.bool (GL ns ms)))) s) :
  wpAny (model prog w) A (Builtin.«tuple.__lt__» ⟨[.ref a,.ref b],[]⟩) P E s:=by
 obtain ⟨oa,O,ca,na,U⟩:=ha;obtain ⟨Y,L,cb,nb,Z⟩:=N;show wpAny _ _ (isInstance (.ref b) (.type "tuple") >>= _) _ _ s;refine Yaa (Yew (T := "tuple") ⟨Y,L,cb⟩ isSubtype_tuple_tuple ?_);simp only [Bool.not_true,Yem,Ycy];refine Yaa (wpAny_tupleItemsOf O U (Yaa (wpAny_tupleItemsOf L Z (Yaa ?_))));refine ZaP (cR:=λc=>(some (PySem.Fin.done (.ret (.bool c))),())) ?_ ?_ B D ?_ ?_
 ·intro x t u Q q;refine Yaa (wpAny_eqBool_int ?_);rw [show (x == x)=true from Yff _];simp only [Bool.not_true,Yem,Ycy];exact Yab q
 ·intro x y t u Q j q;refine Yaa (wpAny_eqBool_int ?_);rw [show (x == y)=false by rw [Yea];exact j];simp only [Bool.not_false,if_true];exact Yaa (Ydh (Yaa (lt_int (Yaa (Yab (Yab q))))))
 ·exact Yab h
 ·intro z;refine Yab ?_;have e:Builtin.Tuple.tupleCompareSizes .Lt xs.size ys.size=.bool (GL ns ms):=by
   rw [<-z,<-Jf B,<-Jf D,Yan,Yan]
   rfl
  show P (.done (.ret (Builtin.Tuple.tupleCompareSizes .Lt xs.size ys.size))) s;rw [e];exact h
theorem Zdk (ha:s.heap.IsTuple a xs)(j:s.heap.IsTuple b ys)(B:IntsAre xs.toList ns)(D:IntsAre ys.toList ms)(L:A.units<cLine)(h:Q (.bool (GL ns ms)) s):wpAny (model prog w) A (richCompare .Lt (.ref a) (.ref b)) Q E s:=by
 have q:s.TypeIs (.ref a) "tuple" := ha.elim λo z=>⟨o,z.1,z.2.1⟩;have N:s.TypeIs (.ref b) "tuple" := j.elim λo z=>⟨o,z.1,z.2.1⟩;exact wpAny_richCompare_same_room (op:=.Lt) q N F.slot_tuple_lt (Ycc F.slot_tuple_lt q F.entry_tuple_lt (Yn ha j B D ⟨_,rfl,(λe=>nomatch e),h⟩) (F.args_tuple_lt_2 _ _)) L
theorem WZ (ha:s.heap.IsTuple a xs)(j:s.heap.IsTuple c ys)(q:IntsAre xs.toList ns)(B:IntsAre ys.toList ms)(D:A.units<cLine)(h:Q (GL ns ms) s) :
  wpAny (model prog w) A (oneLt' o (.ref a) (.ref c)) Q E s:=by
 cases o with
 | true=>
  rw [oneLt'_eq];dsimp only;rw [if_pos rfl];refine Yaa (wpAny_cRoom D ?_);have L:s.TypeIs (.ref a) "tuple" := ha.elim λo z=>⟨o,z.1,z.2.1⟩;refine Yaa (wpAny_callSpecialIfBound?_slot L F.slot_tuple_lt (Ycc F.slot_tuple_lt L F.entry_tuple_lt (Yn ha j q B ⟨_,rfl,?_⟩) (F.args_tuple_lt_2 _ _)));show wpAny _ A (truthOfDropped (.bool (GL ns ms))) Q E s;exact Yeb h
 | false=>exact W.kat_one _ _ (Zdk ha j q B D h)
noncomputable def Zdl (h:Heap):Aa->Option Aa
 | .ref a=>(h.get? a).bind λo=>match o.data with
  | .seq its _=>its[0]?
  | _=>none
 | _=>none
theorem Wg (t:h.IsTuple a its):Zdl h (.ref a)=its[0]?:=by
 obtain ⟨o,e,_,n,d⟩:=t;show (h.get? a).bind _=_;rw [e];simp only [Option.bind_some,d]
noncomputable def kdT (h:Heap)(vs:LW):SortKind:=if ((vs[0]?).bind (Zdl h)).isSome then general' else oneType'
theorem Wh {R:SortKind->SS->Prop}(h:∀v∈vs,∃a,∃its:Array Aa,v=.ref a/\s.heap.IsTuple a its)(h2:2<=vs.length)(N:∃v∈vs,Zdl s.heap v=none)(q:R (kdT s.heap vs) s):wpAny (model prog w) A (keyKind' vs.toArray) R E s:=by
 rw [keyKind'_eq,List.mapM_toArray];have ty:∀v∈vs,s.TypeIs v "tuple" := λv j=>by
  obtain ⟨a,its,rfl,o,e,c,_⟩:=h v j;exact ⟨o,e,c⟩
 refine Yaa (OV (JP (g:=Zdl s.heap) (λv j Q q=>?_) ?_))
 ·obtain ⟨a,its,rfl,t⟩:=h v j;rw [Wg t] at q;obtain ⟨o,e,c,n,d⟩:=t;show wpAny _ _ (typeOf _ >>= _) _ _ s;refine Yaa (Yec (ty _ j) ?_);rw [if_neg (by decide)];exact Yaa (Yct e d (Yab q))
 ·obtain ⟨B,D,rest,rfl⟩:∃B D rest,vs=B::D::rest:=by
   match vs,h2 with
   | B::D::rest,_=>exact ⟨B,D,rest,rfl⟩
  rw [if_neg (by
   intro z;obtain ⟨v,j,e⟩:=N;have:=List.all_eq_true.mp (by simpa using z:(((B::D::rest).map (Zdl s.heap)).all λx=>x.isSome)=true) _ (Yal.mpr ⟨v,j,rfl⟩);rw [e] at this;cases this)]
  unfold kdT at q;simp only [List.getElem?_cons_zero,Option.bind_some] at q;by_cases L:(Zdl s.heap B).isSome=true
  ·rw [if_pos L] at q;rw [if_pos (by simpa using L)];exact Yab q
  ·rw [if_neg L] at q;rw [if_neg (by simpa using L)];rw [oneTypeOnly'_eq,List.mapM_toArray];refine Yaa (Yaa (OV (JP (g:=λ_=>Value.type "tuple") (λv j Q q=>Yec (ty v j) q) ?_)));simp only [Yaq,List.getElem?_toArray,List.getElem?_cons_zero];refine Yab ?_;rw [if_pos (by simp)];exact Yab q
theorem Zek {kd:SortKind}(h:∀x y,good x->good y->∀{j:Aa->SS->Prop}{Q:Bool->SS->Prop},Q (b x y) s->wpAny (model prog w) A (keyLt' kd x.1 y.1) Q j s):O5 (model prog w) A E s kd b good:=by
 intro x y st Q B D L q;rw [lt'_eq];refine Yad (wpS_get ?_);refine Yad (wpS_lift ?_);rw [L];exact Ydj (h x y B D ⟨rfl,Yag q⟩)
end
noncomputable def Zdm (w:Ab)(a:AD)(zs:List (AD×LI)):HO:=.ext λh=>∃es ep t,SAt w h a es ep t/\es.toList.map (·.2)=zs.map λz=>Value.ref z.1
theorem Zf :∀{l:List (Int×Aa)}{ps:List (LI)},Paired (Y3 P w Ad h) l ps->∃zs:List (AD×LI),l.map (·.2)=zs.map (λz=>Value.ref z.1)/\zs.map (·.2)=ps/\∀z∈zs,Ad z.1 z.2
 := by
 intro l ps x
 induction x with
 | nil=>exact ⟨[],rfl,rfl,nofun⟩
 | @cons _ r _ _ e t ih=>
  obtain ⟨h1,a,h2,N,q⟩:=e;obtain ⟨zs,B,D,L⟩:=ih;refine ⟨(a,r)::zs,by rw [Yaq,Yaq,h2,B],by rw [Yaq,D],λz j=>?_⟩;rcases Yam.mp j with rfl | j
  ·exact q
  ·exact L z j
theorem Zg {h h':Heap}(k:∀c o,h.get? c=some o->h'.get? c=some o):∀vs:LW,(∀v∈vs,∃a,∃q:Array Aa,∃ns,v=.ref a/\h.IsTuple a q/\IntsAre q.toList ns/\ns≠[])->∃fs:LW,W.KatTups h' vs fs/\fs.length=vs.length/\∀f∈fs,∃i t,f=.int i t:=by
 intro vs
 induction vs with
 | nil=>intro _;exact ⟨[],.nil,rfl,λf j=>by cases j⟩
 | cons v vs ih=>
  intro h;obtain ⟨fs,h1,h2,B⟩:=ih λx D=>h x (Ybe _ D);obtain ⟨a,q,ns,rfl,L,N,O⟩:=h v (Ybg ..);obtain ⟨o,e,c,n,d⟩:=L;have e:=k _ _ e;have U:∃i t,q[0]?=some (.int i t):=by
   rcases UX N 0 with ⟨h1,h2⟩ | ⟨i,t,h1,h2⟩
   ·exact absurd (by simpa using h2) O
   ·exact ⟨i,t,by simpa using h1⟩
  obtain ⟨i,t,Y⟩:=U;refine ⟨.int i t::fs,.cons e c d Y h1,by simp [h2],λf j=>?_⟩;rcases Yam.mp j with rfl | j
  ·exact ⟨i,t,rfl⟩
  ·exact B f j
section
variable {X:Cx}{w:Ab}(K:FG)
theorem ZhJ (hc:X.calm=true)(hu:X.A.units+64<cLine)(h:X.K=K:=by rfl)(hw:X.w=w:=by rfl):JY X (.type "set") (λxs H Q=>∃(p:AD)(ys:List V)(rs:List (LI)),xs=[.ref p]/\SqL K H p ys/\Tus H ys rs/\rs.length<=306 /\
  ∀(l:AD)(zs:List (AD×LI)),H l=none->(zs.map (·.2)).Nodup->(∀k,k∈zs.map (·.2)↔k∈rs)->(∀z∈zs,H z.1=some (.tup (z.2.map V.int)))->Q (.ref l) (upd H l (Zdm w l zs))):=by
 subst h hw;intro qQ s σ H xs us Q I rv h;obtain ⟨p,ys,rs,rfl,hq,pr,hn,q⟩:=h;obtain ⟨u,rfl,Z⟩:=rv.one;cases Z;obtain ⟨its,r,pl,hz⟩:=I.list hq;have hl:=r.length;have ah:=pr.len;have es:its.toArray.size=rs.length:=by rw [Yau];lia
 refine Zap (I.ok.hd hc) pl.isList (λi o=>∃ps,Zca X.prog X.w (λa r=>H a=some (.tup (r.map V.int))) s.heap o ps/\ps.length<=i/\(∀k,k∈ps↔k∈rs.take i)) (λh'=>∀b o,b<s.heap.objs.size->s.heap.get? b=some o->h'.get? b=some o) ⟨[],Zat _ _ _ _,Yaf _,λk=>by simp⟩ (λ_ k=>k) ?_ ?_
 ·intro i v s1 o Q1 E1 hi hv kp ho ⟨ps,B,aa,D⟩ ab;have L:i<ys.length:=by lia
  have ai:i<rs.length:=by lia
  have ac:its[i]?=some v:=by rw [List.getElem?_toArray] at hv;exact hv
  obtain ⟨t,rr,et,N,er⟩:=pr.get (i:=i) (x:=ys[i]) (Yba L);obtain ⟨u,eu,Z⟩:=r.get (i:=i) (x:=ys[i]) (Yba L);rw [ac] at eu;cases eu;rw [et] at Z;cases Z;have hx:IsTu X.prog X.w s.heap rr t:=Zd5 I.hok N;have O:∀c o',s.heap.get? c=some o'->s1.heap.get? c=some o':=λc o' e=>kp c o' (Yah e) e;have U:X.A.in1.in1.in1.units<cLine:=by simp only [Ydk];lia
  unfold setAdd;apply Ycb;apply Yaa;refine wpAny_pyHash_tuple U (hx.keep λo' e=>O t o' e) ?_;refine Zd4 (s:={ s1 with toks:=s1.toks+((rr:LI).length+1) }) U O ho B hx N (by lia) λb h' o' ps' sb j Y hp=>?_;refine ab b h' _ o' (Nat.le_add_right _ _) sb j ⟨ps',Y,?_,λk=>?_⟩
  ·rw [hp.length_eq];split
   ·lia
   ·rw [Yak,Ybc];lia
  ·rw [hp.mem_iff,V3 er];split
   ·rename_i ad;rw [D k];constructor
    ·exact .inl
    ·rintro (z | rfl)
     ·exact z
     ·exact (D _).mp ad
   ·rw [Yaj,D k,Yai]
 ·intro h' tk o' j ⟨ps,B,aa,D⟩ hk;rw [es,Ycd] at D;obtain ⟨ae,ep,t,h1,h2,h3,h4,h5,h6,h7⟩:=B;obtain ⟨zs,z1,z2,z3⟩:=Zf h3;subst z2;exact ⟨.ref _,_,I.laid (o:=Zdm X.w s.heap.objs.size zs) (λb o e=>hk b o (Yah e) e) (Yaf _) ⟨⟨ae,ep,t,⟨⟨o',j,h1,h2⟩,h5,h6,h7⟩,z1⟩,⟨o',j⟩,λh1 h2 ⟨af,ag,t',e,r⟩ k=>⟨af,ag,t',e.ext λo e=>k o e,r⟩⟩,rfl,q _ zs I.fresh h4 D z3⟩
theorem ZfG (hc:X.calm=true)(hu:X.A.units+64<cLine)(h:X.K=K:=by rfl)(hw:X.w=w:=by rfl):JY X (.builtin "sorted") (λxs H Q=>∃(p:AD)(zs:List (AD×LI)),xs=[.ref p]/\H p=some (Zdm w p zs)/\(∀z∈zs,H z.1=some (.tup (z.2.map V.int)))/\zs.length<=1000 /\
  ∀(l:AD)(zs':List (AD×LI)),H l=none->zs'.Perm zs->(zs'.map (·.2)).Pairwise (λa b=>GL b a=false)->Q (.ref l) (upd H l (.lst (zs'.map λz=>V.ref z.1)))):=by
 subst h hw;intro qQ s σ H xs us Q I rv h;obtain ⟨p,zs,rfl,hp,hz,hl,q⟩:=h;obtain ⟨u,rfl,ru⟩:=rv.one;cases ru;obtain ⟨⟨es,ep,t,ai,hE⟩,_⟩:=I.hok p _ hp;have al:=Yav.symm;have qV:es.size=zs.length:=by
  have:=Ybh List.length hE
  rwa [Yac,Yac,Yan] at this
 have hh:X.A.in1.handled=none:=I.ok.hd hc;have ae:=(Jz (w:=X.w) p es ep).map (·.2);rw [hE] at ae;obtain ⟨U,p1,e1⟩:=JO ae;have key:∀z∈U,∃its:Array Aa,s.heap.IsTuple z.1 its/\IntsAre its.toList z.2:=λz j=>by
  obtain ⟨iz,rz,pz,_⟩:=I.tuple (SqT.of (K:=X.K) (hz z (p1.mem_iff.mp j)));exact ⟨iz.toArray,pz,Oa rz⟩
 have L:∀{h':Heap}{a:AD}{B:Array Aa},(∀c o,s.heap.get? c=some o->h'.get? c=some o)->s.heap.IsTuple a B->h'.IsTuple a B:=λk hl=>by
  obtain ⟨o,e,r⟩:=hl;exact ⟨o,k _ _ e,r⟩
 refine Calls.call_function_entry kind_sorted plain_sorted entry_sorted (args_sorted1 _) ?_;unfold Builtin.«sorted»;apply Yaa (m:=checkCount "sorted" 1 1 _);apply Yab;apply Yaa;refine W.kdu_collect (Zd3 (P:=X.prog) (es:=es) (ep:=ep) (t:=t)) hh ai (by lia) λh' tk acc Y ab=>?_;have af:acc.toList.length=es.size:=by rw [Yan];exact ab.1
 have Z:acc.toList=U.map λz=>Value.ref z.1:=by
  rw [e1];refine List.ext_getElem? λi=>?_;by_cases hi:i<acc.size
  ·obtain ⟨e,e3,e4⟩:=ab.2 i acc[i] (Ybd hi);rw [Yaz,e3,Yax,Ybd hi,e4]
   rfl
  ·have am:(Jy X.w p es ep).length=es.size:=by rw [(Jz (w:=X.w) p es ep).length_eq,Yan]
   rw [Yan] at af;rw [Yax,Yfs (by lia),List.getElem?_eq_none (by rw [Yac];lia)]
 have ag:∀v∈acc.toList,∃a,∃B:Array Aa,∃ns,v=.ref a/\s.heap.IsTuple a B/\IntsAre B.toList ns:=λv O=>by
  rw [Z] at O;obtain ⟨z,j,rfl⟩:=Yal.mp O;obtain ⟨B,h1,h2⟩:=key z j;exact ⟨z.1,B,z.2,rfl,h1,h2⟩
 apply Yaa;refine Yfb ?_ (by rw [af];lia);have ad:(h'.push (seqObj "list" acc.toList.toArray 0)).get? h'.objs.size=some (seqObj "list" acc.toList.toArray 0):=Yaw _ rfl;apply Yaa;apply Ycb;have k3:∀(T:Nat) c o,s.heap.get? c=some o->(JN { s with heap:=h'.push (seqObj "list" acc.toList.toArray 0),toks:=T } h'.objs.size acc.toList).heap.get? c=some o:=λT c o e=>by
  unfold JN;refine Yae _ (Yae _ (Jo ?_ (Yae _ (Y c o e))));exact Yar (Yah (Y c o e))
 have ah:X.A.in1.in1.units<cLine:=by rw [Ydk,Ydk];lia
 let kd:SortKind:=if ∀z∈U,z.2≠[] then tuples' true else kdT s.heap acc.toList
 have D:∀T,∀v∈acc.toList,Zdl (JN { s with heap:=h'.push (seqObj "list" acc.toList.toArray 0),toks:=T } h'.objs.size acc.toList).heap v=Zdl s.heap v:=λT v O=>by
  obtain ⟨a,B,ns,rfl,t1,_⟩:=ag v O;rw [Wg t1,Wg (L (k3 T) t1)]
 refine Ycc slot_list_sort ⟨_,ad,rfl⟩ entry_list_sort (OU (kd:=kd) (good:=λx=>∃a,∃B:Array Aa,∃ns,x.1=.ref a/\s.heap.IsTuple a B/\IntsAre B.toList ns/\((∀z∈U,z.2≠[])->ns≠[])) (ZfF s.heap) ad (by lia) (λv O=>?_) (λh2 E' R q=>?_) (Zek λx y gx gy E' Q q=>?_) λout aj hr=>⟨_,rfl,?_⟩) (args_list_sort _)
 ·rw [Z] at O;obtain ⟨z,j,rfl⟩:=Yal.mp O;obtain ⟨B,h1,h2⟩:=key z j;exact ⟨z.1,B,z.2,rfl,h1,h2,λh=>h z j⟩
 ·by_cases qK:∀z∈U,z.2≠[]
  ·have ek:kd=tuples' true:=if_pos qK;rw [ek] at q;obtain ⟨fs,t1,t2,t3⟩:=Zg (k3 _) acc.toList λv O=>by
    rw [Z] at O;obtain ⟨z,j,rfl⟩:=Yal.mp O;obtain ⟨B,h1,h2⟩:=key z j;exact ⟨z.1,B,z.2,rfl,h1,h2,qK z j⟩
   exact W.kat_kind (T:=.type "int") t1 (by lia) (λv O=>by obtain ⟨i,t,rfl⟩:=t3 v O;exact .now) rfl q
  ·have ek:kd=kdT s.heap acc.toList:=if_neg qK;rw [ek] at q;have eq:∀T,kdT (JN { s with heap:=h'.push (seqObj "list" acc.toList.toArray 0),toks:=T } h'.objs.size acc.toList).heap acc.toList=kdT s.heap acc.toList:=λT=>by
    unfold kdT;cases e0:acc.toList[0]? with
    | none=>rfl
    | some v=>rw [Option.bind_some,Option.bind_some];simp only [D T v (Ybf e0)]
   refine Wh (λv O=>?_) h2 ?_ (by rw [eq];exact q)
   ·obtain ⟨a,B,ns,e,t1,_⟩:=ag v O;exact ⟨a,B,e,L (k3 _) t1⟩
   ·have:∃z∈U,z.2=[]:=by
     refine Classical.byContradiction λhn=>qK λz hz e=>hn ⟨z,hz,e⟩
    obtain ⟨z,j,ez⟩:=this;have O:Value.ref z.1∈acc.toList:=by rw [Z];exact Yal.mpr ⟨z,j,rfl⟩
    refine ⟨_,O,?_⟩;rw [D _ _ O];obtain ⟨B,h1,h2⟩:=key z j;rw [Wg h1];rw [ez] at h2;have:=Jf h2;rw [Yan] at this;exact Yfs (by simpa using this)
 ·obtain ⟨a,B,ns,e1,h1,h2,_⟩:=gx;obtain ⟨c,jt,ms,e2,h3,h4,_⟩:=gy;simp only [e1,e2,Wf h1 h2,Wf h3 h4] at q ⊢;have g1:=L (k3 tk) h1;have g3:=L (k3 tk) h3;by_cases qK:∀z∈U,z.2≠[]
  ·have ek:kd=tuples' true:=if_pos qK;rw [ek];obtain ⟨o1,g1,_,n1,d1⟩:=g1;obtain ⟨o2,g2,_,n2,d2⟩:=g3;refine W.kat_lt (xs:=B) (ys:=jt) g1 d1 g2 d2 (Ym 0 h2 h4 ?_ q);rw [<-Jf h2,<-Jf h4];simp
  ·have ek:kd=kdT s.heap acc.toList:=if_neg qK;rw [ek];unfold kdT;split
   ·exact WZ (o:=false) g1 g3 h2 h4 ah q
   ·rw [keyLt'_oneType];exact WZ (o:=true) g1 g3 h2 h4 ah q
 ·obtain ⟨o1,o2,o3⟩:=Wc aj;refine Yab ⟨_,rfl,?_⟩;obtain ⟨e,he⟩:=sortedHeap_at (out:=out.map (·.2)) ad;have N:∀b o,s.heap.get? b=some o->(sortedHeap (h'.push (seqObj "list" acc.toList.toArray 0)) h'.objs.size acc.toList (out.map (·.2))).get? b=some o:=λb o e=>by
   have e':=Y b o e;have hb:=Yah e';rw [sortedHeap_old (Yar hb) (by rw [Ybn];exact Yen hb)];exact Yae _ e'
  rw [Z] at o1;obtain ⟨zs',p2,e2⟩:=JO o1;have ps:(zs'.map (·.2)).Pairwise (λa b=>GL b a=false):=by
   have a1:=JG hr o3;have a2:(out.toList.map (·.2)).Pairwise (λu v=>GL (Zej s.heap v) (Zej s.heap u)=false):=by
    rw [Ybs];refine a1.imp_of_mem λ{x y} hx hy aa=>?_;rw [<-(o2 x hx).1,<-(o2 y hy).1];exact aa
   rw [Array.toList_map] at e2;rw [<-e2,Ybs] at a2;rw [Ybs];refine a2.imp_of_mem λ{x y} hx hy aa=>?_;obtain ⟨B,h1,h2⟩:=key x (p2.mem_iff.mp hx);obtain ⟨jt,h3,h4⟩:=key y (p2.mem_iff.mp hy);rw [Wf h1 h2,Wf h3 h4] at aa;exact aa
  have ac:zs'.Perm zs:=p2.trans p1;have ak:(zs'.map λz=>V.ref z.1).length<=sizeLine:=by rw [Yac,ac.length_eq];lia
  have hn:H h'.objs.size=none:=by
   cases zz:H h'.objs.size with
   | none=>rfl
   | some o=>
    obtain ⟨x,ex⟩:∃x,s.heap.get? h'.objs.size=some x:=(I.hok _ _ zz).there;exact absurd (Yah (Y _ _ ex)) (Ycm _)
  have sm:Same H (upd H h'.objs.size (.lst (zs'.map λz=>V.ref z.1))):=Same.new hn;refine ⟨.ref h'.objs.size,upd H h'.objs.size (.lst (zs'.map λz=>V.ref z.1)),I.un (t':=tk) ⟨λb o e _ _ _=>N b o e,λb o e _ _ _=>⟨o.slots,N b o e⟩,λb o e n _=>?_,λb o e _=>⟨o,N b o e⟩,λb ys e=>sm _ _ e,λb o u e=>sm _ _ e,λb ps e=>⟨#[],by rw [sm _ _ e];simp⟩⟩ (λb o e'=>?_),rfl,q _ zs' hn ac ps⟩
  ·rw [Gj (Yar (Yah (Y b o e)))];exact n
  ·by_cases hb:b=h'.objs.size
   ·subst hb;rw [Gc] at e';cases e';exact ⟨ak,(out.map (·.2)).toList,e,by rw [<-e2];exact UZ zs',he⟩
   ·rw [Gj hb] at e';exact (I.hok b o e').stay (λc v _ x=>N c v x) (λd x=>sm _ _ x) λd ys x=>sm _ _ x
end
end L2
namespace L2
open PySem PySem.Spec PyProof.Rows
theorem Zcr (h1:GL b a=false)(h2:GL c b=false):GL c a=false:=by
 cases h:GL c a with
 | false=>rfl
 | true=>
  cases h3:GL a b with
  | true=>rw [Ow h h3] at h2;cases h2
  | false=>
   rw [Oh h3 h1] at h;rw [h] at h2;cases h2
theorem Yo (f:Nat->LI):∀k,argBest (λi j=>GL (f i) (f j)) k<=k/\∀j,j<=k->GL (f j) (f (argBest (λi j=>GL (f i) (f j)) k))=false
 | 0=>⟨Yaf _,λj B=>by
  have:j=0:=by lia
  subst this;exact Jg _⟩
 | k+1=>by
  obtain ⟨i1,i2⟩:=Yo f k;have e:argBest (λi j=>GL (f i) (f j)) (k+1)=if GL (f (k+1)) (f (argBest (λi j=>GL (f i) (f j)) k))=true then k+1 else argBest (λi j=>GL (f i) (f j)) k:=rfl
  rw [e];generalize argBest (λi j=>GL (f i) (f j)) k=g at i1 i2;by_cases z:GL (f (k+1)) (f g)=true
  ·rw [if_pos z];refine ⟨Yaf _,λj B=>?_⟩;by_cases q:j=k+1
   ·subst q;exact Jg _
   ·refine Zcr ?_ (i2 j (by lia));cases h:GL (f g) (f (k+1)) with
    | false=>rfl
    | true=>have:=Ow h z;rw [Jg] at this;cases this
  ·rw [if_neg z];refine ⟨by lia,λj B=>?_⟩;by_cases q:j=k+1
   ·rw [q];exact Yed.mpr z
   ·exact i2 j (by lia)
section
variable {X:Cx}
noncomputable def Zdn (xs:List V)(rs:List (LI))(t:AD)(r:LI):Prop:=(∃i:Nat,xs[i]?=some (.ref t)/\rs[i]?=some r)/\∀r'∈rs,GL r' r=false
noncomputable def ZhK (K:FG):List V->Hp->VK->Prop:=λvs H Q=>∃(p:AD)(xs:List V)(rs:List (LI)),vs=[.ref p]/\SqL K H p xs/\Tus H xs rs/\rs≠[]/\∀t r,Zdn xs rs t r->Q (.ref t) H
theorem ZaQ {rs:List (LI)}(hc:X.calm=true)(hu:X.A.units+1<cLine)(I:Inv X qQ σ H s)(r:Vals xs its)(pl:PlainL s.heap p its.toArray)(pr:Tus H xs rs)(aa:rs≠[])(q:∀t r,Zdn xs rs t r->Q (.ref t) H)(hR:∀v s',EP X qQ σ Q v s'->R (.ok (.ret v)) s'):∀c:Nat,
  codeAny (model X.prog X.w) X.A (.builtin "min.loop" ⟨[.ref s.heap.objs.size,.none,.ref (s.heap.objs.size+1)],kw⟩) R { s with heap:=(s.heap.push { cls:=.type "list_iterator", data:=.fields #[.ref p,.int 0 0] }).push { cls:=.type "list", dict:=none,data:=.seq #[] c,slots:=#[] } }:=by
 intro c;have hl:=r.length;have hx:=pr.len;have hpos:0<rs.length:=List.length_pos_iff.mpr aa;have hh:X.A.in1.handled=none:=I.ok.hd hc;obtain ⟨o,eo,_⟩:=id pl.isList;have O:p<s.heap.objs.size:=Yah eo;have e1:(s.heap.push { cls:=.type "list_iterator", data:=.fields #[.ref p,.int 0 0] }).objs.size=s.heap.objs.size+1:=Ybn ..;have at_:∀i v,its[i]?=some v->∃t,∃D:Array Aa,v=.ref t/\xs[i]?=some (.ref t)/\rs[i]?=some (rs.getD i [])/\s.heap.IsTuple t D/\IntsAre D.toList (rs.getD i []):=λi v N=>by
  have hi:i<its.length:=(Yao.mp N).1;have L:xs[i]?=some xs[i]:=Yba (by lia);obtain ⟨t,q',et,eh,Y⟩:=pr.get L;obtain ⟨u,gu,ru⟩:=r.get L;rw [gu] at N;cases N;rw [et] at ru;cases ru;have eg:rs.getD i []=q':=by rw [Ybv,Y];rfl
  obtain ⟨U,r2,ab,_⟩:=I.tuple (SqT.of eh);exact ⟨t,U.toArray,rfl,by rw [L,et],by rw [eg];exact Y,ab,by rw [eg];exact Oa r2⟩
 have B:∀b o,s.heap.get? b=some o->((s.heap.push { cls:=.type "list_iterator", data:=.fields #[.ref p,.int 0 0] }).push { cls:=.type "list", dict:=none,data:=.seq #[] c,slots:=#[] }).get? b=some o:=λb o e=>Yae _ (Yae _ e);have W:=Walks.list (prog:=X.prog) (w:=X.w) hh s.heap.objs.size p (Yar O) its.toArray;have ac:its.toArray.size=rs.length:=by rw [Yau];lia
 refine Y8 (J:=λh=>∀t,∀D:Array Aa,s.heap.IsTuple t D->h.IsTuple t D) W (λi j=>GL (rs.getD i []) (rs.getD j [])) ?cmp (s.heap.objs.size+1) ?hD ?kJ (by rw [ac];exact hpos) ?st ?j (by rw [<-e1];exact Yaw _ rfl) ?fin
 case cmp=>
  intro s' i j vi vj Q' E' Z hi hj hq;obtain ⟨a,u1,rfl,_,_,ha,ia⟩:=at_ i vi (by simpa using hi);obtain ⟨b,w1,rfl,_,_,hb,ib⟩:=at_ j vj (by simpa using hj);exact Zdk (Z a u1 ha) (Z b w1 hb) ia ib (by rw [Ydk];exact hu) hq
 case hD=>
  intro z;have:s.heap.objs.size+1=s.heap.objs.size\/s.heap.objs.size+1=p:=by simpa using z
  rcases this with e | e
  ·exact absurd e (Nat.succ_ne_self _)
  ·exact absurd O (by rw [<-e];exact Nat.not_lt.mpr (Ydt _))
 case kJ=>
  intro h h' Z kp t D hT;obtain ⟨o',g',rest⟩:=Z t D hT;obtain ⟨o0,g0,_⟩:=hT;have ht:t<s.heap.objs.size:=Yah g0;refine ⟨o',kp t o' (λz=>?_) (Yar (Yen ht)) g',rest⟩;have:t=s.heap.objs.size:=by simpa using z
  exact absurd ht (by rw [this];exact Ycm _)
 case st=>
  refine ⟨⟨_,Yae _ (Yaw _ rfl),rfl,rfl⟩,pl.isList.at λo e=>B _ _ e⟩
 case j=>
  intro t D hT;obtain ⟨o0,g0,rest⟩:=hT;exact ⟨o0,B _ _ g0,rest⟩
 case fin=>
  intro v h' tk N hk;obtain ⟨b1,b2⟩:=Yo (λi=>rs.getD i []) (its.toArray.size-1);generalize argBest (λi j=>GL (rs.getD i []) (rs.getD j [])) (its.toArray.size-1)=g at N b1 b2;obtain ⟨t,u1,rfl,ex,Y,_⟩:=at_ g v (by simpa using N);refine hR _ _ ⟨.ref t,H,I.kept λb o e'=>hk b o ?_ ?_ (B b o e'),rfl,q t _ ⟨⟨g,ex,Y⟩,λr' ad=>?_⟩⟩
  ·intro z;have:b=s.heap.objs.size:=by simpa using z
   exact absurd (Yah e') (by rw [this];exact Ycm _)
  ·exact Yar (Yen (Yah e'))
  ·obtain ⟨j,hj,rfl⟩:=Yck ad;have:=b2 j (by lia);rw [Ybv,Yba hj] at this;exact this
theorem ZfH (K:FG)(D:X.calm=true)(L:X.A.units+1<cLine)(h:X.K=K:=by rfl):JY X (.builtin "min") (ZhK K):=by
 subst h;intro qQ s σ H xs us Q I N h;obtain ⟨p,xs,rs,rfl,O,U,j,q⟩:=h;obtain ⟨u,rfl,Y⟩:=N.one;cases Y;obtain ⟨its,r,B,hz⟩:=I.list O;have nm:(toString "min" ++ toString ".loop" : String) = "min.loop" := by decide
 refine call_function_tree F.kind_min F.plain_min F.entry_min (F.args_min1 _) ?_;refine Yaa (wpAny_of_eq (show Builtin.Builtins.bindParams "min" ["key", "default"] 0 ⟨[],[]⟩=pure [none,none] from rfl) (Yaa (Yab (Yaa (wpAny_pyIter_list B.isList (Yaa (Yds ?_)))))));rw [nm];have Z:(s.heap.push { cls:=.type "list_iterator", data:=.fields #[.ref p,.int 0 0] }).objs.size=s.heap.objs.size+1:=Ybn ..;refine Yab ⟨Yeg Yex _,?_⟩;show codeAny _ _ (.builtin "min.loop" ⟨[.ref s.heap.objs.size,.none,.ref (s.heap.push { cls:=.type "list_iterator", data:=.fields #[.ref p,.int 0 0] }).objs.size],[]⟩) _ _;rw [Z];exact ZaQ D L I r B U j q (λv s' h=>h) 0
end
section
variable {prog:PP}{w:Ab}{A:Around}{E:Aa->SS->Prop}{s:SS}
theorem Wi {lo hi:Option Int}(j:IsTup s.heap t items)(O:s.heap.IsSliceOf q L N .none)(pl:IsPart L lo)(U:IsPart N hi)(h0:HT.sIx items.size 0 lo=0)(h1:HT.sIx items.size items.size hi=items.size)(h:Q (.ref t) s):wpAny (model prog w) A (getItem (.ref t) (.ref q)) Q E s:=by
 have Y:s.TypeIs (.ref q) "slice" := by
  obtain ⟨Z,B,D,_⟩:=id O;exact ⟨Z,B,D⟩
 unfold getItem
 try with_reducible refine Ycb ?_
 first | refine Yaa (Yab ?_) | skip
 refine Yaa (wpAny_sequenceKey j.typeIs (by decide) (Yaa (Ydx (name:=Str.ofString "__getitem__") j.typeIs Yfx (Ycc Yfx j.typeIs entry_tuple_getitem ?_ (args_tuple_getitem _ _)))));show wpAny _ _ (Builtin.Tuple.tupleItemsOf (.ref t) >>= _) _ _ s;refine Yaa (tupleItemsOf_ j (Yaa (Yec Y ?_)));rw [if_pos (by decide)];refine Yaa (HT.sliceApplied_gen O pl U ?_);show wpAny _ _ (if (((HT.sIx items.size 0 lo:Nat):Int) == 0 && (1:Int) == 1 && (HT.sIx items.size items.size hi-HT.sIx items.size 0 lo) == items.size)=true then _ else _) _ _ s;rw [h0,h1,if_pos (by simp)]
 first
  | exact Yaa (m:=Builtin.Tuple.tupleIsExact _) (Yaa (Yec j.typeIs (Yab (Yaa (Ydh (Yab ⟨_,rfl,Yab h⟩))))))
end
section
variable {X:Cx}(K:FG)
noncomputable def Zib:V->Option Int->Option Int->Hp->VK->Prop:=λx lo hi H Q=>∃a xs,x=.ref a/\SqT K H a xs/\(VN xs lo hi=xs->Q (.ref a) H)/\∀p,H p=none->Q (.ref p) (upd H p (.tup (VN xs lo hi)))
theorem Zg1 (h:X.K=K:=by rfl):SlR X (Zib K):=by
 subst h;intro qQ s σ H x v Z vu lo hi sl Q I B D L N h;obtain ⟨a,xs,rfl,O,qw,q⟩:=h;by_cases j:HT.sIx xs.length 0 lo=0/\HT.sIx xs.length xs.length hi=xs.length
 ·cases B;obtain ⟨its,r,U,hz⟩:=I.tuple O;have Y:its.toArray.size=xs.length:=by rw [Yau];exact r.length.symm
  refine ⟨"tuple", _,PyProof.Rows.slot_tuple_getitem.lookup,U.typeIs,Wi U D L N (by rw [Y];exact j.1) (by rw [Y];exact j.2) ⟨.ref a,H,I,rfl,qw ?_⟩⟩;unfold VN;rw [j.1,j.2];simp
 ·exact Zc6 qQ s σ H _ v Z vu lo hi sl Q I B D L N ⟨a,xs,rfl,O,j,q⟩
end
section
variable (P:PP)(w:Ab)
noncomputable def Wj (h:Heap)(j:LI)(v:Aa):Prop:=∃b,v=.ref b/\IsTupleKey (intKind P w) h j b
noncomputable def Ul (h:Heap)(k:List (LI))(a:AD):Prop:=∃o vs n,h.get? a=some o/\o.cls=.type "tuple" /\ o.data=.seq vs n/\Paired (Wj P w h) k vs.toList
noncomputable def Wl (k:List (LI)):Int:=reduceHash (Builtin.Tuple.tupleHashOf (k.map (tupleKeyHash (intKind P w))))
end
section
variable {P:PP}{w:Ab}{A:Around}{E:Aa->SS->Prop}{s:SS}{h h':Heap}
theorem Zcs (r:Paired (Wj P w h) k vs)(t:Paired (Wj P w h) l vs):k=l:=by
 induction r generalizing l with
 | nil=>cases t;rfl
 | cons x r ih=>cases t with
  | cons y t=>
   obtain ⟨b,e,x⟩:=x;obtain ⟨c,j,y⟩:=y;rw [e] at j;cases j;rw [x.inj y,ih t]
theorem W1 (B:A.units<cLine):∀{k:List (LI)}{vs:LW}{b:Array Int}{s:SS}{Q:Array Int->SS->Prop},Paired (Wj P w s.heap) k vs ->
  (∀j:Array Int,j.toList=b.toList++k.map (tupleKeyHash (intKind P w))->Q j { s with toks:=s.toks+(k.map λr=>r.length+1).sum }) ->
  wpAny (model P w) A (forIn vs b λx r=>do let h <- pyHash x;pure PUnit.unit;pure (ForInStep.yield (r.push h))) Q E s
 | _,_,b,s,Q,.nil,q=>by
  rw [List.forIn_nil];exact Yab (by simpa using q b (by simp))
 | _,_,b,s,Q,.cons (a:=row) (l₁:=k) ⟨c,e,x⟩ r,q=>by
  subst e;rw [List.forIn_cons];refine Yaa (Yaa (wpAny_pyHash_tuple B x (Yaa (Yab (Yab ?_)))));refine W1 B (s:={ s with toks:=s.toks+(row.length+1) }) r λj D=>?_;have:=q j (by rw [D];simp);simpa [Nat.add_assoc] using this
theorem Xw (O:A.units+70<cLine)(x:Ul P w s.heap k a)(q:Q (Wl P w k) { s with toks:=s.toks+((k.map λr=>r.length+1).sum+1) }) :
  wpAny (model P w) A (pyHash (.ref a)) Q E s:=by
 obtain ⟨o,vs,n,j,B,D,r⟩:=x;refine W.pyHash_slot (T := "tuple") ⟨o,j,B⟩ F.slot_tuple_hash F.entry_tuple_hash (F.args_tuple_hash_1 _) (beq_builtin_none _) (.inr (by lia)) ?_;show wpAny (model P w) A.in1 (Builtin.Tuple.tupleItemsOf (.ref a) >>= _) _ E s;refine Yaa (wpAny_tupleItemsOf j D (Yaa ?_));rw [<-Array.forIn_toList];refine W1 (by rw [Ydk];lia) r λL N=>?_;show wpAny _ _ (retInt (Builtin.Tuple.tupleHashOf L.toList)) _ _ _;refine Yaa (wpAny_mkInt (Yab ⟨_,_,rfl,?_⟩));rw [N];simpa [Wl,Nat.add_assoc] using q
noncomputable def Um (row:LI):PyData:=.tuple (row.map PyData.int)
theorem Zh (x:ItemsAre (intKind P w) j its):∃q,ReadsAll h its (j.map PyData.int) q:=by
 induction x with
 | nil=>exact ⟨_,.nil⟩
 | @cons k v ks vs h1 _ ih=>
  obtain ⟨q,r⟩:=ih;obtain ⟨t,rfl⟩:∃t,v=.int k t:=by
   cases v <;> simp [intKind,Value.isInt] at h1;subst h1;exact ⟨_,rfl⟩
  exact ⟨_,.cons (.int _ _) r⟩
theorem ZaR (x:Wj P w h j v):∃q,Reads h v (Um j) q:=by
 obtain ⟨b,rfl,o,its,n,h1,h2,B,D⟩:=x;obtain ⟨q,r⟩:=Zh (h:=h) D;exact ⟨q,.tuple h1 h2 B r⟩
theorem Uf:∀{k:List (LI)}{vs:LW},Paired (Wj P w h) k vs->∃j,ReadsAll h vs (k.map Um) j
 | _,_,.nil=>⟨_,.nil⟩
 | _,_,.cons x r=>by
  obtain ⟨j,h1⟩:=ZaR x;obtain ⟨bs,h2⟩:=Uf r;exact ⟨_,.cons h1 h2⟩
theorem Yp (j:LI):PyData.canLay0 (Um j)=true:=by
 unfold Um;simp only [PyData.canLay0];exact OF j
theorem UD:∀k:List (LI),PyData.canLayAll0 (k.map Um)=true
 | []=>by simp [PyData.canLayAll0]
 | r::k=>by
  rw [Yaq];simp [PyData.canLayAll0,Yp r,UD k]
theorem Ug:∀k:List (LI),PyData.depthAll (k.map Um)<=2
 | []=>by simp [PyData.depthAll]
 | r::k=>by
  have ih:=Ug k;have:=Jt r;rw [Yaq];simp only [PyData.depthAll,Um,PyData.depth]
  lia
theorem Wm (r q:LI):PyData.eqv (Um r) (Um q)=decide (r=q):=by
 have:=OG r q;unfold Um;simp only [PyData.eqv] at this ⊢;exact this
theorem U1:∀k l:List (LI),PyData.eqvAll (k.map Um) (l.map Um)=decide (k=l)
 | [],[]=>by simp [PyData.eqvAll]
 | [],_::_=>by simp [PyData.eqvAll]
 | _::_,[]=>by simp [PyData.eqvAll]
 | r::k,q::l=>by
  rw [Yaq,Yaq];simp only [PyData.eqvAll,Wm,U1 k l];by_cases e1:r=q <;> by_cases e2:k=l <;> simp [e1,e2]
theorem Yq (k l:List (LI)):PyData.eqv (.tuple (k.map Um)) (.tuple (l.map Um))=decide (k=l):=by
 simp only [PyData.eqv,U1]
theorem Xx (Z:A.units+70<cLine)(x:Ul P w s.heap k a)(y:Ul P w s.heap l b)(q:Q (decide (k=l)) s) :
  wpAny (model P w) A (eqBool (.ref a) (.ref b)) Q E s:=by
 obtain ⟨o,vs,n,L,N,O,r⟩:=x;obtain ⟨o',U,n',j,B,D,r'⟩:=y;obtain ⟨Y,h1⟩:=Uf r;obtain ⟨bs,h2⟩:=Uf r';have e:=SeqAt.eqAt_reads (.tuple (k.map Um)) (.tuple (l.map Um)) A s (.ref a) (.ref b) Y bs (.tuple L N O h1) (.tuple j B D h2) (by simp only [PyData.canLay0];exact UD k) (by simp only [PyData.canLay0];exact UD l) ?_
 ·rw [Yq] at e;exact e P w E Q q
 ·have d1:=Ug k;simp only [PyData.depth]
  lia
theorem VD {n:Nat}{Q:Option Bool×PUnit->SS->Prop}(q:Q (none,⟨⟩) s):∀{vs:LW},(∀v∈vs,∀{Q:Bool->SS->Prop},Q true s->wpAny (model P w) A (eqIsQuiet n v) Q E s) ->
  wpAny (model P w) A (forIn vs ((none,⟨⟩):Option Bool×PUnit) λy r=>do if !(<- eqIsQuiet n y) then pure (ForInStep.done (some false,⟨⟩)) else pure (ForInStep.yield (none,⟨⟩))) Q E s
 | [],_=>by
  rw [List.forIn_nil];exact Yab q
 | v::vs,hv=>by
  rw [List.forIn_cons];refine Yaa (Yaa (hv v (Ybg ..) ?_));simp only [Bool.not_true,Yem,Ycy];exact Yab (VD q λu hu=>hv u (Ybe _ hu))
theorem W3 (j:s.heap.get? a=some o)(B:o.cls=.type "tuple")(D:o.data=.seq vs m)(L:∀v∈vs.toList,∀{Q:Bool->SS->Prop},Q true s->wpAny (model P w) A (eqIsQuiet n v) Q E s)(q:Q true s):wpAny (model P w) A (eqIsQuiet (n+1) (.ref a)) Q E s:=by
 unfold eqIsQuiet;refine Yaa (wpAny_specialOf (⟨o,j,B⟩:s.TypeIs (.ref a) "tuple") F.slot_tuple_eq.lookup ?_);show wpAny _ _ (isInstance (.ref a) (.type "tuple") >>= _) _ _ s;refine Yaa (Yew (⟨o,j,B⟩:s.TypeIs (.ref a) "tuple") isSubtype_tuple_tuple ?_);simp only [Bool.not_true,Yem,Ycy];refine Yaa (wpAny_seqItems j D (Yaa ?_));show wpAny _ _ (forIn vs _ _) _ _ s;rw [<-Array.forIn_toList];exact VD (Yab q) L
theorem ZaS (x:ItemsAre (intKind P w) j its):∀v∈its,∀{Q:Bool->SS->Prop},Q true s->wpAny (model P w) A (eqIsQuiet n v) Q E s:=λv B Q q=>by
 rw [eqIsQuiet_byValue n (x.byValue v B)];exact Yab q
theorem Zi (x:Ul P w s.heap k a)(q:Q true s):wpAny (model P w) A (eqIsQuiet 8 (.ref a)) Q E s:=by
 obtain ⟨o,vs,n,L,N,O,r⟩:=x;refine W3 L N O (λv j Q q=>?_) q;have B:∀{k:List (LI)}{vs:LW},Paired (Wj P w s.heap) k vs->∀v∈vs,∃D,Wj P w s.heap D v:=by
  intro k vs r
  induction r with
  | nil=>intro v j;cases j
  | cons x _ ih=>
   intro v j;rcases Yam.mp j with rfl | j
   ·exact ⟨_,x⟩
   ·exact ih v j
 obtain ⟨D,b,rfl,o',its,m,h1,h2,U,Y⟩:=B r v j;exact W3 h1 h2 U (ZaS Y) q
theorem Zj {es ep}(x:Ul P w h k a)(q:h.get? d=some o)(B:o.data=.dict es ep)(D:Heap.SameBut d h h'):Ul P w h' k a:=by
 obtain ⟨o',vs,n,h1,h2,j,r⟩:=x;have L:a≠d:=λz=>by
  rw [z,q] at h1;cases h1;rw [B] at j;cases j
 refine ⟨o',vs,n,(D.2 a L).trans h1,h2,j,?_⟩;refine Paired.mapP r λN v z=>?_;obtain ⟨b,e,y⟩:=z;exact ⟨b,e,y.keeps q B D⟩
end
noncomputable def Yr (P:PP)(w:Ab):HeapKind P w (List (LI)) where
 is:=Ul P w
 hash:=Wl P w
 draws:=λk=>(k.map λr=>r.length+1).sum+1
 room:=λA=>A.units+70<cLine
 inj:=λ{h a x y} hx hy=>by
  obtain ⟨o,vs,n,h1,_,h3,r⟩:=hx;obtain ⟨o',vs',n',h1',_,h3',r'⟩:=hy;rw [h1] at h1';cases h1';rw [h3] at h3';cases h3';exact Zcs r r'
 keeps:=λx ho hd hs=>Zj x ho hd hs
 pyHash:=λhu x q=>Xw hu x q
 eqBool:=λhu x y q=>Xx hu x y q
 quiet:=λx q=>Zi x q
noncomputable def KeyTT (H:Hp)(b:AD)(k:List (LI)):Prop:=∃cs:List AD,H b=some (.tup (cs.map V.ref))/\Paired (λ(j:LI) (c:AD)=>H c=some (.tup (j.map V.int))) k cs
theorem KeyTT.keep (x:KeyTT H b k)(t:∀p ys,H p=some (.tup ys)->H' p=some (.tup ys)):KeyTT H' b k:=by
 obtain ⟨cs,h1,h2⟩:=x;exact ⟨cs,t _ _ h1,Paired.mapP h2 λ_ _ z=>t _ _ z⟩
theorem KeyTT.same (x:KeyTT H b k)(s:Same H H'):KeyTT H' b k:=x.keep λp ys e=>s _ _ e
section
variable {P:PP}{w:Ab}{H:Hp}{h:Heap}{a:AD}
theorem ZfI (ok:HOk P w H h)(x:KeyTT H b k):Ul P w h k b:=by
 obtain ⟨cs,h1,h2⟩:=x;obtain ⟨_,its,r,o,B,D,n,L⟩:=(show ObjOk P w H h b (.tup (cs.map V.ref)) from ok b _ h1);refine ⟨o,its.toArray,n,B,D,L,?_⟩;have j:∀{j:LI}{c:AD},H c=some (.tup (j.map V.int))->IsTupleKey (intKind P w) h j c:=λ{j c} e=>by
  obtain ⟨_,its,r,o,N,O,n,U⟩:=(show ObjOk P w H h c (.tup (j.map V.int)) from ok c _ e);refine ⟨o,its.toArray,n,N,O,U,?_⟩;have q:∀{j:LI}{its:LW},Vals (j.map V.int) its->ItemsAre (intKind P w) j its:=by
   intro j
   induction j with
   | nil=>intro its r;cases r;exact .nil
   | cons x j ih=>
    intro its r;rw [Yaq] at r;cases r with
    | cons h t=>
     obtain ⟨tk,rfl⟩:=h;exact .cons (by simp [intKind,Value.isInt]) (ih t)
  simpa using q r
 have q:∀{k:List (LI)}{cs:List AD}{its:LW},Paired (λ(j:LI) (c:AD)=>H c=some (.tup (j.map V.int))) k cs->Vals (cs.map V.ref) its->Paired (Wj P w h) k its:=by
  intro k cs its p
  induction p generalizing its with
  | nil=>intro r;cases r;exact .nil
  | @cons a b l1 l2 e _ ih=>
   intro r;rw [Yaq] at r;cases r with
   | cons hh t=>
    cases hh;exact .cons ⟨_,rfl,j e⟩ (ih t)
 simpa using q h2 r
end
section
variable {X:Cx}{qQ:List (AD×Obj)}{σ:St}{H:Hp}{s:SS}{a:AD}{y v d:V}{u r:Aa}{o:Option V}{A:Around}{E:Aa->SS->Prop}
theorem Zct (j:A.units+71<cLine):(Yr P w).room A.in1:=by
 show A.in1.units+70<cLine;rw [Ydk]
 lia
end
section
variable {prog:PP}{w:Ab}{A:Around}{E:Aa->SS->Prop}{s:SS}
theorem ZaT {Q:Aa->SS->Prop}(D:s.heap.IsKeyIter j d i es.size ep)(U:s.heap.get? d=some o)(Y:o.data=.dict es ep)(hi:es[i]?=some e)(q:∀h',h'.IsKeyIter j d (i+1) es.size ep->Heap.SameBut j s.heap h'->Q e.key { s with heap:=h' }):wpAny (model prog w) A (Builtin.«dict_keyiterator.__next__» ⟨[.ref j],[]⟩) (λfin s'=>∃v,fin=.done (.ret v)/\Q v s') E s:=by
 obtain ⟨⟨c0,d0,t0,aa⟩,B,L,N⟩:=id D;subst L N;have T:=D.typeIs
 wp_walk using wpAny_fieldsOf B rfl,wpAny_dictEntries U Y,wpAny_dictEpoch U Y,Yfy T,wpAny_isOneOf_keyiter T
 rw [if_neg (by lia),Ydw,hi]
 wp_walk using Yfy T,wpAny_isOneOf_keyiter T,wpAny_setField B rfl
 case hi=>exact (by decide:(0:Nat)+1<4)
 case h=>
  have O:(s.heap.update j (Obj.mapFields (·.setIfInBounds 1 (rawInt ((i:Int)+1))))).IsKeyIter j d (i+1) es.size ep:=by
   exact ⟨_,Ydq _ B rfl,rfl,rfl⟩
  have Z:Heap.SameBut j s.heap (s.heap.update j (Obj.mapFields (·.setIfInBounds 1 (rawInt ((i:Int)+1))))):=Ycr ..;have T1:=O.typeIs (s:={ s with heap:=s.heap.update j (Obj.mapFields (·.setIfInBounds 1 (rawInt ((i:Int)+1)))) });show wpAny _ _ _ _ _ { s with heap:=s.heap.update j (Obj.mapFields (·.setIfInBounds 1 (rawInt ((i:Int)+1)))) };generalize s.heap.update j (Obj.mapFields (·.setIfInBounds 1 (rawInt ((i:Int)+1))))=h1 at O Z T1 ⊢
  wp_walk using wpAny_isOneOf_keyiter T1
  exact ⟨_,rfl,q _ O Z⟩
theorem ZaU {Q:Aa->SS->Prop}(Z:A.handled=none)(B:s.heap.IsKeyIter j d i es.size ep)(O:s.heap.get? d=some o)(U:o.data=.dict es ep)(hi:es[i]?=none)(q:∀h' e,(∀c o,c≠j->s.heap.get? c=some o->h'.get? c=some o)->(∃o,h'.get? e=some o/\o.cls=.type "StopIteration")->E (.ref e) { s with heap:=h' }):wpAny (model prog w) A (Builtin.«dict_keyiterator.__next__» ⟨[.ref j],[]⟩) (λfin s'=>∃v,fin=.done (.ret v)/\Q v s') E s:=by
 obtain ⟨⟨c0,d0,t0,aa⟩,D,L,N⟩:=id B;subst L N;have T:=B.typeIs
 wp_walk using wpAny_fieldsOf D rfl,wpAny_dictEntries O U,wpAny_dictEpoch O U,Yfy T,wpAny_isOneOf_keyiter T
 rw [if_neg (by lia),Ydw,hi]
 wp_walk using Yfy T,wpAny_setField D rfl
 case hi=>exact (by decide:(0:Nat)<4)
 case h=>
  have Y:Heap.SameBut j s.heap (s.heap.update j (Obj.mapFields (·.setIfInBounds 0 Value.none))):=Ycr ..;show wpAny _ _ _ _ _ { s with heap:=s.heap.update j (Obj.mapFields (·.setIfInBounds 0 Value.none)) };generalize s.heap.update j (Obj.mapFields (·.setIfInBounds 0 Value.none))=h1 at Y ⊢
  wp_walk using wpAny_raiseNew_none Z
  exact q _ _ (λc o n e=>Yae _ (Yae _ (by rw [Y.2 c n];exact e))) ⟨_,Yaw _ rfl,rfl⟩
theorem ZaV (j:s.heap.IsKeyIter B d i es.size ep)(D:s.heap.get? d=some o)(L:o.data=.dict es ep)(hi:es[i]?=some e)(q:∀h',h'.IsKeyIter B d (i+1) es.size ep->Heap.SameBut B s.heap h'->Q (some e.key) { s with heap:=h' }):wpAny (model prog w) A (pyNext (.ref B)) Q E s:=by
 refine Yaa (Ydj (Ydx j.typeIs Yfz (Ycc Yfz j.typeIs F.entry_dict_keyiterator_next (ZaT j D L hi λh' k b=>?_) (F.args_dict_keyiterator_next_1 _))))
 wp_walk
 exact q h' k b
theorem ZaW (D:A.in1.handled=none)(j:s.heap.IsKeyIter B d i es.size ep)(L:s.heap.get? d=some o)(N:o.data=.dict es ep)(hi:es[i]?=none)(q:∀h',(∀c o,c≠B->s.heap.get? c=some o->h'.get? c=some o)->Q none { s with heap:=h' }):wpAny (model prog w) A (pyNext (.ref B)) Q E s:=by
 refine Yaa (Ydj (Ydx j.typeIs Yfz (Ycc Yfz j.typeIs F.entry_dict_keyiterator_next (ZaU D j L N hi ?_) (F.args_dict_keyiterator_next_1 _))));rintro h' e k ⟨o',O,U⟩;exact Yaa (Yew ⟨o',O,U⟩ isSubtype_stop (Yab (q h' k)))
theorem ZaX (L:(d == sysModules)=false)(j:s.heap.get? d=some o)(D:o.ExactDict)(B:o.data=.dict es ep)(q:∀h',h'.IsKeyIter s.heap.objs.size d 0 es.size ep->(∀c o,s.heap.get? c=some o->h'.get? c=some o)->Q (.ref s.heap.objs.size) { s with heap:=h' }):wpAny (model prog w) A (pyIter (.ref d)) Q E s:=by
 have T:s.TypeIs (.ref d) "dict" := ⟨o,j,D.1⟩;refine wpAny_pyIter_slot T F.slot_dict_iter (Ycc F.slot_dict_iter T F.entry_dict_iter ?_ (F.args_dict_iter_1 _))
 wp_walk using wpAny_notOrdered_dict T,wpAny_dictEntries j B,wpAny_dictEpoch j B
 exact ⟨_,rfl, "dict_keyiterator", _,⟨_,Yaw _ rfl,rfl⟩,F.slot_dict_keyiterator_next.lookup,q _ ⟨_,Yaw _ rfl,rfl,rfl⟩ λc o e=>Yae _ e⟩
end
section
variable {X:Cx}
theorem Zcu {α β:Type}{F:α->β->Prop}{l:List α}{m:List β}(h:Paired F l m):∀{i:Nat}{x:α},l[i]?=some x->∃y,m[i]?=some y/\F x y:=by
 induction h with
 | nil=>intro i x e;simp at e
 | @cons p q _ _ r _ ih=>
  intro i x e;cases i with
  | zero=>simp at e;subst e;exact ⟨q,by simp,r⟩
  | succ i=>simp at e;obtain ⟨y,h1,h2⟩:=ih e;exact ⟨y,by simpa using h1,h2⟩
end
structure GK (P:PP)(w:Ab)(κ:Type)[DecidableEq κ] where
 knd:HeapKind P w κ
 At:Hp->AD->κ->Prop
 ok:∀{H:Hp}{h:Heap}{b:AD}{k:κ},HOk P w H h->At H b k->knd.is h k b
 keep:∀{H H':Hp}{b:AD}{k:κ},At H b k->(∀p ys,H p=some (.tup ys)->H' p=some (.tup ys))->At H' b k
 room:∀{A:Around},A.units+71<cLine->knd.room A.in1
noncomputable abbrev GKv (κ:Type):=List (κ×AD×V)
section
variable {P:PP}{w:Ab}{κ:Type}[DecidableEq κ](G:GK P w κ)
noncomputable def GPr (p:κ×AD×V)(q:κ×AD×Aa):Prop:=p.1=q.1/\p.2.1=q.2.1/\RelV p.2.2 q.2.2
noncomputable def gd (a:AD)(kvs:GKv κ):HO:=.ext λh=>kvs.length<=sizeLine/\(a == sysModules)=false/\∃xs:List (κ×AD×Aa),Paired GPr kvs xs/\∃o es ep,h.get? a=some o/\o.ExactDict/\o.data=.dict es ep/\es.toList=xs.map (entryOfKey G.knd)/\(xs.map (·.1)).Nodup
noncomputable def GKeys (H:Hp)(kvs:GKv κ):Prop:=∀p∈kvs,G.At H p.2.1 p.1
noncomputable def O6 (kvs:GKv κ)(k:κ):Option V:=(kvs.find? λp=>decide (p.1=k)).map (·.2.2)
end
section
variable {P:PP}{w:Ab}{κ:Type}[DecidableEq κ]{G:GK P w κ}{H H':Hp}{h:Heap}{a:AD}{kvs:GKv κ}
theorem GKeys.keep (x:GKeys G H kvs)(t:∀p ys,H p=some (.tup ys)->H' p=some (.tup ys)):GKeys G H' kvs:=λp j=>G.keep (x p j) t
theorem ZaY (ok:HOk P w H h)(e:Rd H a (gd G a kvs))(K:GKeys G H kvs):kvs.length<=sizeLine/\(a == sysModules)=false/\∃xs,Paired GPr kvs xs/\h.DictOfH G.knd a xs:=by
 obtain ⟨⟨z,y,xs,r,o,es,ep,h1,h2,B,D,L⟩,_,_⟩:=(show ObjOk P w H h a (gd G a kvs) from e.ok ok);refine ⟨z,y,xs,r,o,es,ep,h1,h2,B,D,λx j=>?_,L⟩;have all:∀{l:GKv κ}{m:List (κ×AD×Aa)},Paired GPr l m->GKeys G H l->∀x∈m,G.knd.is h x.1 x.2.1:=by
  intro l m q
  induction q with
  | nil=>intro _ x j;cases j
  | @cons p q ps qs hq t ih=>
   intro K x j;rcases Yam.mp j with rfl | j
   ·rw [<-hq.1,<-hq.2.1];exact G.ok ok (K p (Ybg ..))
   ·exact ih (λy N=>K y (Ybe _ N)) x j
 exact all r K x j
theorem Ys (r:Paired GPr kvs xs)(k:κ):RelO (O6 kvs k) ((atKey xs k).map (·.2)):=by
 induction r with
 | nil=>exact True.intro
 | @cons p q ps qs h t L=>
  obtain ⟨h1,_,h2⟩:=h;by_cases e:p.1=k
  ·have j:q.1=k:=h1.symm.trans e;have B:O6 (p::ps) k=some p.2.2:=by simp [O6,Ydl,e]
   have D:atKey (q::qs) k=some q.2:=by simp [atKey,Ydl,j]
   rw [B,D];exact h2
  ·have j:¬ q.1=k:=λz=>e (h1.trans z);have B:O6 (p::ps) k=O6 ps k:=by simp [O6,Ydl,e]
   have D:atKey (q::qs) k=atKey qs k:=by simp [atKey,Ydl,j]
   rw [B,D];exact L
theorem Zdo (z:kvs.length<=sizeLine)(y:(a == sysModules)=false)(r:Paired GPr kvs xs)(dd:h.DictOfH G.knd a xs):ObjOk P w H' h a (gd G a kvs):=by
 obtain ⟨o,es,ep,h1,h2,B,D,_,L⟩:=dd;refine ⟨⟨z,y,xs,r,o,es,ep,h1,h2,B,D,L⟩,⟨o,h1⟩,λZ g2 x k=>?_⟩;obtain ⟨N,O,xs',r',o',j,q,U,Y⟩:=x;exact ⟨N,O,xs',r',o',j,q,k _ U,Y⟩
theorem Zcv (h:Heap)(j:sysModules<h.objs.size):ObjOk P w H (h.push { cls:=.type "dict", data:=.dict #[] }) h.objs.size (gd G h.objs.size ([]:GKv κ)):=by
 have e:(h.push { cls:=.type "dict", data:=.dict #[] }).get? h.objs.size=some { cls:=.type "dict", data:=.dict #[] }:=Yaw _ rfl;refine Zdo (Yat _) (Yea.mpr (Ydd j)) .nil ⟨_,#[],_,e,⟨rfl,rfl,rfl⟩,rfl,rfl,λx q=>(by cases q),Yee⟩
end
noncomputable def Zk {P:PP}{w:Ab}{κ:Type}[DecidableEq κ](G:GK P w κ)(H:Hp)(a:AD)(y:V)(o:Option V):Prop:=∃kvs k b,Rd H a (gd G a kvs)/\GKeys G H kvs/\y=.ref b/\G.At H b k/\o=O6 kvs k
section
variable {X:Cx}{κ:Type}[DecidableEq κ]{G:GK X.prog X.w κ}{qQ:List (AD×Obj)}{σ:St}{H:Hp}{s:SS}{a:AD}{y v d:V}{u r:Aa}{o:Option V}{A:Around}{E:Aa->SS->Prop}
theorem Zel (B:A.units+71<cLine)(I:Inv X qQ σ H s)(g:Zk G H a y o)(D:RelV y u)(h:∀s',Inv X qQ σ H s'->Q (.bool (!o.isSome)) s') :
  wpAny (model X.prog X.w) A (compareOp .NotIn u (.ref a)) Q E s:=by
 obtain ⟨kvs,k,b,e,K,rfl,L,rfl⟩:=g;cases (show u=Value.ref b from D);obtain ⟨z,N,xs,j,O⟩:=ZaY I.hok e K;refine wpAny_notIn_heap (G.room B) (G.ok I.hok L) N O ?_;have q:=(Ys j k).isSome_eq;rw [Option.isSome_map] at q;rw [<-q];exact h _ (I.tok _)
theorem ZaZ (D:A.units+71<cLine)(I:Inv X qQ σ H s)(g:Zk G H a y (some v))(L:RelV y u)(h:∀j s',Inv X qQ σ H s'->RelV v j->Q j s') :
  wpAny (model X.prog X.w) A (getItem (.ref a) u) Q E s:=by
 obtain ⟨kvs,k,b,e,K,rfl,N,O⟩:=g;cases (show u=Value.ref b from L);obtain ⟨z,hd,xs,q,U⟩:=ZaY I.hok e K;obtain ⟨j,Y,B⟩:=RelO.some_of (v:=v) (o:=(atKey xs k).map (·.2)) (by rw [O];exact Ys q k);obtain ⟨p,Z,rfl⟩:=Ybw.mp Y;exact wpAny_getItem_heap (G.room D) (G.ok I.hok N) U Z (h _ _ (I.tok _) B)
theorem Za0 (L:A.units+71<cLine)(I:Inv X qQ σ H s)(e:H a=some (gd G a kvs))(K:GKeys G H kvs)(N:G.At H b k)(O:O6 kvs k=none)(hl:kvs.length<sizeLine)(U:RelV v r)(h:∀s',Inv X qQ σ (upd H a (gd G a (kvs++[(k,b,v)]))) s'->Q () s'):wpAny (model X.prog X.w) A (setItem (.ref a) (.ref b) r) Q E s:=by
 obtain ⟨z,Y,xs,j,Z⟩:=ZaY I.hok (.inl e) K;have hz:xs.length<=sizeLine:=by rw [<-Ycv j];exact z
 have D:atKey xs k=none:=Yfi.mp (RelO.none_of (by rw [<-O];exact Ys j k));refine wpAny_setItem_heap (hsz:=hz) (G.room L) (G.ok I.hok N) Z λh' B hs=>h _ ?_;rw [storedH_new D] at B;have he:∃q,h'.get? a=some q:=let ⟨q,_,_,hq,_⟩:=B;⟨q,hq⟩;exact VS I (by rw [e];exact True.intro) hs he (Zdo (by rw [Yak,Ybc];lia) Y (Paired.snoc j ⟨rfl,rfl,U⟩) B)
theorem Inv.freezeG (I:Inv X qQ σ H s)(e:H a=some (gd G a kvs)):∃o,Inv X qQ σ (upd H a (.frz o (gd G a kvs))) s:=by
 have B:ObjOk X.prog X.w H s.heap a (gd G a kvs):=I.hok a _ e;obtain ⟨⟨_,_,_,_,o,_,_,h1,_⟩,_⟩:=id B;have j:ObjOk X.prog X.w (upd H a (.frz o (gd G a kvs))) s.heap a (gd G a kvs):=B;exact ⟨o,I.write (x:=a) (e:=a) (o:=.frz o (gd G a kvs)) (h':=s.heap) (t':=s.toks) (by rw [e];exact True.intro) (.inl rfl) (λb u _ q=>q) ⟨_,h1⟩ ⟨h1,j⟩⟩
end
section
variable {X:Cx}{κ:Type}[DecidableEq κ]{G:GK X.prog X.w κ}{qQ:List (AD×Obj)}{σ:St}{H:Hp}{s:SS}{a:AD}
theorem Za1 (I:Inv X qQ σ H s)(g:Zk G H a y o):s.TypeIs (.ref a) "dict" /\ ∀b,Value.ref a=.ref b->∃j,s.heap.get? b=some j/\j.dict=none:=by
 obtain ⟨kvs,k,b,e,K,_,_,_⟩:=g;obtain ⟨_,_,xs,_,B⟩:=ZaY I.hok e K;refine ⟨B.typeIs,λb q=>?_⟩;cases q;obtain ⟨j,_,_,h1,h2,_⟩:=B;exact ⟨j,h1,h2.2.1⟩
end
section
variable {P:PP}{w:Ab}{κ:Type}[DecidableEq κ](G:GK P w κ)
noncomputable def ZhL:TE:=λ_ H Q=>∀p,H p=none->Q (.ref p) (upd H p (gd G p ([]:GKv κ)))
noncomputable def Zem (ty td:TE):TE:=λσ H Q=>ty σ H λy H1=>td σ H1 λx H2=>∃a o,x=.ref a/\Zk G H2 a y o/\Q (.bl (!o.isSome)) H2
noncomputable def Zic (td ty:TE):TE:=λσ H Q=>td σ H λx H1=>ty σ H1 λy H2=>∃a v,x=.ref a/\Zk G H2 a y (some v)/\Q v H2
noncomputable def ZhM (td ty tv:TE):TS:=λD σ H=>tv σ H λv H1=>td σ H1 λx H2=>ty σ H2 λy j=>∃a b kvs k,x=.ref a/\y=.ref b/\j a=some (gd G a kvs)/\GKeys G j kvs/\G.At j b k/\O6 kvs k=none/\kvs.length<sizeLine/\D.nx σ (upd j a (gd G a (kvs++[(k,b,v)])))
end
section
variable {X:Cx}{κ:Type}[DecidableEq κ]{G:GK X.prog X.w κ}{o i e f value:Expr}{pos pos' apos qG:Pos}{td ty tv tx:TE}
theorem Za2:PE X (.Dict [] [] pos) (ZhL G):=λqQ s σ H Q I h=>
 wpAny_Dict_empty ⟨.ref s.heap.objs.size,_,I.laid (a:=s.heap.objs.size) (o:=gd G s.heap.objs.size ([]:GKv κ)) (t':=s.toks) (λ_ _ q=>Yae _ q) (Yaf _) (Zcv s.heap I.big),rfl,h _ (I.hok.fresh (Yaf _))⟩
theorem Za3 (j:X.A.units+71<cLine)(hi:PE X i ty)(q:PE X o td):PC X .NotIn i o (Zem G ty td):=by
 intro qQ s σ H Q I h;refine thG (hi qQ s σ H _ I h) λiv B y H1 D L N=>thG (q qQ B σ H1 _ D N) λu s2 x H2 O U ⟨a,Y,ex,g,Z⟩=>?_;subst ex;obtain rfl:u=Value.ref a:=U;exact Zel j O g L λs3 I3=>⟨.bl (!Y.isSome),H2,I3,rfl,Z⟩
theorem OX (B:X.A.units+71<cLine)(D:PE X o td)(hi:PE X i ty)(L:Zft i):PE X (.Subscript o i pos) (Zic G td ty):=by
 intro qQ s σ H Q I h;refine Zab PySem.F.slot_dict_getitem.lookup L (thG (D qQ s σ H _ I h) λu N x H1 O U Y=>thG (hi qQ N σ H1 _ O Y) λiv s2 y H2 q Z ⟨a,v,ex,g,q2⟩=>?_);subst ex;obtain rfl:u=Value.ref a:=U;exact ⟨(Za1 q g).1,ZaZ B q g Z λw' s3 I3 j=>⟨v,H2,I3,j,q2⟩⟩
theorem Xy (j:X.A.units+71<cLine)(q:PE X o td)(hi:PE X i ty)(B:PE X value tv)(L:swapsWith value (some (.Subscript o i pos')) pos.line X.env=pure false) :
  PS X (.Assign [.Subscript o i pos'] value pos) (ZhM G td ty tv):=by
 intro qQ s σ H D I h;refine wpAny_Assign_Subscript (thG (B qQ s σ H _ I h) λr N v H1 O U Y=>thG (q qQ N σ H1 _ O Y) λu Z x H2 I2 rx q2=>thG (hi qQ Z σ H2 _ I2 q2) λiv s3 y H3 I3 ry ⟨a,b,kvs,k,ex,ey,ea,K,kb,hn,hl,q3⟩=>?_) L;subst ex ey;obtain rfl:u=Value.ref a:=rx;obtain rfl:iv=Value.ref b:=ry;exact Za0 j I3 ea K kb hn hl U λs4 I4=>⟨σ,_,I4,q3⟩
end
section
variable {X:Cx}{κ:Type}[DecidableEq κ]
noncomputable def ItG {P:PP}{w:Ab}(G:GK P w κ)(a:AD)(o:Obj)(kvs:GKv κ):It:=
 ⟨λi H=>H a=some (.frz o (gd G a kvs))/\i<kvs.length,λi H x H'=>H'=H/\∃k b v,kvs[i]?=some (k,b,v)/\x=.ref b,λi H=>H a=some (.frz o (gd G a kvs))/\kvs.length<=i⟩
theorem Wn {G:GK X.prog X.w κ}{σ:St}{H:Hp}{s:SS}{a:AD}{o:Obj}{kvs:GKv κ}(I:Inv X qQ σ H s)(e:H a=some (.frz o (gd G a kvs))) :
  (a == sysModules)=false/\s.heap.get? a=some o/\o.ExactDict/\∃es ep,o.data=.dict es ep/\es.size=kvs.length/\∀(i:Nat) k b v,kvs[i]?=some (k,b,v)->∃j:DictEntry,es[i]?=some j/\j.key=.ref b:=by
 obtain ⟨h1,⟨z,B,xs,r,o',es,ep,h2,D,L,q,Z⟩,_⟩:=(show ObjOk X.prog X.w H s.heap a (.frz o (gd G a kvs)) from I.hok a _ e);rw [h1] at h2;cases h2;refine ⟨B,h1,D,es,ep,L,?_,λi k b v hi=>?_⟩
 ·rw [<-Yan,q,Yac,Ycv r]
 ·obtain ⟨⟨N,O,u⟩,U,e1,Y,_⟩:=Zcu r hi;refine ⟨entryOfKey G.knd (N,O,u),?_,?_⟩
  ·rw [<-Yax,q,Yaz,U]
   rfl
  ·exact Ybh Value.ref Y.symm
theorem Zl {P:PP}{w:Ab}{G:GK P w κ}{K:FG}{tg:Expr}(a it:AD)(o:Obj)(kvs:GKv κ)(es:Array DictEntry)(ep:Nat)(ho:o.data=.dict es ep)(hsz:es.size=kvs.length) :
  ZbH P w K tg (ItG G a o kvs) [it] it (λi h=>h.IsKeyIter it a i es.size ep) where
 mem:=by simp
 obj:=λi h st b hb=>by
  have e:b=it:=by simpa using hb
  subst e;obtain ⟨o,e,c,d⟩:=st;exact ⟨o,e,λv z=>by rw [d] at z;cases z⟩
 keep:=λi h h' st k=>by
  obtain ⟨o,e,c,d⟩:=st;exact ⟨o,k it (by simp) o e,c,d⟩
 item:=by
  intro X hP hw hK hc i qQ s σ H E I hf st hg;subst hP hw hK;obtain ⟨hq,hi⟩:=hg;obtain ⟨hd,h1,h2,es',ep',h3,h4,h5⟩:=Wn I hq;rw [ho] at h3;cases h3;obtain ⟨⟨k,b,v⟩,hx⟩:∃x,kvs[i]?=some x:=⟨_,Yba hi⟩;obtain ⟨de,hde,hkey⟩:=h5 i k b v hx;obtain ⟨f0,f1,f2,f3,f4,f5⟩:=hf it (by simp);refine ZaV st h1 ho hde λh' st' sb=>?_;have I1:Inv X qQ σ H { s with heap:=h' }:=I.turned (t':=s.toks) (λb o hb e=>(sb.2 b hb).trans e) f0 f1 f3 f4 f5;obtain ⟨o',e,c,d⟩:=id st';exact ⟨de.key,rfl,ZbI (s:={ s with heap:=h' }) e c d (by decide) ⟨.ref b,H,I1,hkey,⟨rfl,k,b,v,hx,rfl⟩,st',λb hb=>(hf b hb).1⟩⟩
 done:=by
  intro X hP hw hK hc i qQ s σ H E I hf st hg;subst hP hw hK;obtain ⟨hq,hi⟩:=hg;obtain ⟨hd,h1,h2,es',ep',h3,h4,h5⟩:=Wn I hq;rw [ho] at h3;cases h3;obtain ⟨f0,f1,f2,f3,f4,f5⟩:=hf it (by simp);exact ZaW (I.ok.hd hc) st h1 ho (Yfs (by lia)) λh' eb=>⟨rfl,I.turned (t':=s.toks) (λb o hb e=>eb b o hb e) f0 f1 f3 f4 f5⟩
 self:=λ_ _ _ _ _ st h=>wpAny_pyIter_keyiter st h
noncomputable def ZfJ {P:PP}{w:Ab}(G:GK P w κ)(tl:TE):TI:=λσ H R=>tl σ H λx H1=>∃a kvs,x=.ref a/\((H1 a=some (gd G a kvs)/\∀o,R (ItG G a o kvs) (upd H1 a (.frz o (gd G a kvs))))\/∃o,H1 a=some (.frz o (gd G a kvs))/\R (ItG G a o kvs) H1)
theorem Yt {G:GK X.prog X.w κ}(N:PE X l tl):PI X tg l (ZfJ G tl):=by
 intro qQ s σ H R I h;refine thG (N qQ s σ H _ I h) λv B x H1 D O U=>?_;obtain ⟨a,kvs,e,q⟩:=U;subst e;cases O;obtain ⟨o,H2,j,Y,Z⟩:∃o H2,Inv X qQ σ H2 B/\H2 a=some (.frz o (gd G a kvs))/\R (ItG G a o kvs) H2:=by
  rcases q with ⟨e,q⟩ | ⟨o,e,q⟩
  ·obtain ⟨o,j⟩:=D.freezeG e;exact ⟨o,_,j,Gc,q o⟩
  ·exact ⟨o,H1,D,e,q⟩
 obtain ⟨hd,h1,h2,es,ep,L,h4,h5⟩:=Wn j Y;refine ZaX hd h1 h2 L λh' st kp=>?_;refine ⟨B.heap.objs.size,[B.heap.objs.size],_,_,H2,rfl,j.kept (t':=B.toks) kp,Zl a _ o kvs es ep L h4,st,λb hb=>?_,Z⟩;have e:b=B.heap.objs.size:=by simpa using hb
 subst e;exact j.fpOk (Yaf _) (j.hok.fresh (Yaf _))
theorem Za4 {G:GK P w κ}(j:Nat->St->Hp->Prop)(h0:j 0 σ H)(q:∀i σ H,i<=kvs.length->j i σ H->H a=some (.frz o (gd G a kvs)))(B:∀i k b v σ H,kvs[i]?=some (k,b,v)->j i σ H->g (.ref b) σ H λL H2=>tb { D with nx:=j (i+1),ct:=j (i+1),bk:=D.nx } L H2)(N:∀ σ H,j kvs.length σ H->D.nx σ H) :
  YK (ItG G a o kvs) g tb D σ H:=UG j h0 (λi s H hi p=>⟨λz=>⟨q i s H hi p,z⟩,λe=>⟨q i s H hi p,Nat.le_of_eq e.symm⟩⟩) (λi s H x H' z p y=>by obtain ⟨rfl,k,b,v,O,rfl⟩:=y;exact B i k b v s _ O p) N
theorem Zm {G:GK P w κ}(j:Nat->List V->Hp->Prop)(h0:j 0 [] (upd H1 D (.lst [])))(B:∀i ys H,i<=kvs.length->j i ys H->H a=some (.frz o (gd G a kvs)))(O:∀i k b v ys H,kvs[i]?=some (k,b,v)->j i ys H->g (.ref b) σ0 H λq U=>GQ σ0 q/\tc q U λc L=>if c=true then te q L λy N=>N D=some (.lst ys)/\ys.length<sizeLine/\j (i+1) (ys++[y]) (upd N D (.lst (ys++[y]))) else j (i+1) ys L)(Y:∀ys H,j kvs.length ys H->R H):Vo (ItG G a o kvs) D g tc te σ0 R H1:=OE j h0 (λi s H hi p=>⟨λz=>⟨B i s H hi p,z⟩,λe=>⟨B i s H hi p,Nat.le_of_eq e.symm⟩⟩) (λi s H x H' z p y=>by obtain ⟨rfl,k,b,v,Z,rfl⟩:=y;exact O i k b v s _ Z p) Y
end
section
variable {X:Cx}
noncomputable def ZfK (i:Nat)(f:AD)(sp:Sp)(dvs:List V)(E:XK)(t:TA):TE:=λσ H Q=>σ[i]?=some (some (.ref f))/\ZdJ sp dvs E t σ H Q
theorem Zcw (F:GE X.prog X.w X.K X.mg X.base CX k f fd ps sp)(L:Room k X.A)(N:PE X (.Name x p) (Zt i))(O:W.keepIn X.K (.ref f)=true)(U:Binds X.K fd ps ds)(Y:Vals dvs ds)(Z:Oo CX X E)(ha:PA X (e::es) t)(he:starEach (e::es) X.env=(false,eval e X.env)::starEach es X.env:=by rfl)(j:(backTo pos (starEach es X.env)).any (·.1)=false:=by rfl):PE X (.Call (.Name x p) (e::es) [] pos) (ZfK i f sp dvs E t):=by
 intro qQ s σ H Q I h;refine Yej (thG (N qQ s σ H (λv H'=>v=.ref f/\H'=H) I ⟨_,h.1,rfl,rfl⟩) λu s1 v H1 B r1 ⟨ev,eH⟩=>?_);subst ev eH;obtain rfl:u=Value.ref f:=r1;refine W.callWith_K (h₀:=X.base) B.ok.mod.kin O (thG (ha pos qQ s1 σ H1 _ B h.2) λus s2 vs H2 D r q=>⟨D.kIn,?_⟩) he j;exact ZQ F L U Y Z D r q
end
section
variable {prog:PP}{w:Ab}{A:Around}{E:Aa->SS->Prop}{s:SS}
theorem Vh {J:SS->Prop}(hv:s.heap.IsList r vs.toArray)(hz:vs.length<=sizeLine)(hl:kz.length=vs.length)(hJ:∀h' tk,(∀c o,s.heap.get? c=some o->h'.get? c=some o)->J { s with heap:=h',toks:=tk })(put:∀(B:SS)(c:AD)(f:Obj->Obj),s.heap.objs.size<=c->J B->J { B with heap:=B.heap.update c f })(N:∀(i:Nat)(v:Aa)(k:Int)(B:SS)(R:Aa->SS->Prop)(E':Aa->SS->Prop),vs[i]?=some v->kz[i]?=some k->J B ->
   (∀t D,J D->B.heap.objs.size<=D.heap.objs.size->(∀c o,s.heap.objs.size<=c->B.heap.get? c=some o->D.heap.get? c=some o)->R (.int k t) D)->wpAny (model prog w) A.in1.in1 (call (.ref q) [v]) R E' B)(fin:∀(D:SS)(l:AD)(out:Array Aa)(c:Nat),J D->s.heap.objs.size<=l->D.heap.get? l=some (seqObj "list" out c)->Fall kz vs out.toList->Q (.ref l) D) :
  wpAny (model prog w) A (call (.builtin "sorted") [.ref r] [(Str.ofString "key", .ref q),(Str.ofString "reverse", .bool true)]) Q E s:=by
 have aa:=Yav;refine call_function_entry_kw kind_sorted plain_sorted entry_sorted (ksk_s2 _ _ _) ?_;unfold Builtin.sorted;refine Yaa (Yab ?_);refine Yaa (collect_list hv ?_ hz);generalize hh1:(s.heap.push (seqObj "list" #[] 0)).update s.heap.objs.size (Obj.mapSeq λx=>x++vs.toArray)=h1;have sz:s.heap.objs.size<=h1.objs.size:=by rw [<-hh1,Heap.size_update,Ybn];exact Ydt _
 have k1:∀c o,s.heap.get? c=some o->h1.get? c=some o:=λc o e=>by
  rw [<-hh1];exact Jo (Yar (Yah e)) (Yae _ e)
 refine Yaa (Yfb ?_ hz);have Z:∀c o,s.heap.get? c=some o->(h1.push { cls:=Value.type "list", data:=Data.seq vs.toArray }).get? c=some o:=λc o e=>Yae _ (k1 c o e);have O:(h1.push { cls:=Value.type "list", data:=Data.seq vs.toArray }).get? h1.objs.size=some (seqObj "list" vs.toArray 0):=Yaw _ rfl;have zz:(h1.push { cls:=Value.type "list", data:=Data.seq vs.toArray }).objs.size=h1.objs.size+1:=Ybn ..;show wpAny _ _ _ _ _ { s with heap:=h1.push { cls:=Value.type "list", data:=Data.seq vs.toArray } };have L:∀h':Heap,(∀c o,s.heap.get? c=some o->h'.get? c=some o)->J { s with heap:=h' }:=λh' k=>hJ h' s.toks k;generalize h1.push { cls:=Value.type "list", data:=Data.seq vs.toArray }=h2 at Z O zz ⊢;refine Yaa (Ycb (wpAny_call_entry_kw (s:={ s with heap:=h2 }) slot_list_sort ⟨_,O,rfl⟩ entry_list_sort ?_ (ksk_l2 _ _ _)));refine OW (s:={ s with heap:=h2 }) (J:=λB=>J B) O hz hl ⟨λB c f U j=>put B c f (by rcases U with rfl | rfl;exact sz;show _<=h2.objs.size+1;lia) j⟩ ?_ ?_ ?_
 ·refine L _ λc o e=>Yae _ (Yae _ ((Ycn _ _ ?_).trans (Z c o e)));exact Ydd (Ybk (Yah e) sz)
 ·intro i v k B R E' Y hk j _ hR;exact N i v k B R E' Y hk j λt D j2 l2 kp=>hR t D j2 l2 λc o U e=>kp c o (by rcases U with rfl | rfl;exact sz;show _<=h2.objs.size+1;lia) e
 ·intro D out c j e F;exact ⟨.none,rfl,Yab ⟨_,rfl,fin D _ out c j sz e F⟩⟩
end
section
variable {X:Cx}
theorem Yu:∀{bs:List AD}{us:LW}{i:Nat}{v:Aa},Vals (bs.map V.ref) us->us[i]?=some v->∃b,bs[i]?=some b/\v=.ref b
 | [],_,i,v,h,e=>by cases h;simp at e
 | b::bs,_,0,v,h,e=>by
  cases h with
  | cons r t=>cases r;simp at e;exact ⟨b,rfl,e.symm⟩
 | b::bs,_,i+1,v,h,e=>by
  cases h with
  | cons r t=>obtain ⟨c,h1,h2⟩:=Yu (i:=i) t (by simpa using e);exact ⟨c,by simpa using h1,h2⟩
theorem Za5:∀{bs:List AD}{us:LW},Vals (bs.map V.ref) us->us=bs.map Value.ref
 | [],_,h=>by cases h;rfl
 | b::bs,_,h=>by
  cases h with
  | cons r t=>cases r;rw [Za5 t];rfl
theorem Uo:∀bs:List AD,Vals (bs.map V.ref) (bs.map Value.ref)
 | []=>.nil
 | b::bs=>.cons rfl (Uo bs)
theorem Zn {κ:Type}[DecidableEq κ]{G:GK X.prog X.w κ}(D:A.units+71<cLine)(I:Inv X qQ σ H s)(g:Zk G H a y (some v))(L:RelV y u)(h:∀j tk,RelV v j->Q j { s with toks:=tk }) :
  wpAny (model X.prog X.w) A (getItem (.ref a) u) Q E s:=by
 obtain ⟨kvs,k,b,e,K,rfl,N,O⟩:=g;cases (show u=Value.ref b from L);obtain ⟨z,hd,xs,q,U⟩:=ZaY I.hok e K;obtain ⟨j,Y,B⟩:=RelO.some_of (v:=v) (o:=(atKey xs k).map (·.2)) (by rw [O];exact Ys q k);obtain ⟨p,Z,rfl⟩:=Ybw.mp Y;exact wpAny_getItem_heap (G.room D) (G.ok I.hok N) U Z (h _ _ B)
noncomputable def ZfL {P:PP}{w:Ab}{κ:Type}[DecidableEq κ](G:GK P w κ)(K:FG)(j:Nat)(qual:Str)(params:Arguments)(body:Expr)(scope:Scope)(clos:List (Str×AD))(pm:Aa):St->List V->List V->Hp->VK->Prop:=λσ xs zs H Q=>
 ∃(r f c nd:AD)(oc:Obj)(ctv:Aa)(ts:List (AD×Int)),xs=[.ref r]/\zs=[.ref f,.bl true]/\SqL K H r (ts.map λt=>V.ref t.1) /\
  H f=some (.frz (W.kla_obj "<lambda>" qual params body scope clos pm c ctv) (.own f))/\H c=some (.frz oc (.own c))/\Zei qual oc/\σ[j]?=some (some (.ref nd)) /\
  (∀t∈ts,∃(b:AD)(ys:List V),Zk G H nd (.ref t.1) (some (.ref b))/\SqT K H b (V.int t.2::ys)) /\
  ∀(l:AD)(ps:List (AD×Int)),H l=none->ps.Perm ts->ps.Pairwise (λp q=>q.2<=p.2)->Q (.ref l) (upd H l (.lst (ps.map λt=>V.ref t.1)))
theorem Zo {κ:Type}[DecidableEq κ]{G:GK X.prog X.w κ}{K:FG}(hK:X.K=K)(jJ:X.A.in1.in1.depth<recursionLimit)(hu:X.A.units+80<cLine)(hN:X.N[j]?=some y)(hv:Vis X.env.scope y)(ah:X.env.kindOf y=some .cell)(ai:X.env.cells.lookup y=some cc)(aj:scope.isCoroutine=false)(Y:scope.isGenerator=false)(hk:scope.kind=.function)(U:∀(c:AD)(ctv arg:Aa),bindArgs (W.kla_fn "<lambda>" qual params (.Subscript (.Subscript (.Name y p1) (.Name x p2) p5) (.Constant (.int 0) d2 p6) p7) scope [(y,cc)] pm (.ref c) ctv) ⟨[arg],[]⟩=pure [(x,arg)])(Z:scope.names.lookup x=some .local)(ak:scope.names.lookup y=some .free)(jX:∀z∈scope.names,z.2≠.cell)(al:(x == ("__debug__" : Str))=false)(am:(y == ("__debug__" : Str))=false)(an:(y == ("__classdict__" : Str))=false)(qQ:List (AD×Obj))(s:SS)(σ:St)(H:Hp)(xs:List V)(us:LW)(zs:List V)(ws:LW)(Q:VK)(I:Inv X qQ σ H s)(rx:Vals xs us)(rz:Vals zs ws)(h:ZfL G K j qual params (.Subscript (.Subscript (.Name y p1) (.Name x p2) p5) (.Constant (.int 0) d2 p6) p7) scope [(y,cc)] pm σ xs zs H Q) :
  wpAny (model X.prog X.w) X.A (call (.builtin "sorted") us (([Str.ofString "key", Str.ofString "reverse"]:List Str).zip ws)) (EP X qQ σ Q) X.xe s:=by
 subst hK;obtain ⟨r,f,c,nd,oc,ctv,ts,rfl,rfl,er,ef,ec,⟨ao,tq,ap,aq⟩,eσ,ht,q⟩:=h;obtain ⟨u,rfl,ru⟩:=rx.one;cases ru;obtain ⟨u1,u2,rfl,ar,as⟩:=rz.two;cases ar;cases as;obtain ⟨its,rv,pl,hz⟩:=I.list er;have qV:=rv.length;rw [Yac] at qV hz;have a2:=Yav.symm;have aa:Vals ((ts.map Prod.fst).map V.ref) its:=by rw [Ydg];exact rv
 have B:∀(h1:Heap)(tk:Nat),(∀b o,s.heap.get? b=some o->h1.get? b=some o)->Inv X qQ σ H { s with heap:=h1,toks:=tk }:=λh1 tk k=>I.kept (t':=tk) k;show wpAny (model X.prog X.w) X.A (call (.builtin "sorted") [.ref r] [(Str.ofString "key", .ref f),(Str.ofString "reverse", .bool true)]) (EP X qQ σ Q) X.xe s;refine Vh (kz:=ts.map (·.2)) (vs:=its) (J:=λs1=>∃h1 tk,s1={ s with heap:=h1,toks:=tk }/\∀b o,s.heap.get? b=some o->h1.get? b=some o) pl.isList (by lia) (by rw [Yac];exact qV)
  (λh1 tk k=>⟨h1,tk,rfl,k⟩) ?_ ?_ ?_
 ·rintro s1 d g hd ⟨h1,tk,rfl,k⟩;exact ⟨_,tk,rfl,λb o e=>(Ycn _ _ (Ydd (Ybk (Yah e) hd))).trans (k b o e)⟩
 ·rintro i v k s1 R E' au ab ⟨h1,tk,rfl,kp⟩ hR;have I1:=B h1 tk kp;obtain ⟨D,ac,rfl⟩:∃D,ts[i]?=some D/\D.2=k:=by
   rw [Yaz] at ab;obtain ⟨D,h1,h2⟩:=Ybw.mp ab;exact ⟨D,h1,h2⟩
  obtain ⟨b0,ad,rfl⟩:=Yu aa au;have av:b0=D.1:=by
   rw [Yaz,ac] at ad;exact (Ybl ad).symm
  subst av;have of:h1.get? f=some (W.kla_obj "<lambda>" qual params (.Subscript (.Subscript (.Name y p1) (.Name x p2) p5) (.Constant (.int 0) d2 p6) p7) scope [(y,cc)] pm c ctv):=(I1.hok f _ ef).1;have aw:h1.get? c=some oc:=(I1.hok c _ ec).1;refine Yl (s:={ s with heap:=h1,toks:=tk }) (x:=x) jJ of ⟨c,oc,ao,tq,rfl,aw,ap,aq⟩ (I1.ok.mod.nolimit.keeps I1.bk) aj Y hk (U _ _ _) Z jX λh2 L k2 sz ax=>?_;have I2:Inv X qQ σ H { s with heap:=h2,toks:=tk+1 }:=B h2 (tk+1) λb o e=>k2 b o (kp b o e);obtain ⟨m,hm,lk⟩:=I2.loc;obtain ⟨u,ru,lu⟩:=lk j y _ hN eσ hv;cases ru;have ay:h2.IsCell cc (some (.ref nd)):=by
   rcases lu with ⟨z,_⟩ | ⟨_,c2,z1,z2⟩
   ·rw [ah] at z;cases z
   ·rw [ai] at z1;cases z1;exact z2
  obtain ⟨b,ys,gg,hb⟩:=ht D (Ybf ac);refine Subscript_ (Subscript_ (wpAny_Name (wpAny_loadName_free hk ak (by simp) ay ?_ an) am));refine wpAny_Name (wpAny_loadName_local hk Z ax (show (λz=>[(x,Value.ref D.1)].reverse.lookup z) x=some (.ref D.1) by simp) ?_) al;refine tail_any (ops:=[.ref nd,.ref D.1]) (Za1 I2 gg).1 PySem.F.slot_dict_getitem.lookup (Zn (s:={ s with heap:=h2,toks:=tk+1 }) (by show X.A.units+1+1+3+71<cLine;lia) I2 gg rfl λw' ae az=>?_) rfl;obtain rfl:w'=Value.ref b:=az;have I3:Inv X qQ σ H { s with heap:=h2,toks:=ae }:=B h2 ae λb o e=>k2 b o (kp b o e);obtain ⟨O,af,ag,a1⟩:=I3.tuple hb;obtain ⟨uk,gk,rk⟩:=af.get (show (V.int D.2::ys)[0]?=some (V.int D.2) from rfl);obtain ⟨tu,rfl⟩:=rk;have a3:0<O.length:=(Yao.mp gk).1;have a4:O.length<=sizeLine:=by rw [<-af.length];exact a1
  refine wpAny_Constant_int ?_;exact subscriptTail_builtinR (x:=.int D.2 tu) ag.typeIs slot_tuple_getitem.lookup (getItem_tuple (j:=0) (Q:=λr s'=>r=.int D.2 tu/\R r s') ag (by decide) (by decide) (by rw [Yau,seqIndex_of (by lia) (by lia)];rfl) (by simpa using gk) ⟨rfl,hR tu _ ⟨h2,_,rfl,λb o e=>k2 b o (kp b o e)⟩ sz λb o _ e=>k2 b o e⟩) rfl
 ·rintro s2 l out cn ⟨h1,tk,rfl,kp⟩ hl eL ⟨ps,pm,po,pw⟩;have ei:=Za5 aa;have ez:(ts.map (·.2)).zip its=ts.map λt=>(t.2,Value.ref t.1):=by
   rw [ei,Ydg,List.zip_map']
   rfl
  rw [ez] at pm;obtain ⟨qs,q1,rfl⟩:=JO pm;have eo:out.toList=(qs.map Prod.fst).map Value.ref:=by
   rw [po,Ydg,Ydg]
   rfl
  rw [Ybs] at pw;have a5:=q1.length_eq;refine ⟨.ref l,_,I.laid (a:=l) (o:=.lst (qs.map λt=>V.ref t.1)) (h':=h1) (t':=tk) kp hl ⟨by rw [Yac];lia,out.toList,cn,?_,by simpa [seqObj] using eL⟩,rfl,q l qs (I.hok.fresh hl) q1 pw⟩;rw [eo];have:=Uo (qs.map Prod.fst);rw [Ydg] at this;exact this
end
noncomputable def Zdp (j:List AD)(H:Hp):Prop:=∀b,b ∉ j->H b=none\/∃o xs,H b=some (.frz o (.lst xs))
theorem Zp {K:FG}{cs:List (AD×AD)}(KX:K.In j.heap)(ae:j.heap.Ns mainGlobals mg)(D:j.heap.Ns builtinsNs mb)(aq:∀x:Str,x ≠ "__name__" -> mb x=bootBuiltins x)(af:j.heap.NoLimit)(hg:j.gens=#[])(C:∀t∈cs,W.CodeHd j.heap t.1 t.2)(hP:∀t∈cs,j.heap.get? t.2=some (W.tabObj #[]))(ar:∀t∈cs,K.lookup t.2=none)(hB:∀t∈cs,j.heap.BuiltinsAt mg t.2)(ha:j.heap.get? a=some { cls:=.type "list", data:=.seq vs.toArray })(hi:IntsAre vs ns)(hl:ns.length<=sizeLine)(hr:Room k callerA)(F:∀base:Heap,K.In base->base.Ns mainGlobals mg->(∀t∈cs,W.CodeHd base t.1 t.2/\base.BuiltinsAt mg t.2)->GE Pr w K mg base CX k fa fd [x] sp)(ac:∀(s:SS)(u:Aa),BindsTo s fd ⟨[u],[]⟩ [(x,u)])(as:∀H:Hp,Zdp (cs.map (·.2)) H->(∀t∈cs,H t.2=some (.tbl #[]))->SqL K H a (ns.map V.int)->sp [.ref a] H (λv _=>v=.bl true) λ_ _ _=>False)(au:∀H e s',CX [] H j (λ_ _ _=>False) e s'->False) :
  codeAny (model Pr w) callerA (.call (.ref fa) ⟨[.ref a],[]⟩) (λr s'=>r=.ok (.ret (.bool true))/\OldK j.heap s'.heap/\s'.os=j.os/\AllBare s'.gens) j:=by
 have rv:=UM hi;have ag:=hi.length;have U:∀b,b∈cs.map (·.2)->∃t∈cs,t.2=b:=λb D=>by
  obtain ⟨t,L,e⟩:=Yal.mp D;exact ⟨t,L,e⟩
 have Y:∀b,b∈cs.map (·.2)->j.heap.get? b=some (W.tabObj #[]):=λb D=>by
  obtain ⟨t,L,rfl⟩:=U b D;exact hP t L
 have ah:a ∉ cs.map (·.2):=λz=>by have:=Y a z;rw [ha] at this;cases this
 have aa:∀H:Hp,Zdp (cs.map (·.2)) H->(∀t∈cs,H t.2=some (.tbl #[]))->SqL K H a (ns.map V.int)->HOk Pr w H j.heap->(∀b,H b≠none->b=a\/b∈cs.map (·.2))->(H a≠none->K.lookup a=none) ->
   codeAny (model Pr w) callerA (.call (.ref fa) ⟨[.ref a],[]⟩) (λr s'=>r=.ok (.ret (.bool true))/\OldK j.heap s'.heap/\s'.os=j.os/\AllBare s'.gens) j:=by
  intro H hO ai hS aj hA hK;have B:∀{b:AD}{o:Obj},j.heap.get? b=some o->H b=none->(Zw j.heap H).get? b=some o:=λe n=>ZbE e n;have ak:∀{b:AD}{o:Obj},j.heap.get? b=some o->o.cls≠.type "list" -> o.cls≠.none->H b=none:=λ{b o} e d1 d2=>by
   cases q:H b with
   | none=>rfl
   | some u=>
    rcases hA b (by rw [q];simp) with e' | e'
    ·rw [e',ha] at e;cases e;exact absurd rfl d1
    ·rw [Y b e'] at e;cases e;exact absurd rfl d2
  have av:∀{b:AD}{o:Obj}{es:Array DictEntry}{ep:Nat},j.heap.get? b=some o->o.data=.dict es ep->H b=none:=λ{b o es ep} e d=>by
   cases q:H b with
   | none=>rfl
   | some u=>
    rcases hA b (by rw [q];simp) with e' | e'
    ·rw [e',ha] at e;cases e;cases d
    ·rw [Y b e'] at e;cases e;cases d
  have Z:∀{b:AD}{m:Str->Option Aa},j.heap.Ns b m->(Zw j.heap H).Ns b m:=λ{b m} ⟨o,es,ep,e,d,r⟩=>⟨o,es,ep,B e (av e d),d,r⟩;have al:K.In (Zw j.heap H):=λb o e=>B (KX b o e) (by
   cases q:H b with
   | none=>rfl
   | some u=>
    rcases hA b (by rw [q];simp) with e' | e'
    ·subst e';rw [hK (by rw [q];simp)] at e;cases e
    ·obtain ⟨t,L,rfl⟩:=U b e';rw [ar t L] at e;cases e)
  have hM:Mod K mg (Zw j.heap H):=⟨al,Z ae,⟨mb,Z D,aq⟩,let ⟨mc,h1,h2⟩:=af;⟨mc,Z h1,h2⟩⟩;have e0:Env0 Pr w K mg (Zw j.heap H) callerA [] j H:=⟨rfl,hM,λb o e=>Zdy e,Nat.le_of_eq (Zx _ _),trivial,λb D=>absurd (show b∈([]:List AD) from D) (by simp),aj,.of_eq hg⟩;have Cb:∀t∈cs,W.CodeHd (Zw j.heap H) t.1 t.2:=λt L=>by
   obtain ⟨o,ws,am,tf,ad,tg,aw,an,tt,e1,r1,r2⟩:=C t L;exact ⟨o,ws,am,tf,ad,tg,aw,an,tt,B e1 (ak e1 (by rw [r1];decide) (by rw [r1];nofun)),r1,r2⟩
  have Bb:∀t∈cs,(Zw j.heap H).BuiltinsAt mg t.2:=λt L=>by
   obtain ⟨bm,o,h1,h2,h3,h4,h5,h6,h7⟩:=hB t L;exact ⟨bm,o,h1,h2,h3,h4,B h5 (ak h5 (by rw [h6];decide) (by rw [h6];nofun)),h6,h7⟩
  refine codeAny_mono ((F _ al (Z ae) λt L=>⟨Cb t L,Bb t L⟩).run callerA [] j H ⟨[.ref a],[]⟩ [.ref a] [.ref a] _ _ hr e0 (ac j (.ref a)) (.cons rfl .nil) (as H hO ai hS)) λr s' h=>?_;cases r with
  | error e=>exact (au H e s' h).elim
  | ok fl=>
   cases fl with
   | next=>exact False.elim h
   | brk=>exact False.elim h
   | cont=>exact False.elim h
   | ret u=>
    obtain ⟨v,H',os,ao,un,ab,r',q⟩:=h;have q':v=.bl true:=q;subst q';obtain rfl:u=Value.bool true:=r';have ap:∀t∈cs,∃more:Array Aa,s'.heap.get? t.2=some { cls:=.none,data:=.fields (#[]++more) }:=λt L=>by
     obtain ⟨more,eP⟩:=un.tbls t.2 _ (ai t L);exact ⟨more,ab t.2 _ eP⟩
    have kp:∀b o,b ∉ cs.map (·.2)->j.heap.get? b=some o->s'.heap.get? b=some o:=λb o O e=>by
     cases q:H b with
     | none=>exact un.keep b o e q (by intro z;exact absurd (show b∈([]:List AD) from z) (by simp)) (by simp)
     | some u=>
      rcases hO b O with z | ⟨ob,xs,z⟩
      ·rw [q] at z;cases z
      ·have z2:=un.frzs b ob _ z;obtain ⟨e1,_⟩:=aj b _ z;obtain ⟨e2,_⟩:=ab b _ z2;rw [e] at e1;cases e1;exact e2
    refine ⟨rfl,⟨λb o e=>?_,λb o e=>?_⟩,os,ao⟩
    ·by_cases O:b∈cs.map (·.2)
     ·obtain ⟨t,L,rfl⟩:=U b O;obtain ⟨more,e2⟩:=ap t L;rw [hP t L] at e;cases e;exact .inr (.inl ⟨((C t L).tab (hP t L)).isCodeTable,rfl,#[],more,rfl,e2⟩)
     ·exact .inl (kp b o O e)
    ·by_cases O:b∈cs.map (·.2)
     ·obtain ⟨t,L,rfl⟩:=U b O;obtain ⟨more,e2⟩:=ap t L;exact ⟨_,e2⟩
     ·exact ⟨o,kp b o O e⟩
 cases hk:K.lookup a with
 | some o=>
  have e:=KX a o hk;rw [ha] at e;cases e;refine aa (λb=>if b∈cs.map (·.2) then some (.tbl #[]) else none) (λb D=>.inl (if_neg D)) (λt L=>if_pos (Yal.mpr ⟨t,L,rfl⟩)) (.inr ⟨_,vs.toArray,_,hk,rfl,rfl,rfl,by rw [Yau,ag];exact hl,by simpa using rv⟩) (λb u z=>?_) (λb z=>?_) λz=>absurd (if_neg ah) z
  ·by_cases D:b∈cs.map (·.2)
   ·have z':=(if_pos D).symm.trans z;cases z';exact Y b D
   ·have z':=(if_neg D).symm.trans z;cases z'
  ·by_cases D:b∈cs.map (·.2)
   ·exact .inr D
   ·exact absurd (if_neg D) z
 | none=>
  refine aa (λb=>if b∈cs.map (·.2) then some (.tbl #[]) else if b=a then some (.frz { cls:=.type "list", data:=.seq vs.toArray } (.lst (ns.map V.int))) else none) (λb D=>?_) (λt L=>if_pos (Yal.mpr ⟨t,L,rfl⟩)) (.inl (.inr ⟨{ cls:=.type "list", data:=.seq vs.toArray },(if_neg ah).trans (if_pos rfl)⟩)) (λb u z=>?_) (λb z=>?_) λ_=>hk
  ·by_cases N:b=a
   ·exact .inr ⟨_,_,(if_neg D).trans (if_pos N)⟩
   ·exact .inl ((if_neg D).trans (if_neg N))
  ·by_cases D:b∈cs.map (·.2)
   ·have z':=(if_pos D).symm.trans z;cases z';exact Y b D
   ·by_cases N:b=a
    ·have z':=((if_neg D).trans (if_pos N)).symm.trans z;cases z';subst N;exact ⟨ha,by rw [Yac];exact hl,vs,_,rv,ha⟩
    ·have z':=((if_neg D).trans (if_neg N)).symm.trans z;cases z'
  ·by_cases D:b∈cs.map (·.2)
   ·exact .inr D
   ·by_cases N:b=a
    ·exact .inl N
    ·exact absurd ((if_neg D).trans (if_neg N)) z
theorem walk_of2 {l:W.OpenLaw}{K:Params->FG}{CX:Ab->CXT}{sp:Ab->AD->AD->Sp}(hn:l.most=some n)(ab:n<=sizeLine)(ac:d.params.defaults=[])(hr:Room k callerA)(hY:∀(w:Ab)(h:Heap),YP w h->(K w.params).In h)(N:(recsOf q).find? (λe=>e.name == tn)=some dd)(B:(recsOf q).find? (λe=>e.name == tm)=some de)(F:∀(w:Ab)(mg:Str->Option Aa)(fa:AD)(h:Heap),(K w.params).In h->h.Ns mainGlobals mg->mg d.name=some (.ref fa) ->
   ∃(fd:FuncData)(c P c2 P2:AD),W.tabIn (K w.params) tn=some (c,P)/\(K w.params).lookup P=none/\W.tabIn (K w.params) tm=some (c2,P2)/\(K w.params).lookup P2=none/\P≠P2/\(∀(s:SS)(u:Aa),BindsTo s fd ⟨[u],[]⟩ [(x,u)]) /\
    ∀base:Heap,(K w.params).In base->base.Ns mainGlobals mg->W.CodeHd base c P->base.BuiltinsAt mg P->W.CodeHd base c2 P2->base.BuiltinsAt mg P2->GE l.prog w (K w.params) mg base (CX w) k fa fd [x] (sp w P P2))(ad:∀(w:Ab)(P P2:AD)(H:Hp)(a:AD)(ns:LI),ns.length<=n->H P=some (.tbl #[])->H P2=some (.tbl #[])->P≠P2->SqL (K w.params) H a (ns.map V.int)->sp w P P2 [.ref a] H (λv _=>v=.bl true) λ_ _ _=>False)(ae:∀(w:Ab)(H:Hp)(s:SS)(e:Aa)(s':SS),CX w [] H s (λ_ _ _=>False) e s'->False) :
  W.WalkO q j XP YP l.row.toRowW d [] (λf vs=>PySem.call f vs):=by
 refine Att.attach_call hn ac λw s₀ s₁ mg mb fa o pm cd aj a vs ns G Y ho hd ak af O D qV hg=>?_;have KX:=hY w _ Y;obtain ⟨fd,c,P,c2,P2,U,ag,L,Z,ah,hb,hF⟩:=F w mg fa _ KX G.T.g af;obtain ⟨C,hP⟩:=W.tab_of G.T KX N U;obtain ⟨C2,aa⟩:=W.tab_of G.T KX B L;have hB:∀P,s₁.heap.get? P=some (W.tabObj #[])->s₁.heap.BuiltinsAt mg P:=λP hP=>by
  obtain ⟨bm,ob,b1,b2,b3,b4,b5,b6⟩:=G.T.bmain;refine ⟨bm,ob,b1,b2,λz=>?_,λz=>?_,b3,b4,b5,b6⟩
  ·obtain ⟨o',es,ep,e,ai,_⟩:=G.T.g;rw [z,e] at b3;cases b3;rw [ai] at b6;cases b6
  ·rw [z,hP] at b3;cases b3;cases b4
 have two:∀{φ:AD×AD->Prop},φ (c,P)->φ (c2,P2)->∀t∈[(c,P),(c2,P2)],φ t:=λh1 h2 t ht=>by
  rcases Yam.mp ht with rfl | ht
  ·exact h1
  ·rw [Yai.mp ht];exact h2
 exact Zp (cs:=[(c,P),(c2,P2)]) KX G.T.g G.T.b G.T.builtins G.T.nolimit hg (two C C2) (two hP aa) (two ag Z) (two (hB P hP) (hB P2 aa)) O D (Ybq qV ab) hr (λbase h1 h2 h3=>hF base h1 h2 (h3 (c,P) (by simp)).1 (h3 (c,P) (by simp)).2 (h3 (c2,P2) (by simp)).1 (h3 (c2,P2) (by simp)).2) hb (λH hO hT hS=>ad w P P2 H a ns qV (hT (c,P) (by simp)) (hT (c2,P2) (by simp)) ah hS) λH e s'=>ae w H s₁ e s'
section
variable {X:Cx}
theorem Zdq:OpR X (compareOp .Is) (λx y H Q=>∃a b,x=.bl a/\y=.bl b/\Q (.bl (a == b)) H):=by
 intro qQ s σ H x y v u Q I j B h;obtain ⟨a,b,rfl,rfl,q⟩:=h;cases j;cases B;exact is_bool (Gv I q rfl)
end
section
variable {prog:PP}{w:Ab}{A:Around}{E:Aa->SS->Prop}{s:SS}
theorem Zen (a v:Aa):checkTypeCall "enumerate" ⟨[a],[(Str.ofString "start", v)]⟩=pure ():=by kernel_rfl
theorem ZfM (a v:Aa):checkBuiltinCall "enumerate.__new__" ⟨[.type "enumerate", a],[(Str.ofString "start", v)]⟩=pure ():=by kernel_rfl
theorem Zq (N:s.heap.IsList l items)(h:∀h',IsEnum h' (s.heap.objs.size+1) s.heap.objs.size 2 .none->h'.IsListIter s.heap.objs.size l 0->h'.objs.size=s.heap.objs.size+2 ->
   (∀b o,s.heap.get? b=some o->h'.get? b=some o)->Q (.ref (s.heap.objs.size+1)) { s with heap:=h' }) :
  wpAny (model prog w) A (call (.type "enumerate") [.ref l] [(Str.ofString "start", .int 2 t)]) Q E s:=by
 have T:=F.called_enumerate;obtain ⟨c,tl,O⟩:=T.mro;have q:=T.made;have U:=T.sub;have h1:=T.notType;have h2:=T.canCreate;have e1:=Zen (.ref l) (.int 2 t);have e2:=ZfM (.ref l) (.int 2 t);refine wpAny_call (codeAny_of_tree (Yab ⟨Code.quiet_builtin _ (by decide +kernel),Ycz F.entry_type_call ?_⟩))
 wp_walk
 obtain ⟨⟨c0,aa,dt,sl⟩,Y,B,n,D⟩:=id N
 replace B:c0=.type "list" := B
 replace D:dt=.seq items n:=D
 subst B D;obtain ⟨j,g,d,tk,os⟩:=s;refine codeAny_call_builtin T.plain F.entry_enumerate_new (wpAny_of_eq e2 ?_);have ab:=sub_enumerate;have ac:=T.init.lookup;have L:∀obj:Aa,argsOk "object.__init__" ⟨[obj,.ref l],[(Str.ofString "start", .int 2 t)]⟩:=λobj=>by unfold argsOk;kernel_rfl
 have fin:Q (.ref (j.push { cls:=.type "list_iterator", data:=.fields #[.ref l,.int 0 0] }).objs.size) ⟨(j.push { cls:=.type "list_iterator", data:=.fields #[.ref l,.int 0 0] }).push { cls:=.type "enumerate", data:=.fields #[.none,.bool false,.ref j.objs.size,rawInt 2,.none,.none] },g,d,tk,os⟩:=by
  have Z:=Ybn j { cls:=.type "list_iterator", data:=.fields #[.ref l,.int 0 0] };have he:=Yaw (j.push { cls:=.type "list_iterator", data:=.fields #[.ref l,.int 0 0] }) (o:={ cls:=.type "enumerate", data:=.fields #[.none,.bool false,.ref j.objs.size,rawInt 2,.none,.none] }) rfl;rw [Z] at he ⊢;exact h _ he ⟨_,Yae _ (Yaw _ rfl),rfl,rfl⟩ (by rw [Ybn,Z]) λb o x=>Yae _ (Yae _ x)
 wp_walk using AutoSeq1.wpAny_loadPart' Y
 refine wpAny_stack_any λst=>Yab ?_;split;rename_i cc _ _ _ _ _;cases (cc == Value.type "enumerate")
 all_goals
  wp_walk using AutoSeq1.wpAny_loadPart' Y,wpAny_pyIter_list N
  refine wpAny_of_eq (T.init.bind _) ?_
  wp_walk
  refine codeAny_call_builtin T.init.plain F.entry_object_init (T.init.check _ _ _ _ _ _ _ _ ⟨_,Yaw _ rfl,rfl⟩ (L _) ?_)
  wp_walk
  exact fin
end
section
variable {prog:PP}{w:Ab}{A:Around}
theorem VE {it:AD}{fp:List AD}{n:Nat}{P:Nat->Aa->Prop}{St:Nat->Heap->Prop}(D:Draws prog w A it fp n P St)(k:Nat):Draws prog w A it fp (n+k) (λi x=>k<=i/\P (i-k) x) (λi h=>k<=i/\St (i-k) h) where
 live:=λi h st=>D.live _ _ st.2
 frame:=λi h h' st q=>⟨st.1,D.frame _ _ _ st.2 q⟩
 item:=λi s Q E hi st q=>D.item (i-k) s Q E (by have:=st.1;lia) st.2 λx h' tk p st' sb=>q x h' tk ⟨st.1,p⟩ ⟨by have:=st.1;lia,by have:=st.1;rw [show i+1-k=i-k+1 by lia];exact st'⟩ sb
 done:=λs Q E st q=>D.done s Q E (by have:=st.2;rwa [Nat.add_sub_cancel] at this) q
end
section
variable {X:Cx}
noncomputable def ZhN (K:FG)(a:AD):It:=
 ⟨λi H=>∃xs x,SqL K H a xs/\xs[i]?=some x,λi H x H'=>∃T y,x=.ref T/\H T=none/\H'=upd H T (.tup [.int ((i:Nat)+2),y])/\∀xs,SqL K H a xs->xs[i]?=some y,λi H=>∃xs,SqL K H a xs/\xs.length=i⟩
theorem Zr {P:PP}{w:Ab}{K:FG}{elts:List Expr}{k:Nat}{pos:Pos}(a e it:AD)(hne:e≠it)(hea:e≠a)(hia:a≠it) :
  ZbH P w K (.Tuple elts k pos) (ZhN K a) [e,it] e (λi h=>(∃old,IsEnum h e it (((i+2:Nat)):Int) old)/\h.IsListIter it a i) where
 mem:=by simp
 obj:=λi h st b hb=>by
  obtain ⟨⟨old,he⟩,⟨o,ei,c,d⟩⟩:=st;rcases Yam.mp hb with rfl | hb
  ·exact ⟨_,he,λv z=>by
    have z':Data.fields _=Data.cell v:=z;cases z'⟩
  ·have eb:b=it:=by simpa using hb
   subst eb;exact ⟨o,ei,λv z=>by rw [d] at z;cases z⟩
 keep:=λi h h' st q=>by
  obtain ⟨⟨old,he⟩,hi⟩:=st;exact ⟨⟨old,q e (by simp) _ he⟩,hi.at λo ho=>q it (by simp) o ho⟩
 item:=by
  intro X hP hw hK hc i qQ s σ H E I hf st hg;subst hP hw hK;obtain ⟨xs,x,hq,hx⟩:=hg;obtain ⟨its,rv,p,hz⟩:=I.list hq;obtain ⟨u,hu,ru⟩:=rv.get hx;obtain ⟨⟨old,he⟩,hit⟩:=st;have hh:X.A.in1.handled=none:=I.ok.hd hc;have hil:i<its.length:=(Yao.mp hu).1;refine wpAny_pyNext_enum_itemD (VE (Draws.list hh it a hia its.toArray) 2) he ⟨by lia,by rw [Nat.add_sub_cancel];exact ⟨hit,p.isList⟩⟩ (by rw [Yau];lia) hne (by simp [hne,hea]) λx' h1 tk px heo hit1 ht1 hz1 hk1=>?_;have ex:x'=u:=by
   have:=px.2;rw [Nat.add_sub_cancel] at this;have:its[i]?=some x':=by simpa using this
   rw [hu] at this;exact (Ybl this).symm
  subst ex;have hit1:h1.IsListIter it a (i+1):=by
   have:=hit1.2.1
   rwa [show i+2+1-2=i+1 by lia] at this
  refine ⟨_,rfl,wpAny_letOwnedTupleGo_enum (s:={ s with heap:=h1,toks:=tk+1 }) heo λh2 he2 hs2=>?_⟩;have hs2':Heap.SameBut e h1 h2:=hs2;have hfr:H s.heap.objs.size=none:=I.fresh;have hel:e<s.heap.objs.size:=Yah he;have kk:∀b o,b ∉ [e,it]->s.heap.get? b=some o->h2.get? b=some o:=λb o hb q=>by
   have n1:b≠e:=λz=>hb (by simp [z]);have n2:b≠it:=λz=>hb (by simp [z]);exact (hs2'.2 b n1).trans (hk1 b o n1 n2 q)
  have nT:∀b o,s.heap.get? b=some o->b≠s.heap.objs.size:=λb o q=>Yar (Yah q);have trk:∀c u,H c=some u->c ∉ [e,it]:=λc u q z=>by
   rw [(hf c z).1] at q;cases q
  refine ⟨.ref s.heap.objs.size,upd H s.heap.objs.size (.tup [.int ((i:Nat)+2),x]),I.call' (ch:=[e,it]) rfl ⟨λb o q _ _ hb=>kk b o hb q,λb o q _ _ hb=>⟨o.slots,kk b o hb q⟩,λb o q n _=>by rw [Gj (nT b o q)];exact n,
   λb o q hb=>⟨o,kk b o hb q⟩,λb ys q=>by rw [Gj (Gg q hfr)];exact q,λb o u q=>by rw [Gj (Gg q hfr)];exact q,λb ps q=>⟨#[],by rw [Gj (Gg q hfr),q];simp⟩⟩ (λb v q=>?_) I.bare (λb hb=>?_),
   rfl,⟨_,x,rfl,hfr,rfl,λys hy=>by rw [I.list_inj hy hq];exact hx⟩,⟨⟨_,by rw [show ((i+1+2:Nat):Int)=((i+2:Nat):Int)+1 by lia];exact he2⟩,hit1.extBut hs2'.extBut (Ne.symm hne)⟩,λb hb=>?_⟩
  ·by_cases hb:b=s.heap.objs.size
   ·subst hb;rw [Gc] at q;cases q;exact ⟨by have h16:=Yav.symm;rw [<-h16];show 2<=16777216;lia,[.int ((i:Nat)+2) tk,x'],.cons ⟨_,rfl⟩ (.cons ru .nil),⟨_,(hs2'.2 _ (Ydd hel)).trans ht1,rfl,_,rfl⟩⟩
   ·rw [Gj hb] at q;refine (I.hok b v q).stay (λc v' hc z=>kk c v' ?_ z) (λc z=>by rw [Gj (Gg z hfr)];exact z) λc ys z=>by rw [Gj (Gg z hfr)];exact z
    rcases hc with rfl | hc
    ·exact trk _ _ q
    ·exact trk _ _ hc
  ·obtain ⟨f0,f1,f2,f3,f4,f5⟩:=hf b hb;exact ⟨f3,f1,f4,f5⟩
  ·have ho:∃o,s.heap.get? b=some o:=by
    rcases Yam.mp hb with rfl | hb
    ·exact ⟨_,he⟩
    ·have eb:b=it:=by simpa using hb
     subst eb;obtain ⟨o,ei,_⟩:=hit;exact ⟨o,ei⟩
   obtain ⟨o,ho⟩:=ho;rw [Gj (nT b o ho)];exact (hf b hb).1
 done:=by
  intro X hP hw hK hc i qQ s σ H E I hf st hg;subst hP hw hK;obtain ⟨xs,hq,hx⟩:=hg;obtain ⟨its,rv,p,hz⟩:=I.list hq;obtain ⟨⟨old,he⟩,hit⟩:=st;obtain ⟨f0,f1,f2,f3,f4,f5⟩:=hf it (by simp);have hl:=rv.length;have hh:X.A.in1.handled=none:=I.ok.hd hc;exact wpAny_pyNext_enum_endD (VE (Draws.list hh it a hia its.toArray) 2) he ⟨by lia,by rw [Nat.add_sub_cancel,Yau];exact ⟨by rw [<-hl,hx];exact hit,p.isList⟩⟩ λh' eb=>⟨rfl,I.turned (t':=s.toks) (λb o hb q=>eb b o hb q) f0 f1 f3 f4 f5⟩
 self:=λ_ _ _ _ _ ⟨⟨_,he⟩,_⟩ h=>wpAny_pyIter_enum he h
noncomputable def ZfN (K:FG)(ta:TA):TI:=λσ H R=>ta σ H λvs H1=>∃a xs,vs=[.ref a]/\SqL K H1 a xs/\R (ZhN K a) H1
theorem ZfO (K:FG)(Z:Gl X "enumerate")(hm:X.mg "enumerate" = none)(ha:PA X [l] ta)(h:X.K=K:=by rfl)(N:backTo pos (starEach [l] X.env)=(false,eval l X.env)::backTo pos (starEach [] X.env):=by rfl) :
  PI X (.Tuple B k Y) (.Call (.Name "enumerate" p) [l] [⟨some "start", .Constant (.int 2) d2 p2,kp⟩] pos) (ZfN K ta):=by
 subst h;intro qQ s σ H R I h;refine Yej (Ol I Z hm boot_enumerate ?_);unfold callWith;refine Yaa (Ycb ?_);rw [N];refine PyProof.Rows.evalArgs_kwB rfl ?_;rw [<-N];refine thG (ha pos qQ s σ H _ I h) λus s1 vs H1 I1 r1 q1=>?_;obtain ⟨a,xs,e,hq,q⟩:=q1;subst e;obtain ⟨u,rfl,ru⟩:=r1.one;cases ru;refine PyProof.Rows.kws_cons (thG (Gd qQ s1 σ H1 (λv H'=>v=.int 2/\H'=H1) I1 ⟨rfl,rfl⟩) λw1 j z H2 L rz ⟨ez,eH⟩=>PyProof.Rows.kws_nil ?_);subst ez eH;obtain ⟨t2,rfl⟩:=rz;obtain ⟨its,rv,O,hz⟩:=L.list hq
 wp_walk
 have D:((backTo pos (starEach [l] X.env)).any λx=>x.fst)=false:=by rw [N];rfl
 rw [D];refine Yaa (Zq O.isList λh' U hI aa hk=>Yaa (Ycb (wpAny_point (Yab ?_))));refine wpAny_pyIter_enum U ?_;have ab:a<j.heap.objs.size:=by obtain ⟨o,e,_⟩:=O.isList;exact Yah e
 refine ⟨j.heap.objs.size+1,[j.heap.objs.size+1,j.heap.objs.size],_,_,H2,rfl,L.kept (t':=j.toks) hk,Zr a _ _ (Nat.succ_ne_self _) (by lia) (by lia),⟨⟨_,U⟩,hI⟩,λb D=>?_,q⟩;have e:j.heap.objs.size<=b:=by
  rcases Yam.mp D with rfl | D
  ·exact Ydt _
  ·have eb:b=j.heap.objs.size:=by simpa using D
   rw [eb];exact Yaf _
 exact L.fpOk e (L.hok.fresh e)
theorem Zs {K:FG}(j:Nat->List V->Hp->Prop)(h0:j 0 [] (upd H1 D (.lst [])))(q:∀i ys H,i<=xs.length->j i ys H->SqL K H a xs)(O:∀i x ys H T,xs[i]?=some x->j i ys H->H T=none->g (.ref T) σ0 (upd H T (.tup [.int ((i:Nat)+2),x])) λB U=>GQ σ0 B/\tc B U λb L=>if b=true then te B L λy N=>N D=some (.lst ys)/\ys.length<sizeLine/\j (i+1) (ys++[y]) (upd N D (.lst (ys++[y]))) else j (i+1) ys L)(Y:∀ys H,j xs.length ys H->R H):Vo (ZhN K a) D g tc te σ0 R H1:=OE j h0 (λi s H hi p=>⟨λz=>⟨xs,xs[i],q i s H hi p,by simp [z]⟩,λe=>⟨xs,q i s H hi p,by lia⟩⟩) (λi s H x H' z p y=>by obtain ⟨T,Z,rfl,hT,rfl,y⟩:=y;exact O i Z s H T (y xs (q i s _ (Ycw z) p)) p hT) Y
end
end L2
namespace L2
open PySem PySem.Spec PyProof.Rows Classical
noncomputable def JQ (a b:Int×LI):Bool:=decide (a.1<b.1) || (decide (a.1=b.1) && GL a.2 b.2)
theorem plt_iff :JQ a b=true↔a.1<b.1\/(a.1=b.1/\GL a.2 b.2=true):=by simp [JQ]
theorem Ox (a:Int×LI):JQ a a=false:=by simp [JQ,Jg]
theorem Za6 (h1:JQ a b=true)(h2:JQ b c=true):JQ a c=true:=by
 rcases plt_iff.mp h1 with h1 | ⟨h1,j⟩ <;> rcases plt_iff.mp h2 with h2 | ⟨h2,q⟩
 ·exact plt_iff.mpr (.inl (by lia))
 ·exact plt_iff.mpr (.inl (by lia))
 ·exact plt_iff.mpr (.inl (by lia))
 ·exact plt_iff.mpr (.inr ⟨by lia,Ow j q⟩)
theorem Xz (h1:JQ a b=false)(h2:JQ b a=false):a=b:=by
 have h1:(a.1<b.1\/(a.1=b.1/\GL a.2 b.2=true))->False:=λz=>by rw [plt_iff.mpr z] at h1;cases h1
 have h2:(b.1<a.1\/(b.1=a.1/\GL b.2 a.2=true))->False:=λz=>by rw [plt_iff.mpr z] at h2;cases h2
 have e:a.1=b.1:=by
  rcases Int.lt_trichotomy a.1 b.1 with h | h | h
  ·exact (h1 (.inl h)).elim
  ·exact h
  ·exact (h2 (.inl h)).elim
 refine Prod.ext e ?_;cases k1:GL a.2 b.2 with
 | true=>exact (h1 (.inr ⟨e,k1⟩)).elim
 | false=>
  cases k2:GL b.2 a.2 with
  | true=>exact (h2 (.inr ⟨e.symm,k2⟩)).elim
  | false=>exact Oh k1 k2
noncomputable def IsPL (h:Heap)(a:AD)(x:Int×LI):Prop:=∃(b:AD)(t:Tok)(its:Array Aa),h.IsTuple a #[.int x.1 t,.ref b]/\h.IsList b its/\IntsAre its.toList x.2
theorem IsPL.one (h1:IsPL h a x)(h2:IsPL h a y):x=y:=by
 obtain ⟨b,t,its,j,p2,q⟩:=h1;obtain ⟨c,u,B,D,L,N⟩:=h2;have e:=U0 j D;simp only [Array.mk.injEq,List.cons.injEq,Value.int.injEq,Value.ref.injEq,and_true] at e;obtain ⟨⟨O,_⟩,rfl⟩:=e;have:=VB p2 L;subst this;exact Prod.ext O (Wd q N)
noncomputable def Zeo (h:Heap)(v:Aa):Int×LI:=if q:∃x a,v=.ref a/\IsPL h a x then choose q else (0,[])
theorem Wo (B:IsPL h a x):Zeo h (.ref a)=x:=by
 have q:∃x j,Value.ref a=.ref j/\IsPL h j x:=⟨x,a,rfl,B⟩;unfold Zeo;rw [dif_pos q];obtain ⟨j,e,h1⟩:=choose_spec q;cases e;exact h1.one B
theorem ZhO (h:Heap):WO (λx y=>JQ (Zeo h x.1) (Zeo h y.1)):=Yg (κ:=λx:Keyed=>Zeo h x.1) (lt:=JQ) Ox Za6 Xz
theorem IsPL.keep (k:∀c o,h.get? c=some o->h'.get? c=some o)(p:IsPL h a x):IsPL h' a x:=by
 obtain ⟨b,t,its,⟨o,e,r⟩,⟨o',j,r'⟩,q⟩:=p;exact ⟨b,t,its,⟨o,k _ _ e,r⟩,⟨o',k _ _ j,r'⟩,q⟩
section
variable {prog:PP}{w:Ab}{A:Around}{E:Aa->SS->Prop}{s:SS}
theorem ZhP (U:IsPL s.heap a x)(Y:IsPL s.heap c y)(Z:A.in1.units+64<cLine)(q:Q (JQ x y) s):wpAny (model prog w) A.in1 (keyLt' (tuples' true) (.ref a) (.ref c)) Q E s:=by
 obtain ⟨b1,t1,i1,⟨o1,g1,_,n1,d1⟩,D,O⟩:=U;obtain ⟨b2,t2,i2,⟨o2,g2,_,n2,d2⟩,N,p2⟩:=Y;refine W.kat_lt g1 d1 g2 d2 ?_;refine W.kat_cons (wpAny_eqBool_int (W.kat_go (λL=>W.kat_yes (W.kat_cons (W.keq_ints (A:=A) (vs:=i1.toList) (us:=i2.toList) D O N p2 Z prog w _ _ (W.kat_go (λj=>W.kat_yes (W.kat_nil ?_)) λj=>W.kat_no ?_)))) λL=>W.kat_no ?_))
 ·have B:x.1=y.1:=by simpa using L
  have e2:x.2=y.2:=Ybt j;have:JQ x y=false:=by rw [Prod.ext B e2];exact Ox y
  rw [this] at q;simpa using q
 ·have B:x.1=y.1:=by simpa using L
  have:JQ x y=GL x.2 y.2:=by simp [JQ,B]
  rw [this] at q;refine W.kat_one _ _ ?_;exact wpAny_richCompare_same_room (op:=.Lt) D.typeIs N.typeIs F.slot_list_lt (call_meets F.slot_list_lt D.typeIs F.entry_list_lt (F.args_list_lt_2 _ _) (Ye b1 b2 i1.toList i2.toList x.2 y.2 0 0 O p2) ⟨D,N,(λe=>nomatch e),q⟩) (by lia)
 ·have B:x.1≠y.1:=by simpa using L
  have:JQ x y=decide (x.1<y.1):=by simp [JQ,B]
  rw [this] at q;exact oneLt_int q
end
noncomputable abbrev PL:=AD×AD×(Int×LI)
section
variable {X:Cx}(K:FG)
noncomputable def Za7:List V->Hp->VK->Prop:=λxs H Q=>∃(p:AD)(zs:List PL),xs=[.ref p]/\SqL K H p (zs.map λz=>V.ref z.1)/\(∀z∈zs,SqT K H z.1 [.int z.2.2.1,.ref z.2.1]/\SqL K H z.2.1 (z.2.2.2.map V.int)) /\
 ∀(l:AD)(zs':List PL),H l=none->zs'.Perm zs->(zs'.map (·.2.2)).Pairwise (λa b=>JQ b a=false)->Q (.ref l) (upd H l (.lst (zs'.map λz=>V.ref z.1)))
theorem Za8:∀{zs:List PL}{its:LW},Vals (zs.map λz=>V.ref z.1) its->its=zs.map λz=>Value.ref z.1
 | [],_,h=>by cases h;rfl
 | z::zs,_,h=>by
  cases h with
  | cons r h=>
   cases r;rw [Za8 h]
   rfl
theorem Za9:∀(zs:List PL),Vals (zs.map λz=>V.ref z.1) (zs.map λz=>Value.ref z.1)
 | []=>.nil
 | z::zs=>.cons rfl (Za9 zs)
theorem Zep (hu:X.A.units+71<cLine)(h:X.K=K:=by rfl):JY X (.builtin "sorted") (Za7 K):=by
 subst h;intro qQ s σ H xs us Q I rv h;obtain ⟨p,zs,rfl,hq,hz,q⟩:=h;obtain ⟨u,rfl,ru⟩:=rv.one;cases ru;obtain ⟨its,r,pl,L⟩:=I.list hq;have hl:=r.length;rw [Yac] at hl L;have ei:=Za8 r;have key:∀z∈zs,IsPL s.heap z.1 z.2.2:=λz j=>by
  obtain ⟨iz,rz,pz,_⟩:=I.tuple (hz z j).1;obtain ⟨il,rl,aa,_⟩:=I.list (hz z j).2;obtain ⟨u,v,rfl,⟨t,rfl⟩,rv⟩:=rz.two;cases rv;exact ⟨z.2.1,t,il.toArray,pz,aa.isList,Oa rl⟩
 have N:∀v∈its,∃a x,v=.ref a/\IsPL s.heap a x:=λv Z=>by
  rw [ei] at Z;obtain ⟨z,j,rfl⟩:=Yal.mp Z;exact ⟨z.1,_,rfl,key z j⟩
 have O:∀(h':Heap),(∀c o,s.heap.get? c=some o->h'.get? c=some o)->∀vs:LW,(∀v∈vs,∃a x,v=.ref a/\IsPL s.heap a x)->∃fs:LW,W.KatTups h' vs fs/\fs.length=vs.length/\∀f∈fs,∃i t,f=.int i t:=by
  intro h' k vs
  induction vs with
  | nil=>intro _;exact ⟨[],.nil,rfl,λf U=>by cases U⟩
  | cons v vs ih=>
   intro h;obtain ⟨fs,h1,h2,h3⟩:=ih λx Y=>h x (Ybe _ Y);obtain ⟨a,x,rfl,px⟩:=h v (Ybg ..);obtain ⟨b,t,it,⟨o,e,c,n,d⟩,_⟩:=px.keep k;refine ⟨.int x.1 t::fs,.cons e c d rfl h1,by simp [h2],λf U=>?_⟩;rcases Yam.mp U with rfl | U
   ·exact ⟨_,t,rfl⟩
   ·exact h3 f U
 refine Vz (kd:=tuples' true) (good:=λx=>∃a y,x.1=.ref a/\IsPL s.heap a y) (ZhO s.heap) pl.isList (by lia) N (λh' k h2 E' R q=>?_) (λh' k=>ZaO λx y gx gy E' Q q=>?_) λout hp hr=>?_
 ·obtain ⟨fs,t1,t2,t3⟩:=O h' k its N;exact W.kat_kind (T:=.type "int") t1 (by lia) (λv Z=>by obtain ⟨i,t,rfl⟩:=t3 v Z;exact .now) rfl q
 ·obtain ⟨a,y1,e1,h1⟩:=gx;obtain ⟨c,y2,e2,h2⟩:=gy;simp only [e1,e2,Wo h1,Wo h2] at q ⊢;exact ZhP (A:=X.A.in1) (h1.keep k) (h2.keep k) (by rw [Ydk,Ydk];lia) q
 ·obtain ⟨o1,o2,o3⟩:=Wc hp;obtain ⟨e,he⟩:=sortedAll_at s.heap its (out.map (·.2));rw [ei] at o1;obtain ⟨D,p1,p2⟩:=JO o1;have ps:(D.map (·.2.2)).Pairwise (λa b=>JQ b a=false):=by
   have a1:=JG hr o3;have a2:(out.toList.map (·.2)).Pairwise (λu v=>JQ (Zeo s.heap v) (Zeo s.heap u)=false):=by
    rw [Ybs];refine a1.imp_of_mem λ{x y} Y hy B=>?_;rw [<-(o2 x Y).1,<-(o2 y hy).1];exact B
   rw [Array.toList_map] at p2;rw [<-p2,Ybs] at a2;rw [Ybs];refine a2.imp_of_mem λ{x y} Y hy B=>?_;rw [Wo (key x (p1.mem_iff.mp Y)),Wo (key y (p1.mem_iff.mp hy))] at B;exact B
  refine ⟨.ref _,_,I.laid (a:=s.heap.objs.size+1) (t':=s.toks) (o:=.lst (D.map λz=>V.ref z.1)) (λb o e=>sortedAll_old e) (Ydt _) ⟨by rw [Yac,p1.length_eq];exact L,(out.map (·.2)).toList,e,by rw [<-p2];exact Za9 D,he⟩,rfl,q _ _ (I.hok.fresh (Ydt _)) p1 ps⟩
end
end L2
namespace L2
open PySem PySem.Spec PyProof.Rows
section
variable {X:Cx}{a b e:Expr}{ta tb te:TE}{pos p:Pos}
theorem gIx (h:IxR X r)(ha:PE X a ta)(j:PE X b tb)(q:ZX b:=by exact λ_ _=>rfl):PE X (.Subscript a b pos) (tOp r ta tb):=Zht h ha j q
theorem gDg (j:X.A.units+1<cLine)(ha:PE X a ta)(q:PE X b tb)(B:Zft b:=by exact λ_ _=>rfl):PE X (.Subscript a b pos) (ZdW ta tb):=ZdY j ha q B
theorem gB1 {id:String}(q:JY X (.builtin id) r)(B:X.mg x=none)(D:bootBuiltins x=some (.builtin id))(L:PE X e te)(N:Gl X x:=by rfl)(h1:x ≠ "__name__" := by decide)(h2:(x == ("__debug__" : Str))=false:=by decide)(j:starEach [e] X.env=(false,eval e X.env)::starEach [] X.env:=by rfl)(O:(backTo pos (starEach [] X.env)).any (·.1)=false:=by rfl):PE X (.Call (.Name x p) [e] [] pos) (tCB r (UJ te ZP)):=G7 q N B D (Ga L Ge j) h1 h2 j O
theorem gT1 (q:JY X (.type T) r)(B:X.mg x=none)(D:bootBuiltins x=some (.type T))(L:PE X e te)(N:Gl X x:=by rfl)(h1:x ≠ "__name__" := by decide)(h2:(x == ("__debug__" : Str))=false:=by decide)(j:starEach [e] X.env=(false,eval e X.env)::starEach [] X.env:=by rfl)(O:(backTo pos (starEach [] X.env)).any (·.1)=false:=by rfl):PE X (.Call (.Name x p) [e] [] pos) (tCB r (UJ te ZP)):=ZT q N B D (Ga L Ge j) h1 h2 j O
theorem gCm (h:OpR X (compareOp op) r)(ha:PE X a ta)(j:PE X b tb)(q:behindInMarks op b=false:=by exact Zc4 _):PT X (.Compare a [op] [b] pos) (Ze9 (tOp r ta tb)):=ZK h ha j q
theorem gCe (h:OpR X (compareOp op) r)(ha:PE X a ta)(j:PE X b tb)(q:behindInMarks op b=false:=by exact Zc4 _):PE X (.Compare a [op] [b] pos) (tOp r ta tb):=ZdF h ha j q
theorem gSt (i:Nat)(j:X.N.Nodup)(q:PE X e te)(hi:X.N[i]?=some x:=by rfl)(B:Loc X.env.scope x:=by first | exact .inl rfl | exact .inr rfl)(D:swapsWith e (some (.Name x pos')) pos.line X.env=pure false:=by rfl)(L:X.fn x=true\/X.env.scope.names.lookup x=some .local:=by first | exact .inl rfl | exact .inr rfl):PS X (.Assign [.Name x pos'] e pos) (ZgU te (Gq i)):=Zc2 j hi B q D L
theorem gNm (i:Nat)(j:X.N.Nodup)(hi:X.N[i]?=some x:=by rfl)(q:Loc X.env.scope x:=by first | exact .inl rfl | exact .inr rfl)(B:X.fn x=true\/X.env.scope.names.lookup x=some .local:=by first | exact .inl rfl | exact .inr rfl):PG X (.Name x pos) (Gq i):=ZdA j hi q B
theorem gCa (G:GE X.prog X.w X.K X.mg X.base CX k f fd ps sp)(j:X.mg x=some (.ref f))(q:W.keepIn X.K (.ref f)=true)(B:Binds X.K fd ps [])(D:Oo CX X E)(ha:PA X (e::es) t)(L:Room k X.A:=by exact Room.mono (by assumption) (by decide))(N:Gl X x:=by rfl)(h1:(x == ("__debug__" : Str))=false:=by decide)(h2:starEach (e::es) X.env=(false,eval e X.env)::starEach es X.env:=by rfl)(O:(backTo pos (starEach es X.env)).any (·.1)=false:=by rfl):PE X (.Call (.Name x p) (e::es) [] pos) (ZdJ sp [] E t):=VL G L N j q B .nil D ha h1 h2 O
theorem gSc (fr:List (Str×Nat))(h1:closureFor scope X.env=pure cl:=by rfl)(h2:(relabel scope X.env).names=L:=by rfl)(j:∀y∈scope.names,y.2≠.cell:=by decide +kernel)(q:scope.kind=.function:=by rfl)(B:∀y∈scope.names,y.2=.local->scope.names.lookup y.1=some .local:=by decide +kernel)(D:AllP (λp=>X.env.cells.lookup p.1=some p.2) cl:=by repeat' first | exact trivial | refine ⟨rfl,?_⟩)(O:AllP (λp=>p.2=.cell\/p.2=.free->∃c,cl.lookup p.1=some c) L:=by repeat' first | exact trivial | refine ⟨λ_=>⟨_,rfl⟩,?_⟩ | refine ⟨λh=>ZhB h,?_⟩)(U:AllP (λp=>X.N[p.2]?=some p.1/\(X.env.kindOf p.1=some .cell\/X.env.kindOf p.1=some .free)/\(L.lookup p.1=some .cell\/L.lookup p.1=some .free)) fr:=by repeat' first | exact trivial | refine ⟨⟨rfl,.inl rfl,.inl rfl⟩,?_⟩):Jm X scope cl own fr:=Vc L h1 h2 j q B D O U
theorem gSp (h1:∀y∈scope.names,y.2≠.free:=by decide +kernel)(h2:∀y∈scope.names,y.2≠.cell:=by decide +kernel)(j:scope.kind=.function:=by rfl)(q:∀y∈scope.names,y.2=.local->scope.names.lookup y.1=some .local:=by decide +kernel):Jm X scope [] own []:=UN h1 h2 j q
end
theorem xe {α:Type}{q r:α->Prop}{a:α}(h1:q a)(h2:r a):∃x,q x/\r x:=⟨a,h1,h2⟩
theorem xd {α β:Type}{q s r:α->β->Prop}{a:α}{b:β}(h1:q a b)(h2:s a b)(j:r a b):∃x y,q x y/\s x y/\r x y:=⟨a,b,h1,h2,j⟩
structure Ln (it l:AD)(xs:Array Aa)(On:Nat->Heap->Prop):Prop where
 item:∀{prog:PP}{w:Ab}{A:Around}{E:Aa->SS->Prop}{s:SS}{k:Nat}{x:Aa}{Q:Aa->SS->Prop},On k s.heap->xs[k]?=some x->(∀h',On (k+1) h'->Heap.SameBut it s.heap h'->Q x { s with heap:=h' })->wpAny (model prog w) A (Builtin.SmallTypes.nextOf (.ref it)) Q E s
 stop:∀{prog:PP}{w:Ab}{A:Around}{E:Aa->SS->Prop}{s:SS}{k:Nat}{Q:Aa->SS->Prop},A.handled=none->On k s.heap->xs[k]?=none->(∀h' e,Heap.ExtBut it s.heap h'->(∃o,h'.get? e=some o/\o.cls=.type "StopIteration")->E (.ref e) { s with heap:=h' })->wpAny (model prog w) A (Builtin.SmallTypes.nextOf (.ref it)) Q E s
 keep:∀k h h',On k h->(∀c,c=it\/c=l->∀o,h.get? c=some o->h'.get? c=some o)->On k h'
 obj:∀k h,On k h->∃o,h.get? it=some o/\∀v,o.data≠.cell v
theorem Zeq (it l:AD)(xs:Array Aa)(hne:l≠it):Ln it l xs (λk h=>h.IsListIter it l k/\h.IsList l xs) where
 item:=λ⟨h1,h2⟩ hx hQ=>wpAny_nextOf_list_item h1 h2 hx λh' a b=>hQ h' ⟨a,h2.extBut b.extBut hne⟩ b
 stop:=λhh ⟨h1,h2⟩ hx hE=>wpAny_nextOf_list_end hh h1 h2 hx hE
 keep:=λk h h' ⟨h1,h2⟩ kp=>⟨h1.at (kp _ (.inl rfl)),h2.at (kp _ (.inr rfl))⟩
 obj:=λk h ⟨⟨o,e,c,d⟩,_⟩=>⟨o,e,λv z=>by rw [d] at z;cases z⟩
theorem ZfP (it l:AD)(xs:Array Aa)(hne:l≠it):Ln it l xs (λk h=>h.IsTupleIter it l k/\h.IsTuple l xs) where
 item:=by
  intro prog w A E s k x Q ⟨hit,ht⟩ hx hQ;obtain ⟨o,ho,hc,hd⟩:=id hit;obtain ⟨ol,hol,cl,nl,hdl⟩:=id ht;have ty:s.TypeIs (.ref it) "tuple_iterator" := ⟨o,ho,hc⟩;refine Yaa (Ydx ty F.slot_tuple_iterator_next (Ycc F.slot_tuple_iterator_next ty F.entry_tuple_iterator_next ?_ (F.args_tuple_iterator_next_1 _)))
  wp_walk using wpAny_field ho hd rfl
  rw [hdl]
  wp_walk
  rw [show ((k:Int).toNat)=k from rfl,hx]
  wp_walk using wpAny_setField ho hd (by simp)
  refine ⟨x,rfl,?_⟩
  wp_walk
  refine hQ _ ⟨⟨_,Ydq _ ho (Obj.isFreed_of_fields (Obj.data_mapFields hd _)),(Obj.cls_mapFields ..).trans hc,by rw [Obj.data_mapFields hd];simp [rawInt]⟩,ht.extBut (Ycr ..).extBut hne⟩ (Ycr ..)
 stop:=by
  intro prog w A E s k Q hh ⟨hit,ht⟩ hx hE;obtain ⟨o,ho,hc,hd⟩:=id hit;obtain ⟨ol,hol,cl,nl,hdl⟩:=id ht;have ty:s.TypeIs (.ref it) "tuple_iterator" := ⟨o,ho,hc⟩;refine Yaa (Ydx ty F.slot_tuple_iterator_next (Ycc F.slot_tuple_iterator_next ty F.entry_tuple_iterator_next ?_ (F.args_tuple_iterator_next_1 _)))
  wp_walk using wpAny_field ho hd rfl
  rw [hdl]
  wp_walk
  rw [show ((k:Int).toNat)=k from rfl,hx]
  wp_walk using wpAny_setField ho hd (by simp)
  wp_walk using wpAny_raiseNew_none (A:=A.in1) hh
  exact hE _ _ (λc o n e=>Yae _ (Yae _ ((Ycr ..).extBut c o n e))) ⟨_,Yaw _ rfl,rfl⟩
 keep:=λk h h' ⟨⟨o,e,r⟩,⟨o2,e2,r2⟩⟩ kp=>⟨⟨o,kp _ (.inl rfl) _ e,r⟩,⟨o2,kp _ (.inr rfl) _ e2,r2⟩⟩
 obj:=λk h ⟨⟨o,e,c,d⟩,_⟩=>⟨o,e,λv z=>by rw [d] at z;cases z⟩
structure ZA (z TI TO i1 i2 l1 l2:AD):Prop where
 z1:z≠TI/\z≠TO/\z≠i1/\z≠i2/\z≠l1/\z≠l2
 t1:TO≠TI/\TO≠i1/\TO≠i2/\TO≠l1/\TO≠l2
 i1:i1≠TI/\i1≠i2/\i1≠l1/\i1≠l2
 i2:i2≠TI/\i2≠l1/\i2≠l2
section
variable {prog:PP}{w:Ab}{A:Around}{E:Aa->SS->Prop}{s:SS}
theorem Zer {z TI TO i1 i2 l1 l2:AD}{Q:Aa->SS->Prop}(D:ZA z TI TO i1 i2 l1 l2)(L1:Ln i1 l1 xs O1)(L2:Ln i2 l2 ys O2)(hz:IsZip s.heap z TI TO .none)(aa:IsPair s.heap TI (.ref i1) (.ref i2))(ab:IsPair s.heap TO a b)(o1:O1 k s.heap)(o2:O2 k s.heap)(hx:xs[k]?=some x)(hy:ys[k]?=some y)(hQ:∀h',IsZip h' z TI TO (rawInt s.heap.objs.size)->IsPair h' TO x y->O1 (k+1) h'->O2 (k+1) h'->IsPair h' s.heap.objs.size x y->h'.objs.size=s.heap.objs.size+1->(∀c o,c ∉ [z,TO,i1,i2]->s.heap.get? c=some o->h'.get? c=some o)->Q (.ref s.heap.objs.size) { s with heap:=h' }) :
  wpAny (model prog w) A (Builtin.«zip.__next__» ⟨[.ref z],[]⟩) (λfin s'=>∃v,fin=.done (.ret v)/\Q v s') E s:=by
 have ae:(#[Value.ref i1,Value.ref i2]).isEmpty=false:=rfl
 wp_walk using wpAny_field hz rfl rfl,wpAny_seqItems aa rfl,wpAny_setField_rec hz
 case hk=>exact (by decide:(0:Nat)<5)
 intro h1 z1 s1;simp only [List.zipIdx_cons,List.zipIdx_nil,List.forIn_cons,List.forIn_nil];obtain ⟨L,N,d3,d4⟩:=D;refine Yaa (Yaa (Yaa (wpAny_onRaise (?_:wpAny _ _ (Builtin.SmallTypes.nextOf (.ref i1) >>= λv=>pure (some v)) _ _ _))));refine Yaa (L1.item (L1.keep _ _ _ o1 λc B o e=>s1.extBut c o (by rcases B with rfl | rfl;exact L.2.2.1.symm;exact L.2.2.2.2.1.symm) e) hx λh2 ac s2=>?_);have t2:IsPair h2 TO a b:=s2.extBut _ _ N.2.1 (s1.extBut _ _ L.2.1.symm ab);refine Yab (Yaa (wpAny_seqItems t2 rfl (Yaa (wpAny_updateSeq t2 rfl (Yaa (wpAny_letGo (Yab (?_))))))));have Z:Heap.SameBut TO h2 (h2.update TO (Obj.mapSeq λv=>v.setIfInBounds 0 x)):=Ycr ..;have t3:IsPair (h2.update TO (Obj.mapSeq λv=>v.setIfInBounds 0 x)) TO x b:=(Ydq _ t2 rfl).trans (by simp [Obj.mapSeq]);show wpAny _ _ (_ >>= _) _ _ { s with heap:=h2.update TO (Obj.mapSeq λv=>v.setIfInBounds 0 x) };generalize h2.update TO (Obj.mapSeq λv=>v.setIfInBounds 0 x)=h3 at Z t3 ⊢;have S3:∀c o,c≠z->c≠TO->c≠i1->s.heap.get? c=some o->h3.get? c=some o:=λc o n1 n2 n3 e=>Z.extBut c o n2 (s2.extBut c o n3 (s1.extBut c o n1 e));refine Yaa (Yaa (wpAny_onRaise (?_:wpAny _ _ (Builtin.SmallTypes.nextOf (.ref i2) >>= λv=>pure (some v)) _ _ _)));refine Yaa (L2.item (L2.keep _ _ _ o2 λc B o e=>S3 c o (by rcases B with rfl | rfl;exact L.2.2.2.1.symm;exact L.2.2.2.2.2.symm) (by rcases B with rfl | rfl;exact N.2.2.1.symm;exact N.2.2.2.2.symm) (by rcases B with rfl | rfl;exact d3.2.1.symm;exact d3.2.2.2.symm) e) hy λO ad s4=>?_);have t4:IsPair O TO x b:=s4.extBut _ _ N.2.2.1 t3;refine Yab (Yaa (wpAny_seqItems t4 rfl (Yaa (wpAny_updateSeq t4 rfl (Yaa (wpAny_letGo (Yab (?_))))))));have U:Heap.SameBut TO O (O.update TO (Obj.mapSeq λv=>v.setIfInBounds (0+1) y)):=Ycr ..;have t5:IsPair (O.update TO (Obj.mapSeq λv=>v.setIfInBounds (0+1) y)) TO x y:=(Ydq _ t4 rfl).trans (by simp [Obj.mapSeq]);show wpAny _ _ (pure _) _ _ { s with heap:=O.update TO (Obj.mapSeq λv=>v.setIfInBounds (0+1) y) };generalize O.update TO (Obj.mapSeq λv=>v.setIfInBounds (0+1) y)=j at U t5 ⊢;have S5:∀c o,c ∉ [z,TO,i1,i2]->s.heap.get? c=some o->j.get? c=some o:=λc o n e=>by
  simp only [Yam,List.not_mem_nil,or_false,not_or] at n;exact U.extBut c o n.2.1 (s4.extBut c o n.2.2.2 (S3 c o n.1 n.2.1 n.2.2.1 e))
 have z5:IsZip j z TI TO .ellipsis:=U.extBut _ _ L.2.1 (s4.extBut _ _ L.2.2.2.1 (Z.extBut _ _ L.2.1 (s2.extBut _ _ L.2.2.1 z1)));have l5:j.objs.size=s.heap.objs.size:=by rw [U.1,s4.1,Z.1,s2.1,s1.1]
 have p1:O1 (k+1) j:=L1.keep _ _ _ ac λc B o e=>U.extBut c o (by rcases B with rfl | rfl;exact N.2.1.symm;exact N.2.2.2.1.symm) (s4.extBut c o (by rcases B with rfl | rfl;exact d3.2.1;exact d4.2.1.symm) (Z.extBut c o (by rcases B with rfl | rfl;exact N.2.1.symm;exact N.2.2.2.1.symm) e));have p2:O2 (k+1) j:=L2.keep _ _ _ ad λc B o e=>U.extBut c o (by rcases B with rfl | rfl;exact N.2.2.1.symm;exact N.2.2.2.2.symm) e
 wp_walk using wpAny_seqItems t5 rfl
 refine ⟨_,rfl,?_⟩;have z6:IsZip (j.push { cls:=Value.type "tuple", data:=Data.seq #[x,y].toList.toArray }) z TI TO .ellipsis:=Yae _ z5;have t6:(j.push { cls:=Value.type "tuple", data:=Data.seq #[x,y].toList.toArray }).get? j.objs.size=some { cls:=Value.type "tuple", data:=Data.seq #[x,y].toList.toArray }:=Yaw _ rfl;have l6:(j.push { cls:=Value.type "tuple", data:=Data.seq #[x,y].toList.toArray }).objs.size=j.objs.size+1:=Ybn ..;have k6:∀c o,j.get? c=some o->(j.push { cls:=Value.type "tuple", data:=Data.seq #[x,y].toList.toArray }).get? c=some o:=λc o e=>Yae _ e;generalize j.push { cls:=Value.type "tuple", data:=Data.seq #[x,y].toList.toArray }=h6 at z6 t6 l6 k6 ⊢;have z7:=Ydq (Obj.mapFields λv=>v.setIfInBounds 0 (rawInt ↑j.objs.size)) z6 rfl;have z8:=Ydq (Obj.mapFields λv=>v.setIfInBounds 1 (Value.bool false)) z7 rfl;have Y:∀c o,c≠z->h6.get? c=some o->((h6.update z (Obj.mapFields λv=>v.setIfInBounds 0 (rawInt ↑j.objs.size))).update z (Obj.mapFields λv=>v.setIfInBounds 1 (Value.bool false))).get? c=some o:=λc o n e=>(Ycr ..).extBut c o n ((Ycr ..).extBut c o n e);have l8:((h6.update z (Obj.mapFields λv=>v.setIfInBounds 0 (rawInt ↑j.objs.size))).update z (Obj.mapFields λv=>v.setIfInBounds 1 (Value.bool false))).objs.size=h6.objs.size:=by rw [Heap.size_update,Heap.size_update]
 generalize (h6.update z (Obj.mapFields λv=>v.setIfInBounds 0 (rawInt ↑j.objs.size))).update z (Obj.mapFields λv=>v.setIfInBounds 1 (Value.bool false))=h8 at z8 Y l8 ⊢;have nz:j.objs.size≠z:=Ydd (Yah z5);rw [l5] at nz z8 t6 l6 ⊢;refine hQ h8 z8 (Y _ _ L.2.1.symm (k6 _ _ t5)) (L1.keep _ _ _ p1 λc B o e=>Y c o (by rcases B with rfl | rfl;exact L.2.2.1.symm;exact L.2.2.2.2.1.symm) (k6 _ _ e)) (L2.keep _ _ _ p2 λc B o e=>Y c o (by rcases B with rfl | rfl;exact L.2.2.2.1.symm;exact L.2.2.2.2.2.symm) (k6 _ _ e)) (Y _ _ nz t6) (l8.trans l6) λc o n e=>Y c o (λq=>n (by simp [q])) (k6 _ _ (S5 c o n e))
theorem ZfQ {z TI TO i1 i2 N l2:AD}(hh:A.handled=none)(D:ZA z TI TO i1 i2 N l2)(U:Ln i1 N xs O)(hz:IsZip s.heap z TI TO .none)(j:IsPair s.heap TI (.ref i1) (.ref i2))(aa:IsPair s.heap TO a b)(o1:O k s.heap)(hx:xs[k]?=none)(hE:∀h' e,(∀c o,c ∉ [z,TO,i1,i2]->s.heap.get? c=some o->h'.get? c=some o)->(∃o,h'.get? e=some o/\o.cls=.type "StopIteration")->E (.ref e) { s with heap:=h' }) :
  wpAny (model prog w) A (Builtin.«zip.__next__» ⟨[.ref z],[]⟩) Q E s:=by
 have ab:(#[Value.ref i1,Value.ref i2]).isEmpty=false:=rfl
 wp_walk using wpAny_field hz rfl rfl,wpAny_seqItems j rfl,wpAny_setField_rec hz
 case hk=>exact (by decide:(0:Nat)<5)
 intro h1 z1 Y;simp only [List.zipIdx_cons,List.zipIdx_nil,List.forIn_cons,List.forIn_nil];obtain ⟨B,d2,d3,d4⟩:=D;refine Yaa (Yaa (Yaa (wpAny_onRaise (?_:wpAny _ _ (Builtin.SmallTypes.nextOf (.ref i1) >>= λv=>pure (some v)) _ _ _))));refine Yaa (U.stop hh (U.keep _ _ _ o1 λc hc o e=>Y.extBut c o (by rcases hc with rfl | rfl;exact B.2.2.1.symm;exact B.2.2.2.2.1.symm) e) hx λh2 e Z ⟨o,L,e2⟩=>?_);have z2:=Z _ _ B.2.2.1 z1;have ne:e≠z:=λq=>by
  rw [q,z2] at L;cases L;simp at e2
 refine wpAny_setField_rec z2 (by decide:(0:Nat)<5) λh3 _ s3=>hE h3 e (λc o n q=>?_) ⟨o,s3.extBut _ _ ne L,e2⟩;simp only [Yam,List.not_mem_nil,or_false,not_or] at n;exact s3.extBut c o n.1 (Z c o n.2.2.1 (Y.extBut c o n.1 q))
noncomputable def SqB (t:Bool)(K:FG)(H:Hp)(a:AD)(xs:List V):Prop:=if t=true then SqT K H a xs else SqL K H a xs
noncomputable def ItB (t:Bool)(j a:AD)(k:Nat)(h:Heap):Prop:=if t=true then h.IsTupleIter j a k else h.IsListIter j a k
noncomputable def OnB (t:Bool)(a:AD)(xs:Array Aa)(h:Heap):Prop:=if t=true then h.IsTuple a xs else h.IsList a xs
theorem ZhQ (t:Bool)(j l:AD)(xs:Array Aa)(q:l≠j):Ln j l xs (λk h=>ItB t j l k h/\OnB t l xs h):=by
 cases t
 ·exact Zeq j l xs q
 ·exact ZfP j l xs q
theorem ItB.keep (x:ItB t j a k h)(q:∀o,h.get? j=some o->h'.get? j=some o):ItB t j a k h':=by
 cases t
 ·exact Heap.IsListIter.at x q
 ·obtain ⟨o,e,r⟩:=x;exact ⟨o,q o e,r⟩
theorem ItB.obj (x:ItB t j a k h):∃o,h.get? j=some o/\∀v,o.data≠.cell v:=by
 cases t <;> (obtain ⟨o,e,c,d⟩:=x;exact ⟨o,e,λv z=>by rw [d] at z;cases z⟩)
theorem OnB.lt (x:OnB t a xs h):a<h.objs.size:=by
 cases t <;> (obtain ⟨o,e,_⟩:=x;exact Yah e)
theorem Inv.sqB {s:SS}(I:Inv X qQ σ H s)(h:SqB t X.K H a xs):∃its,Vals xs its/\OnB t a its.toArray s.heap:=by
 cases t
 ·obtain ⟨its,j,p,_⟩:=I.list h;exact ⟨its,j,p.isList⟩
 ·obtain ⟨its,j,p,_⟩:=I.tuple h;exact ⟨its,j,p⟩
theorem Inv.sqB_inj {s:SS}(I:Inv X qQ σ H s)(h:SqB t X.K H a xs)(h':SqB t X.K H a ys):xs=ys:=by
 cases t
 ·exact I.list_inj h h'
 ·exact I.tuple_inj h h'
theorem Zes (t:Bool)(j B:AD)(xs ys:Array Aa)(h1:OnB t j xs s.heap)(h2:OnB t B ys s.heap)(h:∀h',IsZip h' (s.heap.objs.size+4) (s.heap.objs.size+2) (s.heap.objs.size+3) .none->IsPair h' (s.heap.objs.size+2) (.ref s.heap.objs.size) (.ref (s.heap.objs.size+1))->IsPair h' (s.heap.objs.size+3) .none .none ->
   ItB t s.heap.objs.size j 0 h'->ItB t (s.heap.objs.size+1) B 0 h'->(∀c o,s.heap.get? c=some o->h'.get? c=some o)->R (.done (.ret (.ref (s.heap.objs.size+4)))) { s with heap:=h' }) :
  wpAny (model prog w) A (Builtin.«zip.__new__» ⟨[.type "zip", .ref j,.ref B],[]⟩) R E s:=by
 have D:=sub_zip;cases t
 ·have h1:s.heap.IsList j xs:=h1;have h2:∀o,Heap.IsList (Shared.heap { s with heap:=s.heap.push o }) B ys:=λo=>Heap.IsList.push h2 _
  wp_walk using wpAny_pyIter_list h1,wpAny_pyIter_list (h2 _)
  simp only [Ybn];refine h _ ?_ ?_ ?_ ⟨_,Yae _ (Yae _ (Yae _ (Yae _ (Yaw _ rfl)))),rfl,rfl⟩ ⟨_,Yae _ (Yae _ (Yae _ (Heap.get?_push_at (by simp only [Ybn]) rfl))),rfl,rfl⟩ λc o q=>Yae _ (Yae _ (Yae _ (Yae _ (Yae _ q))))
  ·exact Heap.get?_push_at (by simp only [Ybn]) rfl
  ·exact Yae _ (Yae _ (Heap.get?_push_at (by simp only [Ybn]) rfl))
  ·exact Yae _ (Heap.get?_push_at (by simp only [Ybn]) rfl)
 ·have h1:s.heap.IsTuple j xs:=h1;have h2:∀o,Heap.IsTuple (Shared.heap { s with heap:=s.heap.push o }) B ys:=λo=>by
   obtain ⟨o',e,r⟩:=h2;exact ⟨o',Yae _ e,r⟩
  wp_walk using wpAny_pyIter_tuple h1,wpAny_pyIter_tuple (h2 _)
  simp only [Ybn];refine h _ ?_ ?_ ?_ ⟨_,Yae _ (Yae _ (Yae _ (Yae _ (Yaw _ rfl)))),rfl,rfl⟩ ⟨_,Yae _ (Yae _ (Yae _ (Heap.get?_push_at (by simp only [Ybn]) rfl))),rfl,rfl⟩ λc o q=>Yae _ (Yae _ (Yae _ (Yae _ (Yae _ q))))
  ·exact Heap.get?_push_at (by simp only [Ybn]) rfl
  ·exact Yae _ (Yae _ (Heap.get?_push_at (by simp only [Ybn]) rfl))
  ·exact Yae _ (Heap.get?_push_at (by simp only [Ybn]) rfl)
theorem Zet {z TI TO i1 i2 N O:AD}(D:ZA z TI TO i1 i2 N O)(U:Ln i1 N xs j)(Y:Ln i2 O ys q)(hz:IsZip s.heap z TI TO .none)(B:IsPair s.heap TI (.ref i1) (.ref i2))(L:IsPair s.heap TO a b)(Z:j k s.heap)(o2:q k s.heap)(hx:xs[k]?=some x)(hy:ys[k]?=some y)(hQ:∀h',IsZip h' z TI TO (rawInt s.heap.objs.size)->IsPair h' TO x y->j (k+1) h'->q (k+1) h'->IsPair h' s.heap.objs.size x y->h'.objs.size=s.heap.objs.size+1->(∀c o,c ∉ [z,TO,i1,i2]->s.heap.get? c=some o->h'.get? c=some o)->Q (some (.ref s.heap.objs.size)) { s with heap:=h' }) :
  wpAny (model prog w) A (pyNext (.ref z)) Q E s:=by
 have ty:s.TypeIs (.ref z) "zip" := ⟨_,hz,rfl⟩;refine Yaa (Ydj (Ydx ty F.slot_zip_next (Ycc F.slot_zip_next ty F.entry_zip_next (Zer D U Y hz B L Z o2 hx hy ?_) (F.args_zip_next_1 _))));intro h' a1 a2 a3 a4 a5 a6 a7
 wp_walk
 exact hQ h' a1 a2 a3 a4 a5 a6 a7
theorem Zeu {z TI TO i1 i2 B N:AD}(O:A.in1.handled=none)(D:ZA z TI TO i1 i2 B N)(U:Ln i1 B xs L)(hz:IsZip s.heap z TI TO .none)(j:IsPair s.heap TI (.ref i1) (.ref i2))(q:IsPair s.heap TO a b)(Y:L k s.heap)(Z:xs[k]?=none)(hN:∀h',(∀c o,c ∉ [z,TO,i1,i2]->s.heap.get? c=some o->h'.get? c=some o)->Q none { s with heap:=h' }):wpAny (model prog w) A (pyNext (.ref z)) Q E s:=by
 have ty:s.TypeIs (.ref z) "zip" := ⟨_,hz,rfl⟩;refine Yaa (Ydj (Ydx ty F.slot_zip_next (Ycc F.slot_zip_next ty F.entry_zip_next (ZfQ O D U hz j q Y Z ?_) (F.args_zip_next_1 _))));rintro h' e a2 ⟨o',e1,e2⟩;exact Yaa (Yew ⟨o',e1,e2⟩ isSubtype_stop (Yab (hN h' a2)))
theorem Zba (h1:OnB t j xs s.heap)(h2:OnB t q ys s.heap)(h:∀h',IsZip h' (s.heap.objs.size+4) (s.heap.objs.size+2) (s.heap.objs.size+3) .none->IsPair h' (s.heap.objs.size+2) (.ref s.heap.objs.size) (.ref (s.heap.objs.size+1))->IsPair h' (s.heap.objs.size+3) .none .none ->
   ItB t s.heap.objs.size j 0 h'->ItB t (s.heap.objs.size+1) q 0 h'->(∀c o,s.heap.get? c=some o->h'.get? c=some o)->Q (.ref (s.heap.objs.size+4)) { s with heap:=h' }) :
  wpAny (model prog w) A (call (.type "zip") [.ref j,.ref q]) Q E s:=by
 refine callType_new F.called_zip (by decide) (F.typeCall_zip_2 _ _) (F.newCall_zip_2 _ _) (λobj=>F.args_object_init_3 obj _ _) F.entry_zip_new
  (Meets.of_wp (S:=λ_ R s=>OnB t j xs s.heap/\OnB t q ys s.heap/\∀h',IsZip h' (s.heap.objs.size+4) (s.heap.objs.size+2) (s.heap.objs.size+3) .none->IsPair h' (s.heap.objs.size+2) (.ref s.heap.objs.size) (.ref (s.heap.objs.size+1))->IsPair h' (s.heap.objs.size+3) .none .none ->
   ItB t s.heap.objs.size j 0 h'->ItB t (s.heap.objs.size+1) q 0 h'->(∀c o,s.heap.get? c=some o->h'.get? c=some o)->R (.ok (.ret (.ref (s.heap.objs.size+4)))) { s with heap:=h' }) λprog w A R s h=>Zes t j q xs ys h.1 h.2.1 λh' a b c d e f=>⟨_,rfl,h.2.2 h' a b c d e f⟩) ⟨h1,h2,?_⟩
 intro h' a b c d e f;exact ⟨⟨_,a,rfl⟩,h h' a b c d e f⟩
end
section
variable {X:Cx}
noncomputable def Itz (t:Bool)(K:FG)(a b:AD):It:=
 ⟨λi H=>∃xs ys x y,SqB t K H a xs/\SqB t K H b ys/\xs[i]?=some x/\ys[i]?=some y,λi H v H'=>∃T x y,v=.ref T/\H T=none/\H'=upd H T (.tup [x,y])/\(∀xs,SqB t K H a xs->xs[i]?=some x)/\∀ys,SqB t K H b ys->ys[i]?=some y,
  λi H=>∃xs,SqB t K H a xs/\xs.length<=i⟩
theorem Zcx {P:PP}{w:Ab}{K:FG}{elts:List Expr}{k:Nat}{pos:Pos}{t:Bool}{a b z TI TO i1 i2:AD}(D:ZA z TI TO i1 i2 a b) :
  ZbH P w K (.Tuple elts k pos) (Itz t K a b) [z,TI,TO,i1,i2] z (λi h=>IsZip h z TI TO .none/\IsPair h TI (.ref i1) (.ref i2)/\(∃x y,IsPair h TO x y)/\ItB t i1 a i h/\ItB t i2 b i h) where
 mem:=by simp
 obj:=λi h ⟨st,s1,⟨_,_,s2⟩,s3,s4⟩ c hc=>by
  simp only [Yam,List.not_mem_nil,or_false] at hc;rcases hc with rfl | rfl | rfl | rfl | rfl
  ·exact ⟨_,st,λv=>nofun⟩
  ·exact ⟨_,s1,λv=>nofun⟩
  ·exact ⟨_,s2,λv=>nofun⟩
  ·exact s3.obj
  ·exact s4.obj
 keep:=λi h h' ⟨st,s1,⟨x,y,s2⟩,s3,s4⟩ q=>⟨q z (by simp) _ st,q TI (by simp) _ s1,⟨x,y,q TO (by simp) _ s2⟩,s3.keep (q i1 (by simp)),s4.keep (q i2 (by simp))⟩
 item:=by
  intro X hP hw hK hc i qQ s σ H E I hf ⟨st,s1,⟨p,q,s2⟩,s3,s4⟩ hg;subst hP hw hK;obtain ⟨xs,ys,x,y,q1,q2,hx,hy⟩:=hg;obtain ⟨us,ru,o1⟩:=I.sqB q1;obtain ⟨vs,rv,o2⟩:=I.sqB q2;obtain ⟨u,hu,rx⟩:=ru.get hx;obtain ⟨v,hv,ry⟩:=rv.get hy;obtain ⟨d1,d2,d3,d4⟩:=id D;refine Zet D (ZhQ t i1 a us.toArray d3.2.2.1.symm) (ZhQ t i2 b vs.toArray d4.2.2.symm) st s1 s2 ⟨s3,o1⟩ ⟨s4,o2⟩ (by simpa using hu) (by simpa using hv) λh1 z1 t1 p1 p2 pr sz kp=>?_;refine ⟨_,rfl,wpAny_letOwnedTupleGo_zip (s:={ s with heap:=h1 }) z1 λh2 z2 sb=>?_⟩;have sb:Heap.SameBut z h1 h2:=sb;have hfr:H s.heap.objs.size=none:=I.fresh;have kk:∀c o,c ∉ [z,TI,TO,i1,i2]->s.heap.get? c=some o->h2.get? c=some o:=λc o hc e=>by
   simp only [Yam,List.not_mem_nil,or_false,not_or] at hc;exact (sb.2 c hc.1).trans (kp c o (by simp [hc]) e)
  have nT:∀c o,s.heap.get? c=some o->c≠s.heap.objs.size:=λc o e=>Yar (Yah e);have trk:∀c u,H c=some u->c ∉ [z,TI,TO,i1,i2]:=λc u e m=>by rw [(hf c m).1] at e;cases e
  have hzl:s.heap.objs.size≠z:=(nT z _ st).symm;refine ⟨.ref s.heap.objs.size,upd H s.heap.objs.size (.tup [x,y]),I.call' (ch:=[z,TI,TO,i1,i2]) rfl ⟨λc o e _ _ hb=>kk c o hb e,λc o e _ _ hb=>⟨o.slots,kk c o hb e⟩,λc o e n _=>by rw [Gj (nT c o e)];exact n,
   λc o e hb=>⟨o,kk c o hb e⟩,λc ys e=>by rw [Gj (Gg e hfr)];exact e,λc o u e=>by rw [Gj (Gg e hfr)];exact e,λc ps e=>⟨#[],by rw [Gj (Gg e hfr),e];simp⟩⟩ (λc v' e=>?_) I.bare (λc hb=>?_),
   rfl,⟨_,x,y,rfl,hfr,rfl,λxs' h'=>by rw [I.sqB_inj h' q1];exact hx,λys' h'=>by rw [I.sqB_inj h' q2];exact hy⟩,⟨z2,?_,⟨u,v,(sb.2 _ d1.2.1.symm).trans t1⟩,p1.1.keep λo e=>(sb.2 _ d1.2.2.1.symm).trans e,p2.1.keep λo e=>(sb.2 _ d1.2.2.2.1.symm).trans e⟩,λc hb=>?_⟩
  ·by_cases hb:c=s.heap.objs.size
   ·subst hb;rw [Gc] at e;cases e;exact ⟨by rw [Yav];show 2<=16777216;decide,[u,v],.cons rx (.cons ry .nil),⟨_,(sb.2 _ hzl).trans pr,rfl,_,rfl⟩⟩
   ·rw [Gj hb] at e;refine (I.hok c v' e).stay (λc v' hc z=>kk c v' ?_ z) (λc z=>by rw [Gj (Gg z hfr)];exact z) λc ys z=>by rw [Gj (Gg z hfr)];exact z
    rcases hc with rfl | hc
    ·exact trk _ _ e
    ·exact trk _ _ hc
  ·obtain ⟨f0,f1,f2,f3,f4,f5⟩:=hf c hb;exact ⟨f3,f1,f4,f5⟩
  ·exact (sb.2 _ d1.1.symm).trans (kp _ _ (by simp only [Yam,List.not_mem_nil,or_false,not_or];exact ⟨d1.1.symm,d2.1.symm,d3.1.symm,d4.1.symm⟩) s1)
  ·have ho:∃o,s.heap.get? c=some o:=by
    simp only [Yam,List.not_mem_nil,or_false] at hb;rcases hb with rfl | rfl | rfl | rfl | rfl
    ·exact ⟨_,st⟩
    ·exact ⟨_,s1⟩
    ·exact ⟨_,s2⟩
    ·exact s3.obj.imp λ_ z=>z.1
    ·exact s4.obj.imp λ_ z=>z.1
   obtain ⟨o,ho⟩:=ho;rw [Gj (nT c o ho)];exact (hf c hb).1
 done:=by
  intro X hP hw hK hc i qQ s σ H E I hf ⟨st,s1,⟨p,q,s2⟩,s3,s4⟩ hg;subst hP hw hK;obtain ⟨xs,q1,hx⟩:=hg;obtain ⟨us,ru,o1⟩:=I.sqB q1;obtain ⟨d1,d2,d3,d4⟩:=id D;have hl:=ru.length;have hh:X.A.in1.handled=none:=I.ok.hd hc;refine Zeu hh D (ZhQ t i1 a us.toArray d3.2.2.1.symm) st s1 s2 ⟨s3,o1⟩ (by simp;lia) λh' kp=>⟨rfl,?_⟩;have kk:∀c o,c ∉ [z,TI,TO,i1,i2]->s.heap.get? c=some o->h'.get? c=some o:=λc o hc e=>kp c o (λm=>hc (by simp only [Yam,List.not_mem_nil,or_false] at m ⊢;rcases m with m | m | m | m <;> simp [m])) e;have trk:∀c u,H c=some u->c ∉ [z,TI,TO,i1,i2]:=λc u e m=>by rw [(hf c m).1] at e;cases e
  refine I.call' (ch:=[z,TI,TO,i1,i2]) rfl ⟨λc o e _ _ hb=>kk c o hb e,λc o e _ _ hb=>⟨o.slots,kk c o hb e⟩,λc o e n _=>n,λc o e hb=>⟨o,kk c o hb e⟩,λc ys e=>e,λc o u e=>e,λc ps e=>⟨#[],by rw [e];simp⟩⟩ (λc v' e=>?_) I.bare (λc hb=>?_)
  ·refine (I.hok c v' e).stay (λc v' hc z=>kk c v' ?_ z) (λ_ z=>z) λ_ _ z=>z;rcases hc with rfl | hc
   ·exact trk _ _ e
   ·exact trk _ _ hc
  ·obtain ⟨f0,f1,f2,f3,f4,f5⟩:=hf c hb;exact ⟨f3,f1,f4,f5⟩
 self:=λ_ _ _ _ _ ⟨hz,_⟩ h=>wpAny_pyIter_zip hz h
noncomputable def ZiB (t:Bool)(K:FG)(ta:TA):TI:=λσ H R=>ta σ H λvs H1=>∃a b xs ys,vs=[.ref a,.ref b]/\SqB t K H1 a xs/\SqB t K H1 b ys/\R (Itz t K a b) H1
theorem ZfR (t:Bool)(K:FG)(hg:Gl X "zip")(hm:X.mg "zip" = none)(ha:PA X [l,m] ta)(h:X.K=K:=by rfl)(hs:starEach [l,m] X.env=(false,eval l X.env)::starEach [m] X.env:=by rfl)(hp:(backTo pos (starEach [m] X.env)).any (·.1)=false:=by rfl) :
  PI X (.Tuple B k p0) (.Call (.Name "zip" p) [l,m] [] pos) (ZiB t K ta):=by
 subst h;intro qQ s σ H R I h;refine Yej (Ol I hg hm Zad (Yfe (thG (ha pos qQ s σ H _ I h) λus j vs H1 D r1 q1=>?_) hs hp) (by decide) (by decide));obtain ⟨a,b,xs,ys,rfl,L,N,q⟩:=q1;obtain ⟨u1,u2,rfl,O,U⟩:=r1.two;cases O;cases U;obtain ⟨its,rv,Y⟩:=D.sqB L;obtain ⟨Z,aa,o2⟩:=D.sqB N;have la:=Y.lt;have lb:=o2.lt;refine Zba Y o2 λh' z1 z2 z3 z4 z5 kp=>wpAny_pyIter_zip z1 ?_;refine ⟨j.heap.objs.size+4,[j.heap.objs.size+4,j.heap.objs.size+2,j.heap.objs.size+3,j.heap.objs.size,j.heap.objs.size+1],_,_,H1,rfl,D.kept (t':=j.toks) kp,Zcx (t:=t) (a:=a) (b:=b) ⟨?_,?_,?_,?_⟩,⟨z1,z2,⟨_,_,z3⟩,z4,z5⟩,λc hc=>?_,q⟩
 iterate 4 (refine ⟨?_,?_⟩ <;> first | lia | (refine ⟨?_,?_⟩ <;> first | lia | (refine ⟨?_,?_⟩ <;> first | lia | (refine ⟨?_,?_⟩ <;> first | lia | (refine ⟨?_,?_⟩ <;> lia)))))
 have e:j.heap.objs.size<=c:=by
  simp only [Yam,List.not_mem_nil,or_false] at hc
  lia
 exact D.fpOk e (D.hok.fresh e)
end
end L2
namespace M
open PySem L2
noncomputable def top (i:Nat):Stmt:=PySem.Challenge.pw_onceways_k62_papers_together.main.body.getD i (.Pass ⟨0,0,0,0⟩)
noncomputable abbrev Zg2:Stmt:=top 1
noncomputable abbrev ZeT:Stmt:=top 2
noncomputable abbrev Zg3:Stmt:=top 8
noncomputable abbrev Zev:Stmt:=top 10
noncomputable abbrev Zew:Stmt:=top 11
noncomputable abbrev Zex:Stmt:=top 12
noncomputable abbrev ZfS:Stmt:=top 16
noncomputable abbrev ZeU:Stmt:=top 17
noncomputable abbrev ZfT:Stmt:=top 18
noncomputable abbrev ZfU:Stmt:=top 19
noncomputable abbrev ZfV:Stmt:=top 20
noncomputable abbrev Zg4:Stmt:=top 22
noncomputable abbrev Zg5:Stmt:=top 23
noncomputable abbrev ZeV:Stmt:=top 25
noncomputable abbrev ZeW:Stmt:=top 26
noncomputable abbrev ZfW:Stmt:=top 27
noncomputable abbrev ZfX:Stmt:=top 28
noncomputable abbrev Zg6:Stmt:=top 29
noncomputable abbrev ZfY:Stmt:=top 30
noncomputable abbrev Zg7:Stmt:=top 31
noncomputable abbrev Zg8:Stmt:=top 32
noncomputable abbrev Zg9:Stmt:=top 33
noncomputable abbrev Zha:Stmt:=top 34
noncomputable abbrev Zhb:Stmt:=top 35
noncomputable abbrev Zhc:Stmt:=top 36
noncomputable abbrev Zcy:Stmt:=top 37
noncomputable abbrev Zcz:Stmt:=Z1 (top 15) 0
noncomputable abbrev Zey:Stmt:=Z1 (top 15) 1
theorem lT2 (h:let Z:=D;let R2:=q;GG j R2 Z σ H):GG j q D σ H:=h
theorem lT3 (h:let Z:=D;let R3:=B;let R2:=GG q R3;GG j R2 Z σ H):GG j (GG q B) D σ H:=h
theorem lT4 (h:let Z:=D;let R4:=L;let R3:=GG B R4;let R2:=GG q R3;GG j R2 Z σ H):GG j (GG q (GG B L)) D σ H:=h
theorem lT5 (h:let Z:=D;let R5:=N;let R4:=GG L R5;let R3:=GG B R4;let R2:=GG q R3;GG j R2 Z σ H):GG j (GG q (GG B (GG L N))) D σ H:=h
theorem lT6 (h:let Z:=D;let R6:=O;let R5:=GG N R6;let R4:=GG L R5;let R3:=GG B R4;let R2:=GG q R3;GG j R2 Z σ H):GG j (GG q (GG B (GG L (GG N O)))) D σ H:=h
theorem lT8 (h:let Z:=D;let R8:=Y;let R7:=GG U R8;let R6:=GG O R7;let R5:=GG N R6;let R4:=GG L R5;let R3:=GG B R4;let R2:=GG q R3;GG j R2 Z σ H):GG j (GG q (GG B (GG L (GG N (GG O (GG U Y)))))) D σ H:=h
theorem lT9 (h:let Z:=D;let R9:=a9;let R8:=GG Y R9;let R7:=GG U R8;let R6:=GG O R7;let R5:=GG N R6;let R4:=GG L R5;let R3:=GG B R4;let R2:=GG q R3;GG j R2 Z σ H):GG j (GG q (GG B (GG L (GG N (GG O (GG U (GG Y a9))))))) D σ H:=h
theorem Zid (h:let Z:=D;let R11:=q;let R10:=GG j R11;let R9:=GG a9 R10;let R8:=GG a8 R9;let R7:=GG a7 R8;let R6:=GG Y R7;let R5:=GG U R6;let R4:=GG O R5;let R3:=GG N R4;let R2:=GG L R3;GG B R2 Z σ H):GG B (GG L (GG N (GG O (GG U (GG Y (GG a7 (GG a8 (GG a9 (GG j q))))))))) D σ H:=h
noncomputable abbrev FI:=Nat->St->Hp->Prop
noncomputable abbrev CI:=Nat->List V->Hp->Prop
section
variable {P:PP}{w:Ab}{K:FG}{mg:Str->Option Aa}{base:Heap}
theorem Jb:2<=sizeLine:=by decide
theorem Zez (h0:0<=i)(h:xs[i.toNat]?=some v):atI xs i=some v:=by
 obtain ⟨k,rfl⟩:=Int.eq_ofNat_of_zero_le h0;exact GC h
theorem U3 (T:Trs H xs ts)(n:Nd ts c r):∃t,atI xs (c-2)=some (.ref t)/\H t=some (.tup [.int r.1,.int r.2.1,.int r.2.2]):=by
 obtain ⟨t,h1,h2⟩:=T.at n.2;exact ⟨t,Zez (by have:=n.1;lia) h1,h2⟩
structure TabAt (H:Hp)(tb l:AD)(root:Int)(xs:List V)(ts:List Tri):Prop where
 w:H tb=some (.tup [.int root,.ref l])
 l:H l=some (.lst xs)
 t:Trs H xs ts
theorem TabAt.same {tb l:AD}(h:TabAt H tb l root xs ts)(s:Same H H'):TabAt H' tb l root xs ts:=⟨s _ _ h.w,s _ _ h.l,h.t.same s⟩
theorem Jp {ns:LI}{i:Nat}(h:(ns.map V.int)[i]?=some x):∃z,x=.int z/\ns[i]?=some z:=by
 rw [Yaz] at h;cases hz:ns[i]? with
 | none=>rw [hz] at h;cases h
 | some z=>rw [hz] at h;cases h;exact ⟨z,rfl,rfl⟩
end
section
theorem ZhR:¬ (("most" : Str) = "nodes"):=by decide +kernel
theorem ZhS:¬ (("most" : Str) = "places"):=by decide +kernel
theorem ZhT:¬ (("nodes" : Str) = "places"):=by decide +kernel
noncomputable def ZbD (m:V)(nl pd:AD):List (Str×V):=Ui "places" (.ref pd) (Ui "nodes" (.ref nl) (Ui "most" m []))
theorem W4 (m:V)(nl pd:AD):(ZbD m nl pd).lookup ("most" : Str)=some m:=by
 unfold ZbD;rw [Gx,if_neg ZhS,Gx,if_neg ZhR,Gx,if_pos rfl]
theorem Oi (m:V)(nl pd:AD):(ZbD m nl pd).lookup ("nodes" : Str)=some (.ref nl):=by
 unfold ZbD;rw [Gx,if_neg ZhT,Gx,if_pos rfl]
theorem JB (m:V)(nl pd:AD):(ZbD m nl pd).lookup ("places" : Str)=some (.ref pd):=by
 unfold ZbD;rw [Gx,if_pos rfl]
theorem ZeA (m:V)(nl pd:AD){x:Str}(h1:¬ x = "places")(h2:¬ x = "nodes")(j:¬ x = "most"):(ZbD m nl pd).lookup x=none:=by
 unfold ZbD;rw [Gx,if_neg h1,Gx,if_neg h2,Gx,if_neg j]
 rfl
end
structure PlOk (kvs:List (List Key×V))(ts:List Tri):Prop where
 s:SeenOk kvs ts
 n:∀r:Tri,JC kvs (Vf r)=none->r ∉ ts
 l:kvs.length<=ts.length
theorem PlOk.nil:PlOk [] []:=⟨λr v e=>(by cases e),λr _ h=>(by cases h),Yaf _⟩
theorem PlOk.add (S:PlOk kvs ts)(r:Tri):PlOk (JD kvs (Vf r) (.int ((ts.length:Int)+2))) (ts++[r]):=by
 refine ⟨S.s.add rfl,λq e j=>?_,Ybq (GW _ _ _) (by rw [Yak,Ybc];have:=S.l;lia)⟩;rw [GY] at e;by_cases h:Vf q=Vf r
 ·rw [if_pos h] at e;cases e
 ·rw [if_neg h] at e;rcases Yaj.mp j with z | z
  ·exact S.n q e z
  ·exact h (by rw [Yai.mp z])
structure ShelfAt (C:AD)(H:Hp)(p nl pd:AD)(m:V)(xs:List V)(ts:List Tri)(kvs:List (List Key×V)):Prop where
 ob:∃dx,H p=some (.ins C dx (ZbD m nl pd))
 nd:H nl=some (.lst xs)
 tr:Trs H xs ts
 pl:H pd=some (.dT kvs)
 ok:PlOk kvs ts
structure Shf (C:AD)(H0 H:Hp)(p nl pd:AD)(m:V)(ts:List Tri):Prop where
 kp:∀b o,b≠nl->b≠pd->H0 b=some o->H b=some o
 at_:∃xs kvs,ShelfAt C H p nl pd m xs ts kvs
section
variable {C p nl pd:AD}{H0 H H':Hp}{m:V}{xs:List V}{ts:List Tri}{kvs:List (List Key×V)}
theorem ShelfAt.same (S:ShelfAt C H p nl pd m xs ts kvs)(s:Same H H'):ShelfAt C H' p nl pd m xs ts kvs:=
 ⟨S.ob.elim λdx e=>⟨dx,s _ _ e⟩,s _ _ S.nd,S.tr.same s,s _ _ S.pl,S.ok⟩
end
structure ZfZ (K:FG)(mg:Str->Option Aa)(C TM:AD):Prop where
 cl:Cls K C
 nM:NoAttr K C "most"
 nN:NoAttr K C "nodes"
 nP:NoAttr K C "places"
 mgC:mg "Shelf" = some (.ref C)
section
variable {P:PP}{w:Ab}{K:FG}{mg:Str->Option Aa}{base:Heap}
noncomputable def Zf0 (C:AD):Sp:=λvs H Q _=>∃(p dx:AD)(m:V),vs=[.ref p,m]/\H p=some (.ins C dx [])/\∀(nl pd:AD)(H':Hp),H nl=none->H pd=none->nl≠pd->ShelfAt C H' p nl pd m [] [] []->(∀b o,H b=some o->b≠p->H' b=some o)->Q .non H'
theorem ZhU:Gn ["self", "most"] ["self", "most"] (Gf Zcz):=⟨rfl,rfl,rfl,by decide +kernel,rfl,by decide +kernel,by decide +kernel⟩
theorem Zf1 (F:FunD K "__init__" "Shelf.__init__" Zcz dV f fd)(T:ZfZ K mg C TM):GE P w K mg base CX0 1 f fd ["self", "most"] (Zf0 C):=by
 refine F.ok ZhU (λvs H Q E h=>?_) (λaa A Y s H vs Q E hr h=>?_)
 ·obtain ⟨p,dx,m,rfl,_⟩:=h
  rfl
 ·obtain ⟨p,dx,m,rfl,hp,q⟩:=h;refine ⟨_,Gb (ZN (pv 0) (pv 1) rfl)
    (Gb (ZN (pv 0) (GD Ge) rfl)
    (Gh (ZN (pv 0) Zb1 rfl))),?_⟩
  refine lT3 ?_;intro Z R3 R2;refine xe rfl (xe rfl ⟨p,C,dx,[],rfl,hp,T.cl,T.nM,(by show 0<1000;decide),?_⟩);have U:upd H p (.ins C dx (Ui "most" m [])) p=some (.ins C dx (Ui "most" m [])):=Gc;have k1:∀b o,H b=some o->b≠p->upd H p (.ins C dx (Ui "most" m [])) b=some o:=λb o e n=>Gm e n;have f1:∀b,upd H p (.ins C dx (Ui "most" m [])) b=none->H b=none:=λb e=>by
   by_cases z:b=p
   ·rw [z,U] at e;cases e
   ·rw [Gj z] at e;exact e
  generalize upd H p (.ins C dx (Ui "most" m []))=H1 at U k1 f1 ⊢;refine ⟨Yat _,λnl L=>?_⟩;have N:p≠nl:=Gg U L;refine xe rfl ⟨p,C,dx,xe rfl ⟨Gm U N,T.cl,T.nN,(by show 1<1000;decide),?_⟩⟩;intro pd j;have B:p≠pd:=λz=>by rw [z,Gc] at j;cases j
  have O:nl≠pd:=λz=>by rw [z,Gj (Ne.symm B),Gc] at j;cases j
  have D:H1 pd=none:=by rw [Gj (Ne.symm B),Gj (Ne.symm O)] at j;exact j
  refine xe rfl ⟨p,C,dx,xe rfl ⟨Gm Gc B,T.cl,T.nP,(by simp [Ui];split <;> simp [Ui]),?_⟩⟩;refine q nl pd _ (f1 _ L) (f1 _ D) O ⟨⟨dx,Gc⟩,?_,.nil,?_,PlOk.nil⟩ λb o e n=>?_
  ·rw [Gj (Ne.symm N),Gj O,Gj (Ne.symm N),Gc]
  ·rw [Gj (Ne.symm B),Gc]
  ·have e':=k1 b o e n;rw [Gj n,Gj (Gg e' D),Gj n,Gj (Gg e' L)];exact e'
noncomputable def Zf2 (C j:AD):Sp:=λvs H Q E=>∃(p nl pd:AD)(M:Int)(xs:List V)(ts:List Tri)(kvs:List (List Key×V))(r lo hi:Int),vs=[.ref p,.int r,.int lo,.int hi]/\ShelfAt C H p nl pd (.int M) xs ts kvs/\ts.length<=10000 /\
 (hi=0->Q (.int lo) H)/\(hi≠0->(∀c H',Nd ts c (r,lo,hi)->Same H H'->Q (.int c) H')/\((r,lo,hi) ∉ ts->((ts.length:Int)<M->∀H',Shf C H H' p nl pd (.int M) (ts++[(r,lo,hi)])->Q (.int ((ts.length:Int)+2)) H')/\(¬ (ts.length:Int)<M->∀H',Same H H'->E (.ref j) none H')))
theorem scPut:Gn ["self", "road", "low", "high", "node"] ["self", "road", "low", "high"] (Gf Zey):=⟨rfl,rfl,rfl,by decide +kernel,rfl,by decide +kernel,by decide +kernel⟩
theorem Zf3 (F:Fun K "put" "Shelf.put" Zey f fd)(T:ZfZ K mg C TM)(aa:mg "TooMany" = some (.ref TM))(ab:ExcC K TM)(B:mg "len" = none):GE P w K mg base (CXr P w) 1 f fd ["self", "road", "low", "high"] (Zf2 C TM):=by
 refine F.okR scPut (λvs H Q E h=>?_) (λac A ad s H vs Q E hr h=>?_)
 ·obtain ⟨_,_,_,_,_,_,_,_,_,_,rfl,_⟩:=h
  rfl
 ·obtain ⟨p,nl,pd,M,xs,ts,kvs,r,lo,hi,rfl,S,aj,q0,q1⟩:=h;have D:(A.deeper (PyProof.Rows.envOfC "Shelf.put" (Gf Zey) s.heap.objs.size f ac)).units+1<cLine:=by have:=hr.un;lia
  have ak:=Yav.symm;refine ⟨_,Gb (GX (gCm OC (pv 3) Gd) (Gh (Gr (pv 2))) Gp)
    (Gb (gSt 4 scPut.nd (GT (Ga (pv 1) (Ga (pv 2) (Ga (pv 3) Ge)))))
    (Gb (GX (XG (UO D (pv 4) (OD (pv 0) rfl)) rfl) (Gb (GX (PW.pt (Zz (gCm ZdE (OD (pv 0) rfl) Zc0) (Xe (gCm Zhm (gB1 (VQ K) B Ybx (OD (pv 0) rfl)) (OD (pv 0) rfl))))) (Gh (XT (E:=E) rfl Uj rfl aa ab (Ga Zc1 Ge))) Gp)
    (Gb (Ua D (OD (pv 0) rfl) (pv 4) (Gk GP (gB1 (VQ K) B Ybx (OD (pv 0) rfl)) Gd) rfl)
    (Gh (G9 (kBm K Ych Ydb Ydc GB (OD (pv 0) rfl) (Ga (pv 4) Ge)))))) Gp)
    (Gh (Gr (gDg D (OD (pv 0) rfl) (pv 4)))))),?_⟩
  refine lT4 ?_;intro Z R4 R3 R2;refine xe rfl ⟨rfl,xe rfl (O7 (λc1=>?_) (λc1=>?_))⟩
  ·have L:hi=0:=V.int.inj (Ybt c1);exact xe rfl (q0 L)
  have L:hi≠0:=λz=>c1 (Yay (Ybh V.int z));obtain ⟨qo,qn⟩:=q1 L;dsimp only [JJ];refine xe rfl (xe rfl (xe rfl ⟨(by show 3<=sizeLine;decide),λt ht=>?_⟩));have U:Same H (upd H t (.tup [.int r,.int lo,.int hi])):=Same.new ht;have N:upd H t (.tup [.int r,.int lo,.int hi]) t=some (.tup ((Vf (r,lo,hi)).map kV)):=Gc;have j:=S.same U;generalize upd H t (.tup [.int r,.int lo,.int hi])=H1 at U N j ⊢;obtain ⟨dx,q⟩:=j.ob;have al:=j.tr.len;have am:=j.ok.l;dsimp only [Gq];cases hv:JC kvs (Vf (r,lo,hi)) with
  | some v=>
   obtain ⟨c,rfl,hc⟩:=j.ok.s _ _ hv;have dg:DGet H1 pd (.ref t) (some (.int c)):=hv▸DGet.t j.pl N;refine xe rfl (xe rfl ⟨p,C,dx,_,xe rfl ⟨q,T.cl,T.nP,JB _ _ _,pd,xe rfl ⟨dg,xe rfl (OA ?_)⟩⟩⟩);dsimp only [JJ];exact xe rfl ⟨p,C,dx,_,xe rfl ⟨q,T.cl,T.nP,JB _ _ _,xe rfl ⟨pd,xe rfl ⟨dg,qo c H1 hc U⟩⟩⟩⟩
  | none=>
   have dg:DGet H1 pd (.ref t) none:=hv▸DGet.t j.pl N;obtain ⟨qM,qE⟩:=qn (j.ok.n _ hv);refine xe rfl (xe rfl ⟨p,C,dx,_,xe rfl ⟨q,T.cl,T.nP,JB _ _ _,pd,xe rfl ⟨dg,xe rfl (Ob ?_)⟩⟩⟩);refine xe rfl ⟨p,C,dx,_,xe rfl ⟨q,T.cl,T.nM,W4 _ _ _,rfl,xe rfl (Ob ?_)⟩⟩;refine xe rfl ⟨p,C,dx,_,xe rfl ⟨q,T.cl,T.nN,Oi _ _ _,nl,xe rfl ⟨.inl (SqL.of j.nd),xe rfl ⟨p,C,dx,_,xe rfl ⟨q,T.cl,T.nM,W4 _ _ _,xd rfl rfl (xe rfl (O7 (λc2=>?_) (λc2=>?_)))⟩⟩⟩⟩⟩
   ·have ae:((xs.length:Int))>=M:=Ybt c2;exact ⟨by show 1<=sizeLine;rw [Yav];lia,qE (by lia) H1 U⟩
   ·have ae:¬ ((xs.length:Int))>=M:=λz=>c2 (Yay z);dsimp only [JJ];refine xe rfl ⟨p,C,dx,_,xe rfl ⟨q,T.cl,T.nN,Oi _ _ _,nl,xe rfl ⟨.inl (SqL.of j.nd),xd rfl rfl (xe rfl ⟨p,C,dx,_,xe rfl ⟨q,T.cl,T.nP,JB _ _ _,xe rfl ⟨pd,xe rfl ⟨DPut.t j.pl N (by lia),?_⟩⟩⟩⟩)⟩⟩⟩;have Y:p≠pd:=G6 q j.pl (λz=>by cases z);have O:nl≠pd:=G6 j.nd j.pl (λz=>by cases z);have af:p≠nl:=G6 q j.nd (λz=>by cases z);have ag:t≠pd:=G6 N j.pl (λz=>by cases z);have ah:t≠nl:=G6 N j.nd (λz=>by cases z);rw [show (xs.length:Int)=(ts.length:Int) by lia];refine xe rfl ⟨p,C,dx,_,xe rfl ⟨Gm q Y,T.cl,T.nN,Oi _ _ _,.inl ⟨rfl,_,SqL.of (Gm j.nd O)⟩,xe rfl ⟨nl,xd rfl rfl ⟨Gm j.nd O,by lia,?_⟩⟩⟩⟩;have ai:=j.ok.add (r,lo,hi);have ev:JC (JD kvs (Vf (r,lo,hi)) (.int ((ts.length:Int)+2))) (Vf (r,lo,hi))=some (.int ((ts.length:Int)+2)):=by rw [GY,if_pos rfl]
    have e1:upd (upd H1 pd (.dT (JD kvs (Vf (r,lo,hi)) (.int ((ts.length:Int)+2))))) nl (.lst (xs++[.ref t])) pd=some (.dT (JD kvs (Vf (r,lo,hi)) (.int ((ts.length:Int)+2)))):=Gm Gc (Ne.symm O);have e2:upd (upd H1 pd (.dT (JD kvs (Vf (r,lo,hi)) (.int ((ts.length:Int)+2))))) nl (.lst (xs++[.ref t])) t=some (.tup ((Vf (r,lo,hi)).map kV)):=Gm (Gm N ag) ah;have e3:upd (upd H1 pd (.dT (JD kvs (Vf (r,lo,hi)) (.int ((ts.length:Int)+2))))) nl (.lst (xs++[.ref t])) p=some (.ins C dx (ZbD (.int M) nl pd)):=Gm (Gm q Y) af;have t1:∀b ys,H1 b=some (.tup ys)->upd (upd H1 pd (.dT (JD kvs (Vf (r,lo,hi)) (.int ((ts.length:Int)+2))))) nl (.lst (xs++[.ref t])) b=some (.tup ys):=λb ys e=>Gm (Gm e (G6 e j.pl (λz=>by cases z))) (G6 e j.nd (λz=>by cases z));refine xe rfl ⟨p,C,dx,_,xe rfl ⟨e3,T.cl,T.nP,JB _ _ _,xe rfl ⟨pd,xe rfl ⟨ev▸DGet.t e1 e2,?_⟩⟩⟩⟩;exact qM (by lia) _ ⟨λb o n1 n2 e=>Gm (Gm (U _ _ e) n2) n1,_,_,⟨dx,e3⟩,Gc,(j.tr.keep t1).snoc e2,e1,ai⟩
end
inductive Pt (κ:Type) where
 | leaf (n:Int)
 | node (r:Int) (lo hi:κ)
inductive Rc {κ:Type}(pf:κ->Pt κ)(s:κ):κ->Prop
 | start:Rc pf s s
 | lo {k:κ} {r:Int} {a b:κ}:Rc pf s k->pf k=.node r a b->Rc pf s a
 | hi {k:κ} {r:Int} {a b:κ}:Rc pf s k->pf k=.node r a b->Rc pf s b
section
variable {P:PP}{w:Ab}{κ:Type}[DecidableEq κ](G:GK P w κ)
noncomputable def PV (H:Hp)(v:V):Pt κ->Prop
 | .leaf n=>v=.int n
 | .node r lo hi=>∃t bl bh,v=.ref t/\H t=some (.tup [.int r,.ref bl,.ref bh])/\G.At H bl lo/\G.At H bh hi
noncomputable def Zie (pf:κ->Pt κ)(Dom:κ->Prop):Sp:=λvs H Q _=>∃(b:AD)(k:κ),vs=[.ref b]/\G.At H b k/\Dom k/\∀(v:V)(H':Hp),Same H H'->PV G H' v (pf k)->Q v H'
structure FndG (pf:κ->Pt κ)(s:κ)(H:Hp)(kvs:GKv κ):Prop where
 ks:GKeys G H kvs
 nd:(kvs.map (·.1)).Nodup
 rc:∀p∈kvs,Rc pf s p.1
 pv:∀p∈kvs,PV G H p.2.2 (pf p.1)
end
section
variable {P:PP}{w:Ab}{κ:Type}[DecidableEq κ]{G:GK P w κ}{H H':Hp}{v:V}{pf:κ->Pt κ}{s:κ}{kvs:GKv κ}
theorem PV.keep (h:PV G H v p)(t:∀b ys,H b=some (.tup ys)->H' b=some (.tup ys)):PV G H' v p:=by
 cases p with
 | leaf n=>exact h
 | node r lo hi=>
  obtain ⟨x,j,q,e,h1,h2,B⟩:=h;exact ⟨x,j,q,e,t _ _ h1,G.keep h2 t,G.keep B t⟩
theorem FndG.keep (F:FndG G pf s H kvs)(t:∀b ys,H b=some (.tup ys)->H' b=some (.tup ys)):FndG G pf s H' kvs:=⟨F.ks.keep t,F.nd,F.rc,λp j=>(F.pv p j).keep t⟩
theorem U5 (h:O6 kvs k=none):k ∉ kvs.map (·.1):=by
 intro j;obtain ⟨p,q,rfl⟩:=Yal.mp j;unfold O6 at h;have:=List.find?_eq_none.mp (Yfi.mp h) p q;simp at this
theorem Yv {v:V}(h:O6 kvs k=some v):∃b,(k,b,v)∈kvs:=by
 unfold O6 at h;obtain ⟨p,j,rfl⟩:=Ybw.mp h;have h1:=List.find?_some j;have h2:=List.mem_of_find?_eq_some j;exact ⟨p.2.1,by rw [<-Ybt h1];exact h2⟩
theorem Zbb (nd:(kvs.map (·.1)).Nodup){v:V}(h:(k,b,v)∈kvs):O6 kvs k=some v:=by
 unfold O6
 induction kvs with
 | nil=>cases h
 | cons p kvs ih=>
  rw [Yaq] at nd;obtain ⟨q,B⟩:=List.nodup_cons.mp nd;rcases Yam.mp h with e | e
  ·rw [<-e];simp
  ·have j:¬ p.1=k:=λz=>q (by rw [z];exact Yal.mpr ⟨_,e,rfl⟩);rw [Ydl];simp only [j,decide_false,Yem,Ycy];exact ih B e
theorem W5 {v:V}(h:O6 kvs k=none):O6 (kvs++[(k,b,v)]) k=some v:=by
 unfold O6 at h ⊢;rw [List.find?_append,Yfi.mp h];simp
theorem FndG.snoc (F:FndG G pf s H kvs){v:V}(B:O6 kvs k=none)(D:G.At H b k)(L:Rc pf s k)(N:PV G H v (pf k)):FndG G pf s H (kvs++[(k,b,v)]):=by
 refine ⟨λp j=>?_,?_,λp j=>?_,λp j=>?_⟩
 ·rcases Yaj.mp j with h | h
  ·exact F.ks p h
  ·rw [Yai.mp h];exact D
 ·rw [Yas];refine Ycl.mpr ⟨F.nd,by simp,λa ha c q=>?_⟩;have q:c=k:=by simpa using q
  rw [q];exact λz=>U5 B (z▸ha)
 ·rcases Yaj.mp j with h | h
  ·exact F.rc p h
  ·rw [Yai.mp h];exact L
 ·rcases Yaj.mp j with h | h
  ·exact F.pv p h
  ·rw [Yai.mp h];exact N
end
noncomputable def Shut {κ:Type}(pf:κ->Pt κ)(s:κ)(ks j:List κ):Prop:=(s∈ks\/s∈j)/\∀k∈ks,∀r a b,pf k=.node r a b->(a∈ks\/a∈j)/\(b∈ks\/b∈j)
theorem Shut.all {κ:Type}{pf:κ->Pt κ}{s:κ}{ks:List κ}(h:Shut pf s ks []):∀k,Rc pf s k->k∈ks:=by
 intro k j
 induction j with
 | start=>exact h.1.resolve_right (by simp)
 | lo _ e ih=>exact (h.2 _ ih _ _ _ e).1.resolve_right (by simp)
 | hi _ e ih=>exact (h.2 _ ih _ _ _ e).2.resolve_right (by simp)
section
variable {P:PP}{w:Ab}{K:FG}{mg:Str->Option Aa}{base:Heap}{κ:Type}[DecidableEq κ]{G:GK P w κ}{pf:κ->Pt κ}{Dom:κ->Prop}
noncomputable def Zf4 (G:GK P w κ)(pf:κ->Pt κ)(q:AD):Sp:=λvs H Q _=>∃(b:AD)(s:κ)(U:List κ),vs=[.ref b,.ref q]/\G.At H b s/\(∀k,Rc pf s k->k∈U)/\U.length<=100000 /\
 ∀(j:AD)(kvs:GKv κ)(H':Hp),Same H H'->H j=none->H' j=some (gd G j kvs)->FndG G pf s H' kvs->(∀k,Rc pf s k->k∈kvs.map (·.1))->kvs.length<=U.length->Q (.ref j) H'
theorem scPbl:Gn ["start", "parts", "found", "pending", "part"] ["start", "parts"] (Gf ZfS):=⟨rfl,rfl,rfl,by decide +kernel,rfl,by decide +kernel,by decide +kernel⟩
theorem Zf5 (F:Fun K "parts_below" "parts_below" ZfS f fd)(aw:Fun K x q st fP ai)(ax:Binds K ai ps [])(ay:GE P w K mg base CX0 kp fP ai ps (Zie G pf Dom))(an:∀s k,Rc pf s k->Dom s->Dom k)(az:W.kitOne K (.type "int") (.type "tuple")=some false)(ao:mg "isinstance" = none)(ap:mg "tuple" = none):GE P w K mg base CX0 (kp+1) f fd ["start", "parts"] (λvs H Q E=>(∀b s,vs=[.ref b,.ref fP]->G.At H b s->Dom s)/\Zf4 G pf fP vs H Q E):=by
 refine F.ok scPbl (λvs H Q E h=>?_) (λa1 A a2 s H vs Q E hr h=>?_)
 ·obtain ⟨_,_,_,_,rfl,_⟩:=h
  rfl
 ·obtain ⟨aq,b,st,U,rfl,hb,hU,aA,qq⟩:=h;have a3:Dom st:=aq b st rfl hb;have N:(A.deeper (PyProof.Rows.envOfC "parts_below" (Gf ZfS) s.heap.objs.size f a1)).units+71<cLine:=by have:=hr.un;lia
  have aB:=Yav.symm;refine ⟨_,Gb (gSt 2 scPbl.nd (Za2 (G:=G)))
    (Gb (gSt 3 scPbl.nd (GD (Ga (pv 0) Ge)))
    (Gb (VI Ycu (Uu (pv 3) (λ_=>rfl))
    (Gb (gSt 4 scPbl.nd (Zfh Ych PySem.F.slot_list_pop PySem.F.type_list_pop Zfi (pv 3)))
    (Gh (GX (XG (Za3 (G:=G) N (pv 4) (pv 2)) rfl) (Gb (Xy (G:=G) N (pv 2) (pv 4) (Zcw ay hr (pv 1) aw.kp ax .nil Gu (Ga (pv 4) Ge)) rfl)
    (Gh (GX (Vi (G7 (ZgX K) rfl ao Uw (Ga (OX (G:=G) N (pv 2) (pv 4) (λ_ _=>rfl)) (Ga (XW ap Js) Ge)))) (Gh (G9 (kBm K Ych PySem.F.slot_list_extend PySem.F.type_list_extend Vw (pv 3) (Ga (JE (ZhG K) (OX (G:=G) N (pv 2) (pv 4) (λ_ _=>rfl)) (J1 Gd) JS) Ge)))) Gp))) Gp))))
    (Gh (Gr (pv 2))))),?_⟩
  refine lT4 ?_;intro Z R4 R3 R2;refine Go (λσ' H'=>∃j:AD,σ'=[some (.ref b),some (.ref fP),some (.ref j),none,none]/\Same H H'/\H j=none/\H' j=some (gd G j ([]:GKv κ))) ?s0 ?f0
  case f0=>exact λB j ab=>B _ _ ⟨j,rfl,Same.new ab,ab,Gc⟩
  rintro σ' H1 ⟨j,rfl,s1,ab,ef⟩;refine Go (λσ' H'=>∃D:AD,σ'=[some (.ref b),some (.ref fP),some (.ref j),some (.ref D),none]/\Same H1 H'/\H1 D=none/\H' D=some (.lst [.ref b])) ?s1 ?f1
  case f1=>exact λB=>⟨_,rfl,(by show 1<=sizeLine;decide),λD ac=>B _ _ ⟨D,rfl,Same.new ac,ac,Gc⟩⟩
  rintro σ' H2 ⟨D,rfl,s2,ac,ep⟩;have aj:D≠j:=Ne.symm (Gg ef ac);have ar:H D=none:=s1.free ac;refine Go (λσ' H'=>∃(kvs:GKv κ)(v4:Option V),σ'=[some (.ref b),some (.ref fP),some (.ref j),some (.ref D),v4]/\Same H H'/\H' j=some (gd G j kvs)/\FndG G pf st H' kvs/\Shut pf st (kvs.map (·.1)) []) ?s2 ?f2
  case s2=>
   rintro σ' H3 ⟨kvs,v4,rfl,s3,e3,F3,sh⟩;have hl:kvs.length<=U.length:=by
    have:=Ycp F3.nd (l₂:=U) λk B=>by
     obtain ⟨p,L,rfl⟩:=Yal.mp B;exact hU _ (F3.rc p L)
    rwa [Yac] at this
   exact xe rfl (qq j kvs H3 s3 ab e3 F3 sh.all hl)
  case f2=>
   intro B;refine ⟨λm σ' H'=>∃(kvs:GKv κ)(bs:List (AD×κ))(v4:Option V),σ'=[some (.ref b),some (.ref fP),some (.ref j),some (.ref D),v4]/\Same H H'/\H' j=some (gd G j kvs)/\H' D=some (.lst (bs.map λz=>V.ref z.1))/\FndG G pf st H' kvs/\(∀z∈bs,G.At H' z.1 z.2/\Rc pf st z.2)/\Shut pf st (kvs.map (·.1)) (bs.map (·.2))/\m=3 * (U.length-kvs.length)+bs.length/\bs.length<=1+2 * kvs.length,
    ⟨_,[],[(b,st)],none,rfl,s1.trans s2,s2 _ _ ef,ep,⟨λp L=>(by cases L),Yee,λp L=>(by cases L),λp L=>(by cases L)⟩,λz hz=>by rw [Yai.mp hz];exact ⟨G.keep hb λp ys e=>s2 _ _ (s1 _ _ e),.start⟩,⟨.inr (by simp),λk B=>(by cases B)⟩,rfl,by simp⟩,?_⟩
   rintro m σ' H3 ⟨kvs,bs,v4,rfl,s3,e3,ad,F3,ak,sh,rfl,ag⟩;have aC:kvs.length<=U.length:=by
    have:=Ycp F3.nd (l₂:=U) λk B=>by
     obtain ⟨p,L,rfl⟩:=Yal.mp B;exact hU _ (F3.rc p L)
    rwa [Yac] at this
   by_cases as:bs=[]
   ·subst as;refine xe rfl ⟨false,.inl ⟨_,SqL.of ad,rfl⟩,OA ?_⟩;exact B _ _ ⟨kvs,v4,rfl,s3,e3,F3,sh⟩
   ·obtain ⟨cs,z,rfl⟩:∃cs z,bs=cs++[z]:=⟨_,_,(List.dropLast_concat_getLast as).symm⟩;refine xe rfl ⟨true,.inl ⟨_,SqL.of ad,by simp⟩,Ob ?_⟩;refine ⟨_,λ_ _ h=>h,?_⟩;obtain ⟨Y,ae⟩:=ak z (by simp);refine xe rfl ⟨.inl ⟨rfl,_,SqL.of ad⟩,D,_,.ref z.1,rfl,rfl,ad,by simp,?_⟩;have a4:((cs++[z]).map λz=>V.ref z.1).dropLast=cs.map λz=>V.ref z.1:=by rw [Yas];simp
    rw [a4];have t4:∀p ys,H3 p=some (.tup ys)->upd H3 D (.lst (cs.map λz=>V.ref z.1)) p=some (.tup ys):=G8 ad;have s4:Same H (upd H3 D (.lst (cs.map λz=>V.ref z.1))):=s3.put ar;have e4:upd H3 D (.lst (cs.map λz=>V.ref z.1)) j=some (gd G j kvs):=Gm e3 (Ne.symm aj);have al:upd H3 D (.lst (cs.map λz=>V.ref z.1)) D=some (.lst (cs.map λz=>V.ref z.1)):=Gc;have F4:=F3.keep t4;have Y:=G.keep Y t4;have ah:∀y∈cs,G.At (upd H3 D (.lst (cs.map λz=>V.ref z.1))) y.1 y.2/\Rc pf st y.2:=λy hy=>⟨G.keep (ak y (by simp [hy])).1 t4,(ak y (by simp [hy])).2⟩;generalize upd H3 D (.lst (cs.map λz=>V.ref z.1))=H4 at s4 e4 al F4 Y ah ⊢;have au:∀k,k∈(cs++[z]).map (·.2)->k=z.2\/k∈cs.map (·.2):=λk B=>by
     rw [Yas] at B;rcases Yaj.mp B with h | h
     ·exact .inr h
     ·exact .inl (by simpa using h)
    dsimp only [Gq];refine xe rfl (xe rfl ⟨j,O6 kvs z.2,rfl,⟨kvs,z.2,z.1,.inl e4,F4.ks,rfl,Y,rfl⟩,xe rfl ?_⟩);cases hv:O6 kvs z.2 with
    | some v=>
     refine OA ?_;obtain ⟨b',hm⟩:=Yv hv;have a5:z.2∈kvs.map (·.1):=Yal.mpr ⟨_,hm,rfl⟩;have mv:∀k,(k∈kvs.map (·.1)\/k∈(cs++[z]).map (·.2))->(k∈kvs.map (·.1)\/k∈cs.map (·.2)):=λk h=>h.elim .inl λh=>(au k h).elim (λe=>.inl (e▸a5)) .inr;exact ⟨3 * (U.length-kvs.length)+cs.length,by rw [Yak,Ybc];lia,kvs,cs,_,rfl,s4,e4,al,F4,ah,⟨mv _ sh.1,λk B r a b e=>⟨mv _ (sh.2 k B r a b e).1,mv _ (sh.2 k B r a b e).2⟩⟩,rfl,by rw [Yak,Ybc] at ag;lia⟩
    | none=>
     refine Ob ?_;have aD:kvs.length<U.length:=by
      have hn:(kvs.map (·.1)++[z.2]).Nodup:=Ycl.mpr ⟨F4.nd,by simp,λa ha c hc=>by
       have hc:c=z.2:=by simpa using hc
       rw [hc];exact λe=>U5 hv (e▸ha)⟩
      have:=Ycp hn (l₂:=U) λk B=>by
       rcases Yaj.mp B with h | h
       ·obtain ⟨p,L,rfl⟩:=Yal.mp h;exact hU _ (F4.rc p L)
       ·rw [Yai.mp h];exact hU _ ae
      rw [Yak,Yac,Ybc] at this
      lia
     refine ⟨rfl,xe rfl ⟨z.1,z.2,rfl,Y,an _ _ ae a3,λv H5 s5 pv=>?_⟩⟩;have F5:=F4.keep λp ys e=>s5 _ _ e;have am:=G.keep Y λp ys e=>s5 _ _ e;refine xe rfl (xe rfl ⟨j,z.1,kvs,z.2,rfl,rfl,s5 _ _ e4,F5.ks,am,hv,by lia,?_⟩);have a6:j≠D:=Ne.symm aj;have t6:∀p ys,H5 p=some (.tup ys)->upd H5 j (gd G j (kvs++[(z.2,z.1,v)])) p=some (.tup ys):=λp ys e=>Gm e (G6 e (s5 _ _ e4) (λz=>by cases z));have s6:Same H (upd H5 j (gd G j (kvs++[(z.2,z.1,v)]))):=(s4.trans s5).put ab;have e6:upd H5 j (gd G j (kvs++[(z.2,z.1,v)])) j=some (gd G j (kvs++[(z.2,z.1,v)])):=Gc;have aa:upd H5 j (gd G j (kvs++[(z.2,z.1,v)])) D=some (.lst (cs.map λz=>V.ref z.1)):=Gm (s5 _ _ al) aj;have F6:=(F5.snoc hv am ae pv).keep t6;have av:=G.keep am t6;have af:=pv.keep t6;have O:∀y∈cs,G.At (upd H5 j (gd G j (kvs++[(z.2,z.1,v)]))) y.1 y.2/\Rc pf st y.2:=λy hy=>⟨G.keep (G.keep (ah y hy).1 λp ys e=>s5 _ _ e) t6,(ah y hy).2⟩;dsimp only [JJ];change Zh1 _ _ _ _ _ (upd H5 j (gd G j (kvs++[(z.2,z.1,v)])));generalize upd H5 j (gd G j (kvs++[(z.2,z.1,v)]))=H6 at s6 e6 aa F6 av af O ⊢;have gg:Zk G H6 j (.ref z.1) (some v):=⟨_,z.2,z.1,.inl e6,F6.ks,rfl,av,(W5 hv).symm⟩;have mv:∀k,(k∈kvs.map (·.1)\/k∈(cs++[z]).map (·.2))->(k∈(kvs++[(z.2,z.1,v)]).map (·.1)\/k∈cs.map (·.2)):=λk h=>by
      rw [Yas];rcases h with h | h
      ·exact .inl (Ydr _ h)
      ·rcases au k h with rfl | h
       ·exact .inl (Yby _ (by simp))
       ·exact .inr h
     cases L:pf z.2 with
     | leaf n=>
      rw [L] at af;have ev:v=.int n:=af;subst ev;refine xe rfl (xe rfl ⟨j,xe rfl ⟨gg,_,_,false,rfl,⟨_,rfl,OA ?_⟩,.inl ⟨_,.int _,rfl,az⟩⟩⟩);refine ⟨3 * (U.length-(kvs++[(z.2,z.1,V.int n)]).length)+cs.length,by rw [Yak,Yak,Ybc,Ybc];lia,_,cs,_,rfl,s6,e6,aa,F6,O,⟨mv _ sh.1,λk B r a b e=>?_⟩,rfl,by rw [Yak,Ybc] at ag ⊢;lia⟩;rw [Yas] at B;rcases Yaj.mp B with h | h
      ·exact ⟨mv _ (sh.2 k h r a b e).1,mv _ (sh.2 k h r a b e).2⟩
      ·have:k=z.2:=by simpa using h
       rw [this,L] at e;cases e
     | node r lo hi=>
      rw [L] at af;obtain ⟨t,bl,bh,rfl,et,a7,a8⟩:=af;refine xe rfl (xe rfl ⟨j,xe rfl ⟨gg,_,_,true,rfl,⟨_,rfl,Ob ?_⟩,.inl ⟨_,.tup et,rfl,Ux⟩⟩⟩);refine xe rfl ⟨.inl ⟨rfl,_,SqL.of aa⟩,xe rfl (xe rfl ⟨j,xe rfl ⟨gg,xe rfl ⟨t,xe rfl ⟨SqT.of et,?_,λq hq=>?_⟩⟩⟩⟩)⟩
      ·rintro ⟨zz,_⟩;rw [show (some (1:Int))=some ((1:Nat):Int) from rfl,HT.sIx_nat] at zz;simp at zz
      ·have ec:VN [V.int r,.ref bl,.ref bh] (some 1) none=[V.ref bl,.ref bh]:=rfl;rw [ec];have s7:Same H6 (upd H6 q (.tup [.ref bl,.ref bh])):=Same.new hq;refine ⟨D,q,xd rfl rfl ⟨s7 _ _ aa,Gc,by rw [Yac];show cs.length+2<=sizeLine;rw [Yak,Ybc] at ag;lia,?_⟩⟩;have aE:D≠q:=Gg aa hq;have t8:∀p ys,upd H6 q (.tup [.ref bl,.ref bh]) p=some (.tup ys)->upd (upd H6 q (.tup [.ref bl,.ref bh])) D (.lst ((cs.map λz=>V.ref z.1)++[.ref bl,.ref bh])) p=some (.tup ys):=G8 (s7 _ _ aa);have t9:∀p ys,H6 p=some (.tup ys)->upd (upd H6 q (.tup [.ref bl,.ref bh])) D (.lst ((cs.map λz=>V.ref z.1)++[.ref bl,.ref bh])) p=some (.tup ys):=λp ys e=>t8 p ys (s7 _ _ e);refine ⟨3 * (U.length-(kvs++[(z.2,z.1,V.ref t)]).length)+(cs++[(bl,lo),(bh,hi)]).length,by rw [Yak,Yak,Yak,Ybc,Ybc];show _+(cs.length+2)<_;lia,_,cs++[(bl,lo),(bh,hi)],xe rfl ⟨(s6.trans s7).put ar,Gm (s7 _ _ e6) a6,by rw [Gc,Yas];rfl,F6.keep t9,λy hy=>?_,⟨?_,λk B r' a b' e=>?_⟩,rfl,?_⟩⟩
       ·rcases Yaj.mp hy with h | h
        ·exact ⟨G.keep (O y h).1 t9,(O y h).2⟩
        ·simp at h;rcases h with rfl | rfl
         ·exact ⟨G.keep a7 t9,.lo ae L⟩
         ·exact ⟨G.keep a8 t9,.hi ae L⟩
       ·exact (mv _ sh.1).imp id λh=>by rw [Yas];exact Ydr _ h
       ·have up:∀k,(k∈(kvs++[(z.2,z.1,V.ref t)]).map (·.1)\/k∈cs.map (·.2))->(k∈(kvs++[(z.2,z.1,V.ref t)]).map (·.1)\/k∈(cs++[(bl,lo),(bh,hi)]).map (·.2)):=λk h=>h.imp id λh=>by rw [Yas];exact Ydr _ h
        rw [Yas] at B;rcases Yaj.mp B with h | h
        ·exact ⟨up _ (mv _ (sh.2 k h r' a b' e).1),up _ (mv _ (sh.2 k h r' a b' e).2)⟩
        ·have a9:k=z.2:=by simpa using h
         rw [a9,L] at e;cases e;exact ⟨.inr (by simp),.inr (by simp)⟩
       ·rw [Yak,Yak,Ybc];rw [Yak,Ybc] at ag;show cs.length+2<=_
        lia
end
inductive Zdr {κ:Type}(pf:κ->Pt κ):κ->LI->Prop
 | one {k:κ}:pf k=.leaf 1->Zdr pf k []
 | lo {k a b:κ} {r:Int} {s:LI}:pf k=.node r a b->Zdr pf a s->Zdr pf k s
 | hi {k a b:κ} {r:Int} {s:LI}:pf k=.node r a b->Zdr pf b s->Zdr pf k (r::s)
noncomputable def Abv {κ:Type}(pf:κ->Pt κ)(k:κ)(lo:Int):Prop:=∀r a b,pf k=.node r a b->lo<r
structure ZhV {κ:Type}(pf:κ->Pt κ)(s:κ):Prop where
 lf:∀k n,Rc pf s k->pf k=.leaf n->n=0\/n=1
 nd:∀k r a b,Rc pf s k->pf k=.node r a b->(0<=r/\r<30)/\Abv pf a r/\Abv pf b r
structure NumOk {κ:Type}(pf:κ->Pt κ)(ts:List Tri)(k:κ)(c:Int):Prop where
 at_:∀lo,Abv pf k lo->At ts c lo
 has:∀s,Has ts c s↔Zdr pf k s
structure ShOk (ts:List Tri):Prop where
 ok:TabOk ts
 nd:ts.Nodup
 hi:∀r∈ts,r.2.2≠0
section
variable {κ:Type}{pf:κ->Pt κ}{ts us:List Tri}{k a b:κ}{c r n ca cb:Int}
theorem ShOk.nil:ShOk []:=⟨TabOk.nil,Yee,λr h=>by cases h⟩
theorem Zf6 {c:Int}(h:Has ts c s):Has (ts++us) c s:=by
 induction h with
 | one=>exact .one
 | low n _ ih=>exact .low (n.app us) ih
 | high n _ ih=>exact .high (n.app us) ih
theorem ZcA (T:TabOk ts){c:Int}(h:Has (ts++us) c s):∀{lo:Int},At ts c lo->Has ts c s:=by
 induction h with
 | one=>exact λ_=>.one
 | low n _ ih=>
  intro lo a;obtain ⟨q,m,_⟩:=a.nd (by have:=n.1;lia);have e:=(m.app us).one n;subst e;exact .low m (ih (T.nd m).2.1)
 | high n _ ih=>
  intro lo a;obtain ⟨q,m,_⟩:=a.nd (by have:=n.1;lia);have e:=(m.app us).one n;subst e;exact .high m (ih (T.nd m).2.2)
theorem ZcB (pf:κ->Pt κ)(k:κ):∃lo,Abv pf k lo:=by
 cases h:pf k with
 | leaf n=>exact ⟨0,λr a b e=>by rw [h] at e;cases e⟩
 | node r a b=>exact ⟨r-1,λr' j q e=>by rw [h] at e;cases e;lia⟩
theorem NumOk.app (h:NumOk pf ts k c)(T:TabOk ts):NumOk pf (ts++us) k c:=
 ⟨λlo a=>(h.at_ lo a).app us,λs=>⟨λx=>(h.has s).mp (by obtain ⟨lo,a⟩:=ZcB pf k;exact ZcA T x (h.at_ lo a)),λx=>Zf6 ((h.has s).mpr x)⟩⟩
theorem NumOk.leaf (e:pf k=.leaf n)(h:n=0\/n=1):NumOk pf ts k n:=by
 refine ⟨λlo _=>h.imp id .inl,λs=>?_⟩;rw [Has.small (by lia) (by lia)];constructor
 ·rintro ⟨rfl,rfl⟩;exact .one e
 ·intro h';cases h' with
  | one e'=>rw [e] at e';cases e';exact ⟨rfl,rfl⟩
  | lo e' _=>rw [e] at e';cases e'
  | hi e' _=>rw [e] at e';cases e'
theorem NumOk.flat (e:pf k=.node r a b)(ha:Abv pf a r)(na:NumOk pf ts a ca)(nb:NumOk pf ts b 0):NumOk pf ts k ca:=by
 refine ⟨λlo h=>(na.at_ r ha).mono (by have:=h _ _ _ e;lia),λs=>?_⟩;rw [na.has];constructor
 ·exact .lo e
 ·intro h';cases h' with
  | one e'=>rw [e] at e';cases e'
  | lo e' x=>rw [e] at e';cases e';exact x
  | hi e' x=>rw [e] at e';cases e';exact absurd ((nb.has _).mpr x) Has.zero
theorem NumOk.node (e:pf k=.node r a b)(na:NumOk pf ts a ca)(nb:NumOk pf ts b cb)(N:Nd ts c (r,ca,cb)):NumOk pf ts k c:=by
 refine ⟨λlo h=>.inr (.inr ⟨_,N,h _ _ _ e⟩),λs=>?_⟩;constructor
 ·intro h;cases h with
  | one=>exact absurd N.1 (by decide)
  | low n x=>rw [<-N.one n] at x;exact .lo e ((na.has _).mp x)
  | high n x=>
   rw [<-N.one n] at x ⊢;exact .hi e ((nb.has _).mp x)
 ·intro h';cases h' with
  | one e'=>rw [e] at e';cases e'
  | lo e' x=>rw [e] at e';cases e';exact .low N ((na.has _).mpr x)
  | hi e' x=>rw [e] at e';cases e';exact .high N ((nb.has _).mpr x)
theorem ShOk.snoc (S:ShOk ts)(h0:0<=r/\r<30)(ha:Abv pf a r)(j:Abv pf b r)(na:NumOk pf ts a ca)(nb:NumOk pf ts b cb)(B:cb≠0)(D:(r,ca,cb) ∉ ts):ShOk (ts++[(r,ca,cb)]):=by
 refine ⟨S.ok.snoc h0 (na.at_ r ha) (nb.at_ r j),Ycl.mpr ⟨S.nd,by simp,λx L y N=>?_⟩,λq O=>?_⟩
 ·rw [Yai.mp N];exact λz=>D (z▸L)
 ·rcases Yaj.mp O with h | h
  ·exact S.hi q h
  ·rw [Yai.mp h];exact B
end
section
variable {P:PP}{w:Ab}{K:FG}{mg:Str->Option Aa}{base:Heap}
theorem Fun.okRC (F:Fun K x qual st f fd)(D:fd.code=.ref c)(S:Gn N ps (Gf st))(len:∀vs H Q E,sp vs H Q E->vs.length=ps.length)(L:∀(A:Around)(outer:List Env)(s:SS)(H:Hp)(vs:List V)(Q:VK)(E:XK),Room k (A.deeper (PyProof.Rows.envOfC qual (Gf st) s.heap.objs.size f (.ref c)))->sp vs H Q E ->
   ∃t,PSs (YT (CXr P w) P w K mg base N qual (Gf st) f (.ref c) A outer s H E) (GR st) t/\t { nx:=λ_ H'=>Q .non H',rt:=Q } (start N vs) H):GE P w K mg base (CXr P w) (k+1) f fd ps sp:=by
 obtain ⟨oc,od,kV,O,pm,an,j,ct,U,rfl,Y,q⟩:=F.ex;obtain rfl:j=.ref c:=D;exact ZS Y q S len λA outer s H vs Q E Z B=>L A outer s H vs Q E Z B
end
noncomputable def lqD:Str:=Str.ofString "laid_down.<locals>.<lambda>"
noncomputable abbrev LD (tb:AD)(H:Hp):Prop:=LamSt tb 79 35 lqD H
noncomputable def Up {κ:Type}:Pt κ->Bool
 | .leaf _=>false
 | .node ..=>true
noncomputable def rdP {κ:Type}:Pt κ->Int
 | .leaf _=>0
 | .node r _ _=>r
structure Grw {κ:Type}(pf:κ->Pt κ)(s:κ)(ts0 ts:List Tri):Prop where
 pre:∃us,ts=ts0++us
 sh:ShOk ts
 own:∀c r,Nd ts c r->c<ts0.length+2\/∃k,Rc pf s k/\NumOk pf ts k c
section
variable {P:PP}{w:Ab}{κ:Type}[DecidableEq κ](G:GK P w κ)
structure NV (pf:κ->Pt κ)(ts:List Tri)(done:κ->Prop)(kvs:GKv κ)(H:Hp)(nvs:GKv κ):Prop where
 ks:GKeys G H nvs
 nd:(nvs.map (·.1)).Nodup
 nm:∀q∈nvs,∃c:Int,q.2.2=.int c/\NumOk pf ts q.1 c
 le:∀q∈nvs,done q.1/\q.1∈kvs.map (·.1)
 al:∀q∈kvs,done q.1->∃c:Int,O6 nvs q.1=some (.int c)/\NumOk pf ts q.1 c
end
section
variable {P:PP}{w:Ab}{κ:Type}[DecidableEq κ]{G:GK P w κ}{H H':Hp}{pf:κ->Pt κ}{s:κ}{kvs nvs:GKv κ}{ts:List Tri}{done done':κ->Prop}
theorem NV.keep (N:NV G pf ts done kvs H nvs)(t:∀b ys,H b=some (.tup ys)->H' b=some (.tup ys)):NV G pf ts done kvs H' nvs:=⟨N.ks.keep t,N.nd,N.nm,N.le,N.al⟩
theorem NV.len (N:NV G pf ts done kvs H nvs):nvs.length<=kvs.length:=by
 have:=Ycp N.nd (l₂:=kvs.map (·.1)) λk j=>by
  obtain ⟨q,B,rfl⟩:=Yal.mp j;exact (N.le q B).2
 rwa [Yac,Yac] at this
theorem NV.none (N:NV G pf ts done kvs H nvs){k:κ}(h:¬ done k):O6 nvs k=none:=by
 cases e:O6 nvs k with
 | none=>rfl
 | some v=>
  obtain ⟨b,j⟩:=Yv e;exact absurd (N.le _ j).1 h
theorem NV.like (N:NV G pf ts done kvs H nvs)(h:∀k∈kvs.map (·.1),done k↔done' k):NV G pf ts done' kvs H nvs:=
 ⟨N.ks,N.nd,N.nm,λq j=>⟨(h _ (N.le q j).2).mp (N.le q j).1,(N.le q j).2⟩,λq j d=>N.al q j ((h _ (Yal.mpr ⟨q,j,rfl⟩)).mpr d)⟩
theorem NV.app (N:NV G pf ts done kvs H nvs)(T:TabOk ts)(us:List Tri):NV G pf (ts++us) done kvs H nvs:=
 ⟨N.ks,N.nd,λq j=>(N.nm q j).elim λc h=>⟨c,h.1,h.2.app T⟩,N.le,λq j d=>(N.al q j d).elim λc h=>⟨c,h.1,h.2.app T⟩⟩
theorem ZcC (h:O6 nvs k=some v):O6 (nvs++us) k=some v:=by
 unfold O6 at h ⊢;rw [List.find?_append];obtain ⟨p,j,rfl⟩:=Ybw.mp h;rw [j]
 rfl
theorem NV.snoc (N:NV G pf ts done kvs H nvs)(O:G.At H b k)(U:¬ done k)(Y:k∈kvs.map (·.1))(D:NumOk pf ts k c):NV G pf ts (λx=>done x\/x=k) kvs H (nvs++[(k,b,.int c)]):=by
 have L:=N.none U;refine ⟨λp Z=>?_,?_,λq j=>?_,λq j=>?_,λq j d=>?_⟩
 ·rcases Yaj.mp Z with h | h
  ·exact N.ks p h
  ·rw [Yai.mp h];exact O
 ·rw [Yas];refine Ycl.mpr ⟨N.nd,by simp,λa ha d B=>?_⟩;have B:d=k:=by simpa using B
  rw [B];exact λz=>U5 L (z▸ha)
 ·rcases Yaj.mp j with h | h
  ·exact N.nm q h
  ·rw [Yai.mp h];exact ⟨c,rfl,D⟩
 ·rcases Yaj.mp j with h | h
  ·exact ⟨.inl (N.le q h).1,(N.le q h).2⟩
  ·rw [Yai.mp h];exact ⟨.inr rfl,Y⟩
 ·by_cases e:q.1=k
  ·rw [e];exact ⟨c,W5 L,D⟩
  ·obtain ⟨c',h1,h2⟩:=N.al q j (d.resolve_right e);exact ⟨c',ZcC h1,h2⟩
theorem Grw.refl (S:ShOk j):Grw pf s j j:=⟨⟨[],by simp⟩,S,λc r n=>.inl n.lt⟩
theorem Grw.snoc (D:Grw pf s j ts)(B:Rc pf s k)(e:pf k=.node r a b)(h0:0<=r/\r<30)(ha:Abv pf a r)(L:Abv pf b r)(na:NumOk pf ts a ca)(nb:NumOk pf ts b cb)(O:cb≠0)(U:(r,ca,cb) ∉ ts):Grw pf s j (ts++[(r,ca,cb)])/\NumOk pf (ts++[(r,ca,cb)]) k ((ts.length:Int)+2):=by
 have N:NumOk pf (ts++[(r,ca,cb)]) k ((ts.length:Int)+2):=NumOk.node e (na.app D.sh.ok) (nb.app D.sh.ok) (Nd.last ts _);refine ⟨⟨D.pre.elim λus h=>⟨us++[(r,ca,cb)],by rw [h,Ybu]⟩,D.sh.snoc h0 ha L na nb O U,λc q n=>?_⟩,N⟩;by_cases Z:c<(ts.length:Int)+2
 ·have Y:Nd ts c q:=⟨n.1,by
   have:=n.2;have h1:=n.1
   rwa [Ycx (by lia)] at this⟩
  exact (D.own c q Y).imp id λ⟨k,h1,h2⟩=>⟨k,h1,h2.app D.sh.ok⟩
 ·have:=n.lt;rw [Yak,Ybc] at this;exact .inr ⟨k,B,by rw [show c=(ts.length:Int)+2 by lia];exact N⟩
end
section
variable {P:PP}{w:Ab}{K:FG}{mg:Str->Option Aa}{base:Heap}
theorem Yw:bootBuiltins "max" = some (.builtin "max"):=by first | rfl | decide +kernel
theorem GH (h:a.natAbs<2 ^ p:=by decide +kernel):Lt2 p a:=h
theorem U6 {ns:LI}{i:Int}(h0:0<=i)(h1:i<ns.length):atI (ns.map V.int) i=some (.int (ns.getD i.toNat 0)):=by
 obtain ⟨k,rfl⟩:=Int.eq_ofNat_of_zero_le h0;have j:k<ns.length:=by lia
 refine GC ?_;show (ns.map V.int)[k]?=some (.int (ns.getD k 0));rw [Yaz,Ybv,Yba j]
 rfl
noncomputable def ZcD (K:FG):Sp:=λvs H Q _=>∃(a:AD)(ns:LI)(k:Nat),vs=[.ref a,.int (k:Int)]/\SqL K H a (ns.map V.int)/\∀z:Int,Q (.int z) H
theorem ZhW:Gn ["script", "k"] ["script", "k"] (Gf ZeV):=⟨rfl,rfl,rfl,by decide +kernel,rfl,by decide +kernel,by decide +kernel⟩
theorem Zf7 (F:Fun K "_law_cell_at" "_law_cell_at" ZeV f fd)(j:mg "len" = none):GE P w K mg base CX0 1 f fd ["script", "k"] (ZcD K):=by
 refine F.ok ZhW (λvs H Q E h=>?_) (λL A B s H vs Q E O h=>?_)
 ·obtain ⟨_,_,_,rfl,_⟩:=h
  rfl
 ·obtain ⟨a,ns,k,rfl,D,q⟩:=h;refine ⟨_,Gb (GX (gCm ZdD (pv 1) (gB1 (VQ K) j Ybx (pv 0))) (Gh (Gr (gIx (Uy K) (pv 0) (pv 1)))) Gp)
    (Gh (Gr Gd)),?_⟩
  refine lT2 ?_;intro Z R2;refine xe rfl (xe rfl ⟨a,xe rfl ⟨.inl D,xd rfl rfl (xe rfl ?_)⟩⟩);rw [Yac];refine O7 (λz=>?_) (λ_=>q 0);have N:=Ybt z;exact xe rfl (xe rfl ⟨a,_,xd rfl rfl ⟨D,U6 (by lia) N,q _⟩⟩)
theorem Zbc (h:H l=some (.dK zs)):∀p ys,H p=some (.tup ys)->upd H l o p=some (.tup ys):=λp ys e=>Gm e (G6 e h (λz=>by cases z))
noncomputable def Zf8 (H:Hp)(ks:List Tri)(root:Int)(Q:VK):Prop:=∀(p l:AD)(a0:Int)(xs:List V)(us:List Tri)(fs:LI)(H':Hp),Same H H'->H p=none->H l=none->TabAt H' p l a0 xs us->Rch ks root fs->Fin ks root fs->fs.Nodup->(∀x∈fs,∃r,Nd ks x r)->Said ks fs us fs.length->us.length=fs.length->fs.length<=ks.length->Jc fs root=some a0->Q (.ref p) H'
noncomputable def ZeB:Sp:=λvs H Q _=>∃(l:AD)(root:Int)(xs:List V)(ks:List Tri),vs=[.int root,.ref l]/\H l=some (.lst xs)/\Trs H xs ks/\TabOk ks/\ks.length<=900/\At ks root (-1)/\Zf8 H ks root Q
theorem scIno:Gn ["root", "nodes", "found", "numbers", "k", "one", "said", "road", "low", "high"] ["root", "nodes"] (Gf ZfY):=⟨rfl,rfl,rfl,by decide +kernel,rfl,by decide +kernel,by decide +kernel⟩
theorem Zif (n:Int):JC (G4 [] [(Sum.inl 0,.int 0),(Sum.inl 1,.int 1)]:List (Key×V)) (.inl n)=(Jc [] n).map V.int:=by
 show JC (JD (JD [] (Sum.inl 0) (.int 0)) (Sum.inl 1) (.int 1):List (Key×V)) (.inl n)=_;rw [GY,GY];unfold Jc;by_cases h1:n=1
 ·subst h1
  rfl
 ·rw [if_neg (λz=>h1 (Yeh z))];by_cases h0:n=0
  ·subst h0
   rfl
  ·rw [if_neg (λz=>h0 (Yeh z)),if_neg h0,if_neg h1]
   rfl
theorem Zf9 (F:Fun K "_law_in_order" "_law_in_order" ZfY f fd)(al:mg "len" = none):GE P w K mg base CX0 1 f fd ["root", "nodes"] ZeB:=by
 refine F.ok scIno (λvs H Q E h=>?_) (λa4 A a5 s H vs Q E hr h=>?_)
 ·obtain ⟨_,_,_,_,rfl,_⟩:=h
  rfl
 ·obtain ⟨l,root,xs,ks,rfl,el,tr,T,aF,ar,q⟩:=h;have aG:=Yav.symm;have ae:(A.deeper (PyProof.Rows.envOfC "_law_in_order" (Gf ZfY) s.heap.objs.size f a4)).units+1<cLine:=by have:=hr.un;lia
  refine ⟨_,Gb (gSt 2 scIno.nd (GD Ge))
    (Gb (gSt 3 scIno.nd (VU (JF Gd Gd (JF Gd Gd VT)) rfl rfl (by decide) (by decide)))
    (Gb (GX (gCm ZbJ (pv 0) Gd) (Gb (G9 (kBm K Ych Ydb Ydc GB (pv 2) (Ga (pv 0) Ge)))
    (Gh (Ua ae (pv 3) (pv 0) Gd rfl))) Gp)
    (Gb (gSt 4 scIno.nd Gd)
    (Gb (VI Ycu (gCm ZdD (pv 4) (gB1 (VQ K) al Ybx (pv 2)))
    (Gb (JL Ycu rfl (Zb8 K (JE (ZhG K) (gIx (Uy K) (pv 1) (Gk JU (gIx (Uy K) (pv 2) (pv 4)) Gd)) (J1 Gd) JS)) (gNm 5 scIno.nd)
    (Gh (GX (XG (UO ae (pv 5) (pv 3)) rfl) (Gb (G9 (kBm K Ych Ydb Ydc GB (pv 2) (Ga (pv 5) Ge)))
    (Gh (Ua ae (pv 3) (pv 5) (Gk GP (gB1 (VQ K) al Ybx (pv 2)) Gd) rfl))) Gp)))
    (Gh (gSt 4 scIno.nd (Gk GP (pv 4) Gd)))))
    (Gb (gSt 6 scIno.nd (GD Ge))
    (Gb (JL Ycu rfl (Ou K (pv 2)) (gNm 5 scIno.nd)
    (Gb (Om (gIx (Uy K) (pv 1) (Gk JU (pv 5) Gd)) (VR K (n:=3) rfl (Gi (gNm 7 scIno.nd) (Gi (gNm 8 scIno.nd) (Gi (gNm 9 scIno.nd) GN)))))
    (Gh (G9 (kBm K Ych Ydb Ydc GB (pv 6) (Ga (GT (Ga (pv 7) (Ga (gDg ae (pv 3) (pv 8)) (Ga (gDg ae (pv 3) (pv 9)) Ge)))) Ge))))))
    (Gh (Gr (GT (Ga (gDg ae (pv 3) (pv 0)) (Ga (pv 6) Ge))))))))))),?_⟩
  refine lT8 ?_;intro Z R8 R7 R6 R5 R4 R3 R2;refine ⟨Yat _,λO an=>?_⟩;obtain ⟨H1,q_,s1,B⟩:=nwU (o:=.lst []) an;rw [q_];intro d hd;refine ⟨Gc,[(.inl 0,.int 0),(.inl 1,.int 1)],rfl,by decide,?_⟩;have Y:Same H1 (upd (upd H1 d (.dK [])) d (.dK (G4 [] [(.inl 0,.int 0),(.inl 1,.int 1)]))):=(Same.new hd).put hd;have ed:upd (upd H1 d (.dK [])) d (.dK (G4 [] [(.inl 0,.int 0),(.inl 1,.int 1)])) d=some (.dK (G4 [] [(.inl 0,.int 0),(.inl 1,.int 1)])):=Gc;generalize upd (upd H1 d (.dK [])) d (.dK (G4 [] [(.inl 0,.int 0),(.inl 1,.int 1)]))=H2 at Y ed ⊢;have au:H d=none:=s1.free hd;have aj:O≠d:=Gg B hd;have N:Fnd ks root [] (G4 [] [(Sum.inl 0,.int 0),(Sum.inl 1,.int 1)]) 0:=⟨Zif,Yee,λx hx=>(by cases hx),Yaf _,λi hi=>absurd hi (Ydf _),by decide⟩;dsimp only [Gq];refine Go (λσ' H'=>∃(fs:LI)(kvs:List (Key×V)),σ'=[some (.int root),some (.ref l),some (.ref O),some (.ref d),none,none,none,none,none,none]/\Same H H'/\H' O=some (.lst (fs.map V.int))/\H' d=some (.dK kvs)/\Fnd ks root fs kvs 0/\(Jc fs root).isSome/\Rch ks root fs) ?snd ?fst
  case fst=>
   intro hk;refine xe rfl (xd rfl rfl (xe rfl (O7 (λc1=>?_) (λc1=>?_))))
   ·have ab:1<root:=Ybt c1;obtain ⟨r,n,_⟩:=ar.nd ab;refine xe rfl ⟨.inl ⟨rfl,_,SqL.of (Y _ _ B)⟩,xe rfl ⟨O,xd rfl rfl ⟨Y _ _ B,by decide,?_⟩⟩⟩;refine xe rfl (xe rfl ⟨d,xe rfl ⟨DPut.k (k:=.inl root) (Gm ed (Ne.symm aj)) (by show 2<sizeLine;decide),?_⟩⟩);have hn:Jc [] root=none:=by
     unfold Jc;rw [if_neg (by lia),if_neg (by lia)]
     rfl
    refine hk _ _ ⟨[root],_,rfl,((s1.trans Y).put an).put au,Gm Gc aj,Gc,N.add hn n rfl,?_,Rch.snoc (f:=[]) .nil ⟨[],[],rfl,New.num.mpr hn,λy hy=>(by cases hy)⟩⟩;show (Jc ([]++[root]) root).isSome=true;rw [OM [] root root hn,if_pos rfl]
    rfl
   ·have ab:¬ 1<root:=λz=>c1 (Yay z);have h0:=ar.lt;refine hk _ _ ⟨[],_,rfl,s1.trans Y,Y _ _ B,ed,N,?_,.nil⟩;have hc:root=0\/root=1:=by lia
    rcases hc with rfl | rfl
    ·rw [US];rfl
    ·rw [OO];rfl
  case snd=>
   clear B ed N s1 Y hd;rintro σ' H2 ⟨fs,kvs,rfl,Y,B,ed,N,D,L⟩;refine Go (λσ' H'=>σ'=[some (.int root),some (.ref l),some (.ref O),some (.ref d),some (.int 0),none,none,none,none,none]/\H'=H2) ?k0 (λhk=>hk _ _ ⟨rfl,rfl⟩);rintro σ' H' ⟨rfl,rfl⟩;refine Go (λσ' H'=>∃(k:Int)(fs:LI)(kvs:List (Key×V))(v5:Option V),σ'=[some (.int root),some (.ref l),some (.ref O),some (.ref d),some (.int k),v5,none,none,none,none]/\Same H H'/\H' O=some (.lst (fs.map V.int))/\H' d=some (.dK kvs)/\Fnd ks root fs kvs fs.length/\(Jc fs root).isSome/\Rch ks root fs) ?after ?loop
   case loop=>
    intro hk;refine ⟨λm σ' H'=>∃(k:Nat)(fs:LI)(kvs:List (Key×V))(v5:Option V),σ'=[some (.int root),some (.ref l),some (.ref O),some (.ref d),some (.int (k:Int)),v5,none,none,none,none]/\Same H H'/\H' O=some (.lst (fs.map V.int))/\H' d=some (.dK kvs)/\Fnd ks root fs kvs k/\(Jc fs root).isSome/\Rch ks root fs/\m=ks.length-k,⟨ks.length-0,0,fs,kvs,none,rfl,Y,B,ed,N,D,L,rfl⟩,?_⟩;clear B ed N Y D L;rintro m σ' H2 ⟨k,fs,kvs,v5,rfl,Y,B,ed,N,D,L,rfl⟩;have ak:=N.le;refine xe rfl (xe rfl ⟨O,xe rfl ⟨.inl (SqL.of B),xd rfl rfl (xe rfl (O7 (λc1=>?_) (λc1=>?_)))⟩⟩)
    ·have ab:(k:Int)<((fs.map V.int).length:Int):=Ybt c1;rw [Yac] at ab;have av:k<fs.length:=by lia
     have hx:fs[k]?=some fs[k]:=Yba av;generalize fs[k]=x at hx;obtain ⟨r,n⟩:=N.nod x (Ybf hx);obtain ⟨t,ao,ap⟩:=U3 (tr.same Y) n;obtain ⟨aH,a6,a7⟩:=T.nd n;refine ⟨_,λ_ _ h=>h,?_⟩;refine xe rfl (xe rfl (xe rfl ⟨O,_,xd rfl rfl ⟨SqL.of B,GC (j:=k) (v:=.int x) (by rw [Yaz,hx];rfl),xd rfl rfl ⟨l,_,xd rfl rfl ⟨SqL.of (Y _ _ el),ao,xe rfl ⟨t,xe rfl ⟨SqT.of ap,(λz=>by have:=z.1;simp [HT.sIx] at this),λps a8=>?_⟩⟩⟩⟩⟩⟩));obtain ⟨H3,q_,s3,aa⟩:=nwU (o:=.tup (VN [.int r.1,.int r.2.1,.int r.2.2] (some 1) none)) a8;have aa:H3 ps=some (.tup [.int r.2.1,.int r.2.2]):=aa;rw [q_];refine ⟨ps,rfl,⟨_,SqT.of aa⟩,?_⟩;have aw:∀(i:Nat)(y:V),([.int r.2.1,.int r.2.2]:List V)[i]?=some y->∃c,y=.int c/\At ks c r.1:=by
      intro i y e
      match i,e with
      | 0,e=>simp at e;exact ⟨_,e.symm,a6⟩
      | 1,e=>simp at e;exact ⟨_,e.symm,a7⟩
     let Pv:FI:=λi σ' H'=>∃(fs':LI)(U:List (Key×V))(v5:Option V),σ'=[some (.int root),some (.ref l),some (.ref O),some (.ref d),some (.int (k:Int)),v5,none,none,none,none]/\Same H H'/\H' O=some (.lst (fs'.map V.int))/\H' d=some (.dK U)/\H' ps=some (.tup [.int r.2.1,.int r.2.2])/\Fnd ks root fs' U k/\(Jc fs' root).isSome/\Rch ks root fs'/\fs'[k]?=some x/\∀(j:Nat)(c:Int),j<i->([.int r.2.1,.int r.2.2]:List V)[j]?=some (.int c)->(Jc fs' c).isSome
     refine ZdC (K:=K) (a:=ps) (xs:=[.int r.2.1,.int r.2.2]) Pv
      ⟨fs,kvs,v5,rfl,Y.trans s3,s3 _ _ B,s3 _ _ ed,aa,N,D,L,hx,λj c hj=>absurd hj (Ydf _)⟩ (by rintro i σ' H' _ ⟨_,_,_,_,_,_,_,e,_⟩;exact SqT.of e) ?_ ?_
     ·clear B ed aa N D L hx s3 ak c1 ab av;rintro i y σ' H4 hy ⟨fs',U,a9,rfl,s4,B,ed,aa,F1,D,L,hx,af⟩;obtain ⟨c,rfl,ac⟩:=aw i y hy;have ak:=F1.le;refine xe rfl (xe rfl ⟨d,xe rfl ⟨DGet.k (k:=.inl c) ed,xe rfl ?_⟩⟩);rw [F1.num c];cases hc:Jc fs' c with
      | some a=>
       refine OA ?_;refine ⟨fs',U,xe rfl ⟨s4,B,ed,aa,F1,D,L,hx,λj c' hj ad=>?_⟩⟩;by_cases h:j<i
       ·exact af j c' h ad
       ·have:j=i:=by lia
        subst this;rw [hy] at ad;cases ad;rw [hc];rfl
      | none=>
       refine Ob ?_;obtain ⟨h0,h1,_⟩:=UT hc;obtain ⟨rc,nc,_⟩:=ac.nd (by have:=ac.lt;lia);refine xe rfl ⟨.inl ⟨rfl,_,SqL.of B⟩,xe rfl ⟨O,xd rfl rfl ⟨B,by rw [Yac];lia,?_⟩⟩⟩;have ag:upd H4 O (.lst (fs'.map V.int++[.int c])) O=some (.lst ((fs'++[c]).map V.int)):=by rw [Gc,Yas];rfl
       have aq:upd H4 O (.lst (fs'.map V.int++[.int c])) d=some (.dK U):=Gm ed (Ne.symm aj);have am:=(G8 (o:=.lst (fs'.map V.int++[.int c])) B) _ _ aa;have s5:Same H (upd H4 O (.lst (fs'.map V.int++[.int c]))):=s4.put an;generalize upd H4 O (.lst (fs'.map V.int++[.int c]))=H5 at ag aq am s5 ⊢;have aE:=F1.kl;refine xe rfl ⟨O,xe rfl ⟨.inl (SqL.of ag),xd rfl rfl (xe rfl (xe rfl ⟨d,xe rfl ⟨DPut.k (k:=.inl c) aq (by lia),?_⟩⟩))⟩⟩;have hv:(((fs'++[c]).map V.int).length:Int)+1=(fs'.length:Int)+2:=by
        rw [Yac,Yak,Ybc]
        push_cast
        lia
       have ex:Ext ks root fs' c:=by
        match i,hy with
        | 0,hy=>
         simp at hy;subst hy;exact F1.ext D hx n (pre:=[]) (post:=[r.2.2]) rfl (λy hy=>by cases hy) hc
        | 1,hy=>
         simp at hy;subst hy;exact F1.ext D hx n (pre:=[r.2.1]) (post:=[]) rfl (λy hy=>by rw [Yai] at hy;subst hy;exact af 0 _ (by decide) rfl) hc
       refine ⟨fs'++[c],_,xe rfl ⟨s5.put au,Gm ag aj,Gc,(Zbc aq) _ _ am,F1.add hc nc hv,OP hc D,.snoc L ex,?_,λj c' hj ad=>?_⟩⟩
       ·rw [Ycx (Yao.mp hx).1];exact hx
       ·by_cases h:j<i
        ·exact OP hc (af j c' h ad)
        ·have:j=i:=by lia
         subst this;rw [hy] at ad;cases ad;rw [OM fs' c c hc,if_pos rfl]
         rfl
     ·clear B ed aa N D L s3;rintro σ' H4 ⟨fs',U,a9,rfl,s4,B,ed,aa,F1,D,L,aA,af⟩;refine xe rfl (xd rfl rfl ?_);have F2:=F1.next aA n (af 0 r.2.1 (show 0<2 by decide) rfl) (af 1 r.2.2 (show 1<2 by decide) rfl);have aI:=F2.le;have aJ:=F2.kle;exact ⟨ks.length-(k+1),by lia,k+1,fs',U,xe rfl ⟨s4,B,ed,F2,D,L,rfl⟩⟩
    ·have ab:¬ ((k:Int)<((fs.map V.int).length:Int)):=λz=>c1 (Yay z);rw [Yac] at ab;have aB:k=fs.length:=by
      have:=N.kle
      lia
     subst aB;exact hk _ _ ⟨_,fs,kvs,_,rfl,Y,B,ed,N,D,L⟩
   case after=>
    clear B ed N Y D L;rintro σ' Hw ⟨k,fs,kvs,v5,rfl,Y,B,ed,N,D,L⟩;have ak:=N.le;refine ⟨Yat _,λsl as=>?_⟩;have s3:Same Hw (upd Hw sl (.lst [])):=Same.new as;refine xe rfl ⟨O,rfl,⟨_,SqL.of (s3 _ _ B)⟩,?_⟩
    let Pv:FI:=λi σ' H'=>∃(ys:List V)(us:List Tri)(v5 v7 v8 v9:Option V),σ'=[some (.int root),some (.ref l),some (.ref O),some (.ref d),some (.int k),v5,some (.ref sl),v7,v8,v9]/\Same Hw H'/\H' sl=some (.lst ys)/\Trs H' ys us/\us.length=i/\Said ks fs us i
    refine J9 (K:=K) (a:=O) (xs:=fs.map V.int) Pv
     ⟨[],[],_,none,none,none,rfl,s3,Gc,.nil,rfl,λj x hj=>absurd hj (Ydf _)⟩ (by rintro i σ' H' _ ⟨_,_,_,_,_,_,_,s4,_⟩;exact SqL.of (s4 _ _ B)) ?_ ?_
    ·rintro i y σ' H4 hy ⟨ys,us,v5,v7,v8,v9,rfl,s4,ah,tus,ai,S⟩;obtain ⟨x,rfl,hx⟩:=Jp hy;have hi:i<fs.length:=(Yao.mp hx).1;obtain ⟨r,n⟩:=N.nod x (Ybf hx);obtain ⟨t,ao,ap⟩:=U3 (tr.same (Y.trans s4)) n;obtain ⟨i1,i2⟩:=N.cl i hi x r hx n;obtain ⟨a1,ax⟩:=Yek.mp i1;obtain ⟨a2,ay⟩:=Yek.mp i2;have g1:JC kvs (.inl r.2.1)=some (.int a1):=by rw [N.num,ax];rfl
     have g2:JC kvs (.inl r.2.2)=some (.int a2):=by rw [N.num,ay];rfl
     have az:=s4 _ _ ed;have aK:=tus.len;refine xe rfl (xe rfl (xd rfl rfl ⟨l,_,xd rfl rfl ⟨SqL.of ((Y.trans s4) _ _ el),ao,t,xe rfl ⟨SqT.of ap,rfl,_,xe rfl ⟨_,xe rfl (xd rfl rfl ?_)⟩⟩⟩⟩));refine xe rfl ⟨.inl ⟨rfl,_,SqL.of ah⟩,xe rfl (xe rfl (xe rfl ⟨d,xe rfl ⟨g1▸DGet.k (k:=.inl r.2.1) az,xe rfl (xe rfl ⟨d,xe rfl ⟨g2▸DGet.k (k:=.inl r.2.2) az,(by show 3<=sizeLine;decide),λt5 aC=>?_⟩⟩)⟩⟩))⟩;obtain ⟨H5,q_,s5,aD⟩:=nwU (o:=.tup [.int r.1,.int a1,.int a2]) aC;rw [q_];refine ⟨sl,ys,xe rfl ⟨rfl,s5 _ _ ah,by lia,?_⟩⟩;have k5:=G8 (o:=.lst (ys++[.ref t5])) (s5 _ _ ah);exact ⟨ys++[.ref t5],us++[(r.1,a1,a2)],_,_,_,xe rfl ⟨(s4.trans s5).put as,Gc,((tus.same s5).keep k5).snoc (k5 _ _ aD),by rw [Yak,Ybc,ai],S.snoc ai hx n ax ay⟩⟩
    ·rintro σ' H4 ⟨ys,us,v5,v7,v8,v9,rfl,s4,ah,tus,ai,S⟩;rw [Yac] at ai S;obtain ⟨a0,a3⟩:=Yek.mp D;have g0:JC kvs (.inl root)=some (.int a0):=by rw [N.num,a3];rfl
     refine xe rfl (xe rfl ⟨d,xe rfl ⟨g0▸DGet.k (k:=.inl root) (s4 _ _ ed),xe rfl ⟨Jb,λp hp=>?_⟩⟩⟩);have s5:Same H4 (upd H4 p (.tup [.int a0,.ref sl])):=Same.new hp;have S5:=(Y.trans s4).trans s5;exact q p sl a0 ys us fs _ S5 ((Y.trans s4).free hp) (Y.free as) ⟨Gc,s5 _ _ ah,tus.same s5⟩ L (N.fin D) N.nd N.nod S ai ak a3
noncomputable def Zga:Sp:=λvs H Q _=>∃(l:AD)(root:Int)(xs:List V)(ks:List Tri),vs=[.int root,.ref l]/\H l=some (.lst xs)/\Trs H xs ks/\TabOk ks/\ks.length<=900/\At ks root (-1) /\
 ∀(j:AD)(fs:LI)(H':Hp),Same H H'->H' j=some (.lst (fs.map V.int))->Rch ks root fs->Fin ks root fs->fs.Nodup->(∀x∈fs,∃r,Nd ks x r)->Q (.ref j) H'
theorem scFou:Gn ["root", "nodes", "found", "seen", "ahead", "new", "number"] ["root", "nodes"] (Gf ZfT):=⟨rfl,rfl,rfl,by decide +kernel,rfl,by decide +kernel,by decide +kernel⟩
theorem ZhX (n:Int):JC (G4 [] [(Sum.inl 0,.bl true),(Sum.inl 1,.bl true)]:List (Key×V)) (.inl n)=none↔New [] n:=by
 show JC (JD (JD [] (Sum.inl 0) (.bl true)) (Sum.inl 1) (.bl true):List (Key×V)) (.inl n)=none↔_;rw [GY,GY];unfold New;by_cases h1:n=1
 ·rw [if_pos (by rw [h1])];exact ⟨λz=>(by cases z),λz=>absurd h1 z.2.1⟩
 ·rw [if_neg (λz=>h1 (Yeh z))];by_cases h0:n=0
  ·rw [if_pos (by rw [h0])];exact ⟨λz=>(by cases z),λz=>absurd h0 z.1⟩
  ·rw [if_neg (λz=>h0 (Yeh z))];exact ⟨λ_=>⟨h0,h1,λz=>(by cases z)⟩,λ_=>rfl⟩
theorem Zgb (F:Fun K "found_from" "found_from" ZfT f fd):GE P w K mg base CX0 1 f fd ["root", "nodes"] Zga:=by
 refine F.ok scFou (λvs H Q E h=>?_) (λa2 A a3 s H vs Q E hr h=>?_)
 ·obtain ⟨_,_,_,_,rfl,_⟩:=h
  rfl
 ·obtain ⟨l,root,xs,ks,rfl,el,tr,T,aA,ar,q⟩:=h;have aB:=Yav.symm;have aq:(A.deeper (PyProof.Rows.envOfC "found_from" (Gf ZfT) s.heap.objs.size f a2)).units+1<cLine:=by have:=hr.un;lia
  refine ⟨_,Gb (gSt 2 scFou.nd (GD Ge))
    (Gb (gSt 3 scFou.nd (VU (JF Gd JI (JF Gd JI VT)) rfl rfl (by decide) (by decide)))
    (Gb (gSt 4 scFou.nd (GD (Ga (pv 0) Ge)))
    (Gb (VI Ycu (Uu (pv 4) (λ_=>rfl))
    (Gb (gSt 5 scFou.nd (GD Ge))
    (Gb (JL Ycu rfl (Ou K (pv 4)) (gNm 6 scFou.nd)
    (Gh (GX (XG (UO aq (pv 6) (pv 3)) rfl) (Gb (Ua aq (pv 3) (pv 6) JI rfl)
    (Gb (G9 (kBm K Ych Ydb Ydc GB (pv 2) (Ga (pv 6) Ge)))
    (Gh (G9 (kBm K Ych PySem.F.slot_list_extend PySem.F.type_list_extend Vw (pv 5) (Ga (JE (ZhG K) (gIx (Uy K) (pv 1) (Gk JU (pv 6) Gd)) (J1 Gd) JS) Ge)))))) Gp)))
    (Gh (gSt 4 scFou.nd (pv 5))))))
    (Gh (Gr (pv 2)))))),?_⟩
  refine lT5 ?_;intro Z R5 R4 R3 R2;refine ⟨Yat _,λN as=>?_⟩;obtain ⟨H1,q_,s1,D⟩:=nwU (o:=.lst []) as;have D:H1 N=some (.lst (([]:LI).map V.int)):=D;rw [q_];intro d hd;refine ⟨Gc,[(.inl 0,.bl true),(.inl 1,.bl true)],rfl,by decide,?_⟩;have s2:Same H1 (upd (upd H1 d (.dK [])) d (.dK (G4 [] [(.inl 0,.bl true),(.inl 1,.bl true)]))):=(Same.new hd).put hd;have U:upd (upd H1 d (.dK [])) d (.dK (G4 [] [(.inl 0,.bl true),(.inl 1,.bl true)])) d=some (.dK (G4 [] [(.inl 0,.bl true),(.inl 1,.bl true)])):=Gc;generalize upd (upd H1 d (.dK [])) d (.dK (G4 [] [(.inl 0,.bl true),(.inl 1,.bl true)]))=H2 at s2 U ⊢;have a4:H d=none:=s1.free hd;have au:N≠d:=Gg D hd;have ad:=s2 _ _ D;have av:=s1.trans s2;clear D s1 s2;refine xe rfl ⟨(by show 1<=sizeLine;decide),λY ag=>?_⟩;obtain ⟨H3,q_,s3,B⟩:=nwU (o:=.lst [.int root]) ag;have B:H3 Y=some (.lst (([root]:LI).map V.int)):=B;have aa:Y≠N:=λz=>by rw [z,ad] at ag;cases ag
  rw [q_];have W0:Wk ks root [] (G4 [] [(.inl 0,.bl true),(.inl 1,.bl true)]) [] [root]:=⟨rfl,λy hy=>(by cases hy),ZhX,Yee,λx hx=>(by cases hx),.nil,by decide,λy hy=>by rw [Yai] at hy;rw [hy];exact ar⟩;refine ⟨λm σ' H'=>∃(Y:AD)(fs:LI)(kvs:List (Key×V))(pr O:LI)(v5 v6:Option V),σ'=[some (.int root),some (.ref l),some (.ref N),some (.ref d),some (.ref Y),v5,v6]/\Same H H'/\H' N=some (.lst (fs.map V.int))/\H' d=some (.dK kvs)/\H' Y=some (.lst (O.map V.int))/\Y≠N/\Wk ks root fs kvs pr O/\m=ks.length-fs.length+(if O=[] then 0 else 1),
   ⟨_,Y,[],_,[],[root],none,none,rfl,av.trans s3,s3 _ _ ad,s3 _ _ U,B,aa,W0,rfl⟩,?_⟩
  clear W0 B s3 ad U av ag aa;rintro m σ' H4 ⟨Y,fs,kvs,pr,O,v5,v6,rfl,s4,D,U,B,aa,W,rfl⟩;have aC:=W.le;have aw:=W.ahl;by_cases hz:O=[]
  ·subst hz;refine xe rfl ⟨false,.inl ⟨_,SqL.of B,rfl⟩,OA ?_⟩;exact xe rfl (q N fs _ s4 D W.rch W.fin W.nd W.nod)
  ·refine xe rfl ⟨true,.inl ⟨_,SqL.of B,by cases O with | nil=>exact absurd rfl hz | cons a b=>rfl⟩,Ob ?_⟩;refine ⟨_,λ_ _ h=>h,?_⟩;refine ⟨Yat _,λnl ac=>?_⟩;obtain ⟨H5,q_,s5,L⟩:=nwU (o:=.lst []) ac;have L:H5 nl=some (.lst (([]:LI).map V.int)):=L;have a5:nl≠Y:=λz=>by rw [z,B] at ac;cases ac
   have an:nl≠N:=λz=>by rw [z,D] at ac;cases ac
   have ax:H nl=none:=s4.free ac;rw [q_];refine xe rfl ⟨Y,rfl,⟨_,SqL.of (s5 _ _ B)⟩,?_⟩
   let Pv:FI:=λi σ' H'=>∃(fs':LI)(j:List (Key×V))(nw:LI)(v6:Option V),σ'=[some (.int root),some (.ref l),some (.ref N),some (.ref d),some (.ref Y),some (.ref nl),v6]/\Same H H'/\H' N=some (.lst (fs'.map V.int))/\H' d=some (.dK j)/\H' Y=some (.lst (O.map V.int))/\H' nl=some (.lst (nw.map V.int))/\Wk ks root fs' j (pr++O.take i) (O.drop i++nw)/\((fs'=fs/\nw=[])\/fs.length<fs'.length)
   refine J9 (K:=K) (a:=Y) (xs:=O.map V.int) Pv
    ⟨fs,kvs,[],_,rfl,s4.trans s5,s5 _ _ D,s5 _ _ U,s5 _ _ B,L,by rw [List.take_zero,List.drop_zero,Yei,Yei];exact W,.inl ⟨rfl,rfl⟩⟩ (by rintro i σ' H' _ ⟨_,_,_,_,_,_,_,_,e,_⟩;exact SqL.of e) ?_ ?_
   ·clear D U B L s5 W aw;rintro i y σ' H6 hy ⟨fs',j,nw,a6,rfl,s6,D,U,B,L,W,hd⟩;obtain ⟨c,rfl,hc⟩:=Jp hy;have e1:O.drop i=c::O.drop (i+1):=by
     obtain ⟨hi,e⟩:=Yao.mp hc;rw [Yfr hi,e]
    have e2:pr++O.take (i+1)=(pr++O.take i)++[c]:=by
     obtain ⟨hi,e⟩:=Yao.mp hc;rw [List.take_succ_eq_append_getElem hi,e,Ybu]
    rw [e1,List.cons_append] at W;have ay:=W.le;have az:=W.ahl;rw [Ybm,Yak] at az;have aD:=W.kl;refine xe rfl (xe rfl ⟨d,xe rfl ⟨DGet.k (k:=.inl c) U,xe rfl ?_⟩⟩);cases hv:JC j (.inl c) with
    | some v=>
     refine OA ?_;refine ⟨fs',j,nw,xe rfl ⟨s6,D,U,B,L,?_,hd⟩⟩;rw [e2];exact W.skip λz=>by rw [(W.seen c).mpr z] at hv;cases hv
    | none=>
     refine Ob ?_;have ae:=(W.seen c).mp hv;obtain ⟨r,n,_⟩:=(W.ok c Ybg).nd (by have:=(W.ok c Ybg).lt;have:=ae.1;have:=ae.2.1;lia);have W':=W.take (v:=.bl true) T ae n;refine xe rfl (xe rfl ⟨d,xe rfl ⟨DPut.k (k:=.inl c) U (by lia),?_⟩⟩);have k7:=Zbc (o:=.dK (JD j (.inl c) (.bl true))) U;have af:upd H6 d (.dK (JD j (.inl c) (.bl true))) N=some (.lst (fs'.map V.int)):=Gm D au;have ai:upd H6 d (.dK (JD j (.inl c) (.bl true))) Y=some (.lst (O.map V.int)):=Gm B (G6 B U (λz=>by cases z));have aj:upd H6 d (.dK (JD j (.inl c) (.bl true))) nl=some (.lst (nw.map V.int)):=Gm L (G6 L U (λz=>by cases z));have a1:upd H6 d (.dK (JD j (.inl c) (.bl true))) d=some (.dK (JD j (.inl c) (.bl true))):=Gc;have s7:Same H (upd H6 d (.dK (JD j (.inl c) (.bl true)))):=s6.put a4;generalize upd H6 d (.dK (JD j (.inl c) (.bl true)))=H7 at af ai aj a1 s7 ⊢;clear k7;refine xe rfl ⟨.inl ⟨rfl,_,SqL.of af⟩,xe rfl ⟨N,xd rfl rfl ⟨af,by rw [Yac];lia,?_⟩⟩⟩;have ak:upd H7 N (.lst (fs'.map V.int++[.int c])) N=some (.lst ((fs'++[c]).map V.int)):=by rw [Gc,Yas];rfl
     have am:upd H7 N (.lst (fs'.map V.int++[.int c])) Y=some (.lst (O.map V.int)):=Gm ai aa;have ab:upd H7 N (.lst (fs'.map V.int++[.int c])) nl=some (.lst (nw.map V.int)):=Gm aj an;have ao:upd H7 N (.lst (fs'.map V.int++[.int c])) d=some (.dK (JD j (.inl c) (.bl true))):=Gm a1 (Ne.symm au);have s8:Same H (upd H7 N (.lst (fs'.map V.int++[.int c]))):=s7.put as;generalize upd H7 N (.lst (fs'.map V.int++[.int c]))=H8 at ak am ab ao s8 ⊢;obtain ⟨t,a7,a8⟩:=U3 (tr.same s8) n;refine xe rfl ⟨.inl ⟨rfl,_,SqL.of ab⟩,xe rfl (xe rfl (xd rfl rfl ⟨l,_,xd rfl rfl ⟨SqL.of (s8 _ _ el),a7,xe rfl ⟨t,xe rfl ⟨SqT.of a8,(λz=>by have:=z.1;simp [HT.sIx] at this),λps a9=>?_⟩⟩⟩⟩))⟩;obtain ⟨H9,q_,s9,ap⟩:=nwU (o:=.tup (VN [.int r.1,.int r.2.1,.int r.2.2] (some 1) none)) a9;have ap:H9 ps=some (.tup [.int r.2.1,.int r.2.2]):=ap;rw [q_];refine ⟨nl,ps,xd rfl rfl ⟨s9 _ _ ab,ap,by rw [Yac];show nw.length+2<=sizeLine;lia,?_⟩⟩;refine ⟨fs'++[c],_,nw++[r.2.1,r.2.2],xe rfl ⟨(s8.trans s9).put ax,Gm (s9 _ _ ak) (Ne.symm an),Gm (s9 _ _ ao) (G6 ao ab (λz=>by cases z)),Gm (s9 _ _ am) (Ne.symm a5),by rw [Gc,Yas];rfl,?_,.inr ?_⟩⟩
     ·rw [e2,<-Ybu];exact W'
     ·rw [Yak,Ybc];rcases hd with ⟨h,_⟩ | h
      ·rw [h];lia
      ·lia
   ·clear D U B L s5 W aw;rintro σ' H6 ⟨fs',j,nw,a6,rfl,s6,D,U,B,L,W,hd⟩;rw [Yac,Ycd,List.drop_length,List.nil_append] at W;have ay:=W.le;refine xe rfl ?_;refine ⟨_,?_,nl,fs',j,pr++O,nw,_,xe rfl ⟨s6,D,U,L,an,W,rfl⟩⟩;rw [if_neg hz];rcases hd with ⟨h1,h2⟩ | h
    ·rw [h1,h2,if_pos rfl];lia
    ·split <;> lia
theorem XA (h:¬ New fs y):∃a,Jc fs y=some a:=by
 cases e:Jc fs y with
 | none=>exact absurd (New.num.mpr e) h
 | some a=>exact ⟨a,rfl⟩
noncomputable def Zhd (ks:List Tri)(x:Int):Tri:=(ks[(x-2).toNat]?).getD (0,0,0)
theorem Zbd (n:Nd ks x r):Zhd ks x=r:=by
 unfold Zhd;rw [n.2]
 rfl
noncomputable def Zgc:Sp:=λvs H Q _=>∃(l:AD)(root:Int)(xs:List V)(ks:List Tri),vs=[.int root,.ref l]/\H l=some (.lst xs)/\Trs H xs ks/\TabOk ks/\ks.length<=900/\At ks root (-1)/\Zf8 H ks root Q
theorem scNum:Gn ["root", "nodes", "found", "numbers", "place", "number", "told"] ["root", "nodes"] (Gf ZfU):=⟨rfl,rfl,rfl,by decide +kernel,rfl,by decide +kernel,by decide +kernel⟩
theorem Zgd (F:Fun K "numbered" "numbered" ZfU f fd)(FF:Fun K "found_from" "found_from" ZfT fF ae)(bF:Binds K ae ["root", "nodes"] [])(mF:mg "found_from" = some (.ref fF))(GF:GE P w K mg base CX0 1 fF ae ["root", "nodes"] Zga)(af:mg "enumerate" = none) :
  GE P w K mg base CX0 2 f fd ["root", "nodes"] Zgc:=by
 refine F.ok scNum (λvs H Q E h=>?_) (λau A av s H vs Q E hr h=>?_)
 ·obtain ⟨_,_,_,_,rfl,_⟩:=h
  rfl
 ·obtain ⟨l,root,xs,ks,rfl,el,tr,T,aw,ar,q⟩:=h;have aA:=Yav.symm;have aa:(A.deeper (PyProof.Rows.envOfC "numbered" (Gf ZfU) s.heap.objs.size f au)).units+1<cLine:=by have:=hr.un;lia
  refine ⟨_,Gb (gSt 2 scNum.nd (gCa GF mF FF.kp bF Gu (Ga (pv 0) (Ga (pv 1) Ge))))
    (Gb (gSt 3 scNum.nd (VU (JF Gd Gd (JF Gd Gd VT)) rfl rfl (by decide) (by decide)))
    (Gb (JL Ycu rfl (ZhC K rfl af (Ga (pv 2) Ge)) (VR K (n:=2) rfl (Gi (gNm 4 scNum.nd) (Gi (gNm 5 scNum.nd) GN)))
    (Gh (Ua aa (pv 3) (pv 5) (Gk GP (pv 4) Gd) rfl)))
    (Gb (Jx (i:=6) scNum.nd rfl (Or.inl rfl) (own:=["number"]) rfl (gSc [("nodes", 1)]) (Ou K (pv 2)) (λ_ _ _ _=>gNm 0 (show List.Nodup (["number", "nodes"]:List Str) by decide +kernel)) (λ_ _ _ _=>Gy) (λ_ _ _ _=>gIx (Uy K) (pv 1) (Gk JU (pv 0) Gd)))
    (Gh (Gr (GT (Ga (gDg aa (pv 3) (pv 0)) (Ga (Jw (own:=["road", "low", "high"]) rfl (gSc [("numbers", 3)]) (Ou K (pv 6)) (λ_ _ _ _=>VR K (n:=3) rfl (Gi (gNm 0 (show List.Nodup (["road", "low", "high", "numbers"]:List Str) by decide +kernel)) (Gi (gNm 1 (show List.Nodup (["road", "low", "high", "numbers"]:List Str) by decide +kernel)) (Gi (gNm 2 (show List.Nodup (["road", "low", "high", "numbers"]:List Str) by decide +kernel)) GN)))) (λ_ _ _ _=>Gy) (λ_ _ _ _=>GT (Ga (pv 0) (Ga (gDg aa (pv 3) (pv 1)) (Ga (gDg aa (pv 3) (pv 2)) Ge))))) Ge)))))))),?_⟩
  refine lT5 ?_;intro Z R5 R4 R3 R2;refine xe rfl (xe rfl ⟨l,root,xs,ks,rfl,el,tr,T,aw,ar,λfl fs H1 s1 ab ax fin nd N=>?_⟩);have ay:fs.length<=ks.length:=by
   have:=Ycp (l₂:=(List.range ks.length).map λ(i:Nat)=>(i:Int)+2) nd λx hx=>by
    obtain ⟨r,n⟩:=N x hx;have h1:=n.lt;have h2:=n.1;exact Yal.mpr ⟨(x-2).toNat,Yci.mpr (by lia),by lia⟩
   rwa [Yac,Ydo] at this
  dsimp only [Gq];intro d hd;refine ⟨Gc,[(.inl 0,.int 0),(.inl 1,.int 1)],rfl,by decide,?_⟩;have s2:Same H1 (upd (upd H1 d (.dK [])) d (.dK (G4 [] [(.inl 0,.int 0),(.inl 1,.int 1)]))):=(Same.new hd).put hd;have ed:upd (upd H1 d (.dK [])) d (.dK (G4 [] [(.inl 0,.int 0),(.inl 1,.int 1)])) d=some (.dK (G4 [] [(.inl 0,.int 0),(.inl 1,.int 1)])):=Gc;dsimp only [Gq];generalize upd (upd H1 d (.dK [])) d (.dK (G4 [] [(.inl 0,.int 0),(.inl 1,.int 1)]))=H2 at s2 ed ⊢;have ai:=s1.trans s2;have aj:=s2 _ _ ab;have aB:=ai _ _ el;have aC:=tr.same ai;have aD:H d=none:=s1.free hd;refine Go (λY H'=>∃(kvs:List (Key×V))(v4 v5:Option V),Y=[some (.int root),some (.ref l),some (.ref fl),some (.ref d),v4,v5,none]/\Same H1 H'/\H' d=some (.dK kvs)/\∀n:Int,JC kvs (.inl n)=(Jc fs n).map V.int) ?s1 ?f1
  case f1=>
   intro hk;refine xe rfl ⟨fl,xe rfl ⟨SqL.of aj,?_⟩⟩
   let Pv:FI:=λi Y H'=>∃(kvs:List (Key×V))(v4 v5:Option V),Y=[some (.int root),some (.ref l),some (.ref fl),some (.ref d),v4,v5,none]/\Same H1 H'/\H' d=some (.dK kvs)/\(∀n:Int,JC kvs (.inl n)=(Jc (fs.take i) n).map V.int)/\kvs.length<=i+2
   refine Zb2 (K:=K) (a:=fl) (xs:=fs.map V.int) Pv
    ⟨_,none,none,rfl,s2,ed,λn=>by rw [List.take_zero];exact Zif n,by decide⟩ (by rintro i Y H' _ ⟨_,_,_,_,B,_⟩;exact SqL.of (B _ _ ab)) ?_ ?_
   ·rintro i x Y H3 T3 ag ⟨kvs,v4,v5,rfl,B,e3,val,len⟩ hT;obtain ⟨c,rfl,L⟩:=Jp ag;have hi:i<fs.length:=(Yao.mp L).1;obtain ⟨r,n⟩:=N c (Ybf L);have hn:Jc (fs.take i) c=none:=New.num.mp ⟨by have:=n.1;lia,by have:=n.1;lia,λz=>by
     have hz:=nd;rw [<-Ydp (i+1) fs,Ycf,L,Option.toList_some] at hz;exact (Ycl.mp (Ycl.mp hz).1).2.2 c z c (by simp) rfl⟩
    have az:d≠T3:=Gg e3 hT;refine ⟨T3,xe rfl ⟨SqT.of Gc,rfl,_,xe rfl (xd rfl rfl ?_)⟩⟩;have a3:=GW kvs (Sum.inl c:Key) (.int ((i:Int)+2));refine xe rfl (xd rfl rfl (xe rfl (xe rfl ⟨d,xe rfl ⟨DPut.k (k:=Sum.inl c) (Gm e3 az) (by lia),?_⟩⟩)));refine ⟨_,_,xe rfl ⟨(B.put (B.free hT)).put hd,Gc,λm=>?_,Ybq a3 (by lia)⟩⟩;rw [Ycf,L,Option.toList_some,OM _ m c hn,GY,val m,Ybo,Yey (Ycw hi)];by_cases e:m=c
    ·rw [if_pos e,if_pos (by rw [e])]
     rfl
    ·rw [if_neg e,if_neg (λz=>e (Yeh z))]
   ·rintro Y H3 ⟨kvs,v4,v5,rfl,B,e3,val,len⟩;rw [Yac,Ycd] at val;exact hk _ _ ⟨kvs,v4,v5,rfl,B,e3,val⟩
  rintro Y H3 ⟨kvs,v4,v5,rfl,B,e3,val⟩;have a4:=tr.same (s1.trans B);refine Go (λY H'=>∃(tl:AD)(ys:List V),Y=[some (.int root),some (.ref l),some (.ref fl),some (.ref d),v4,v5,some (.ref tl)]/\Same H3 H'/\H' tl=some (.lst ys)/\Trs H' ys (fs.map (Zhd ks))) ?s2 ?f2
  case f2=>
   intro hk;refine xe rfl ⟨fl,rfl,⟨_,SqL.of (B _ _ ab)⟩,λD hD=>?_⟩
   let Pv:CI:=λi ys H'=>Same H3 H'/\H' D=some (.lst ys)/\Trs H3 ys ((fs.take i).map (Zhd ks))
   refine J2 (K:=K) (a:=fl) (xs:=fs.map V.int) Pv ⟨Same.new hD,Gc,by rw [List.take_zero];exact .nil⟩ (by rintro i ys H' _ ⟨O,_⟩;exact SqL.of (O _ _ (B _ _ ab))) ?_ ?_
   ·rintro i x ys H4 ag ⟨O,ah,ty⟩;obtain ⟨c,rfl,L⟩:=Jp ag;have hi:i<fs.length:=(Yao.mp L).1;obtain ⟨r,n⟩:=N c (Ybf L);obtain ⟨t,a5,a6⟩:=U3 a4 n;have ac:=ty.len;rw [Yac,Ybo] at ac;refine ⟨⟨rfl,trivial⟩,?_⟩;unfold XQ;refine Ob ?_;refine xe rfl (xe rfl (xd rfl rfl ⟨l,_,xd rfl rfl ⟨SqL.of (O _ _ ((s1.trans B) _ _ el)),a5,?_⟩⟩));refine ⟨ah,by lia,O.put hD,Gc,?_⟩;rw [Ycf,L,Option.toList_some,Yas,List.map_singleton,Zbd n];exact ty.snoc a6
   ·rintro ys H4 ⟨O,ah,ty⟩;rw [Yac,Ycd] at ty;exact hk _ _ ⟨D,ys,rfl,O,ah,ty.same O⟩
  rintro Y H4 ⟨tl,ys,rfl,O,ak,ty⟩;obtain ⟨a0,al⟩:=XA (fin root (by unfold WU;exact Ybg));have g0:JC kvs (.inl root)=some (.int a0):=by rw [val,al];rfl
  have am:=O _ _ e3;refine xe rfl (xe rfl ⟨d,xe rfl ⟨g0▸DGet.k (k:=.inl root) am,?_⟩⟩);refine xe rfl ⟨tl,rfl,⟨_,SqL.of ak⟩,λD hD=>?_⟩
  let Pv:CI:=λi zs H'=>Same H4 H'/\H' D=some (.lst zs)/\∃us,Trs H' zs us/\us.length=i/\Said ks fs us i
  refine J2 (K:=K) (a:=tl) (xs:=ys) Pv ⟨Same.new hD,Gc,[],.nil,rfl,λj x hj=>absurd hj (Ydf _)⟩ (by rintro i zs H' _ ⟨s5,_⟩;exact SqL.of (s5 _ _ ak)) ?_ ?_
  ·rintro i y zs H5 a7 ⟨s5,ad,us,tus,U,S⟩;obtain ⟨t,r,rfl,et,er⟩:=ty.get a7;rw [Yaz] at er;obtain ⟨c,L,an⟩:=Ybw.mp er;obtain ⟨r',n⟩:=N c (Ybf L);rw [Zbd n] at an;subst an;have hi:i<fs.length:=(Yao.mp L).1;have ao:∀z,z∈[r'.2.1,r'.2.2]->z∈WU ks root fs:=λz hz=>by
    unfold WU;exact Ybe _ (List.mem_flatMap.mpr ⟨c,Ybf L,by rw [X7 n];exact hz⟩)
   obtain ⟨a1,ap⟩:=XA (fin _ (ao r'.2.1 (by simp)));obtain ⟨a2,aq⟩:=XA (fin _ (ao r'.2.2 (by simp)));have g1:JC kvs (.inl r'.2.1)=some (.int a1):=by rw [val,ap];rfl
   have g2:JC kvs (.inl r'.2.2)=some (.int a2):=by rw [val,aq];rfl
   have as:=s5 _ _ am;have aE:=tus.len;refine ⟨t,xe rfl ⟨SqT.of (s5 _ _ et),rfl,_,xe rfl ⟨_,xe rfl (xd rfl rfl ⟨⟨rfl,trivial⟩,?_⟩)⟩⟩⟩;unfold XQ;refine Ob ?_;refine xe rfl (xe rfl (xe rfl ⟨d,xe rfl ⟨g1▸DGet.k (k:=.inl r'.2.1) as,xe rfl (xe rfl ⟨d,xe rfl ⟨g2▸DGet.k (k:=.inl r'.2.2) as,(by show 3<=sizeLine;decide),λt5 a8=>?_⟩⟩)⟩⟩));obtain ⟨H6,q_,s6,a9⟩:=nwU (o:=.tup [.int r'.1,.int a1,.int a2]) a8;rw [q_];have k5:=G8 (o:=.lst (zs++[.ref t5])) (s6 _ _ ad);exact ⟨s6 _ _ ad,by lia,(s5.trans s6).put hD,Gc,us++[(r'.1,a1,a2)],((tus.same s6).keep k5).snoc (k5 _ _ a9),by rw [Yak,Ybc,U],S.snoc U L n ap aq⟩
  ·rintro zs H5 ⟨s5,ad,us,tus,U,S⟩;have ac:=ty.len;rw [Yac] at ac;rw [ac] at U S;refine ⟨Jb,λp hp=>?_⟩;have s6:Same H5 (upd H5 p (.tup [.int a0,.ref D])):=Same.new hp;have sa:=((s1.trans B).trans O).trans s5;exact q p D a0 zs us fs _ (sa.trans s6) (sa.free hp) (((s1.trans B).trans O).free hD) ⟨Gc,s6 _ _ ad,tus.same s6⟩ ax fin nd N S U ay al
end
section
variable {P:PP}{w:Ab}{K:FG}{mg:Str->Option Aa}{base:Heap}{κ:Type}[DecidableEq κ]{G:GK P w κ}{pf:κ->Pt κ}{Dom:κ->Prop}
noncomputable def FrD (nl pd tb:AD)(H H':Hp):Prop:=∀b o,b≠nl->b≠pd->b≠tb->H b=some o->H' b=some o
noncomputable def Zge (G:GK P w κ)(pf:κ->Pt κ)(Dom:κ->Prop)(j C q tb:AD):Sp:=λvs H Q E=>∃(b p nl pd:AD)(s:κ)(U Un:List κ)(M:Int)(xs0:List V)(ts0:List Tri)(kv0:List (List Key×V)),vs=[.ref b,.ref j,.ref p]/\G.At H b s/\Dom s/\(∀k,Rc pf s k->k∈U)/\(∀k,Rc pf s k->Up (pf k)=true->k∈Un)/\ts0.length+U.length<=10000/\ZhV pf s/\LD tb H /\
 ShelfAt C H p nl pd (.int M) xs0 ts0 kv0/\ShOk ts0 /\
 (∀(c:Int)(xs:List V)(ts:List Tri)(kvs:List (List Key×V))(H':Hp),FrD nl pd tb H H'->LD tb H'->ShelfAt C H' p nl pd (.int M) xs ts kvs->Grw pf s ts0 ts->ts.length<=ts0.length+Un.length->((ts.length:Int)<=M\/ts=ts0)->(∀k,Rc pf s k->∃c,NumOk pf ts k c)->NumOk pf ts s c->Q (.int c) H') /\
 (∀(ts:List Tri)(H':Hp),FrD nl pd tb H H'->LD tb H'->Grw pf s ts0 ts->M<ts.length->ts.length<=ts0.length+Un.length->E (.ref q) none H')
theorem scLdn:Gn ["start", "parts", "shelf", "numbers", "part", "rising", "road", "low", "high", "found"] ["start", "parts", "shelf"] (Gf ZeU):=⟨rfl,rfl,rfl,by decide +kernel,rfl,by decide +kernel,by decide +kernel⟩
theorem ZiC (j:PE X o td)(hi:PE X i ty)(q:Zft i)(B:X.prog=P:=by rfl)(D:X.w=w:=by rfl)(L:X.A.units+71<cLine:=by assumption):PE X (.Subscript o i pos) (Zic G td ty):=by
 subst B D;exact OX L j hi q
theorem VF (h:LamSt T j col qual H)(k:∀b o,((∃ps,o=.tbl ps)\/∃q,o=.frz q (.own b))->H b=some o->H' b=some o):LamSt T j col qual H':=by
 rcases h with e | ⟨c,e,q,B,D⟩
 ·exact .inl (k _ _ (.inl ⟨_,rfl⟩) e)
 ·exact .inr ⟨c,k _ _ (.inl ⟨_,rfl⟩) e,q,k _ _ (.inr ⟨_,rfl⟩) B,D⟩
theorem ZcE {qs:GKv κ}(N:qs.Pairwise λa b=>rdP (pf b.1)<=rdP (pf a.1))(hi:qs[i]?=some q)(O:B∈qs)(U:rdP (pf q.1)<rdP (pf B.1)):B∈qs.take i:=by
 obtain ⟨j,Y,e⟩:=Yck O;obtain ⟨D,L⟩:=Yao.mp hi;by_cases h:j<i
 ·exact List.mem_take_iff_getElem.mpr ⟨j,by lia,e⟩
 ·by_cases h2:i=j
  ·subst h2;rw [<-e,L] at U
   lia
  ·have:=Yef.mp N i j D Y (by lia);rw [e,L] at this
   lia
theorem U7 (h:Up (pf k)=true):∃r a b,pf k=.node r a b:=by
 cases e:pf k with
 | leaf n=>rw [e] at h;cases h
 | node r a b=>exact ⟨r,a,b,rfl⟩
theorem Zbe {α:Type}{xs:List α}{x:α}(p:α->Bool)(h:xs[i]?=some x):(xs.take (i+1)).filter p=if p x=true then (xs.take i).filter p++[x] else (xs.take i).filter p:=by
 rw [Ycf,h,Option.toList_some,Yer];by_cases e:p x=true
 ·rw [if_pos e];simp [e]
 ·rw [if_neg e];simp [e]
theorem Zgf (F:Fun K "laid_down" "laid_down" ZeU f fd)(hc:fd.code=.ref c)(hC:W.CodeHd base c tb)(aX:base.BuiltinsAt mg tb)(aY:Fun K "parts_below" "parts_below" ZfS a4 ah)(aZ:Binds K ah ["start", "parts"] [])(ba:mg "parts_below" = some (.ref a4))(bb:GE P w K mg base CX0 (kp+1) a4 ah ["start", "parts"] (λvs H Q E=>(∀b s,vs=[.ref b,.ref fP]->G.At H b s->Dom s)/\Zf4 G pf fP vs H Q E))(inj:∀{H:Hp}{b:AD}{k k':κ},G.At H b k->G.At H b k'->k=k')(TS:ZfZ K mg C TM)(aB:Zho K C "put" aw)(aC:Binds K ai ["self", "road", "low", "high"] [])(aD:GE P w K mg base (CXr P w) 1 aw ai ["self", "road", "low", "high"] (Zf2 C TM))(bc:W.kitOne K (.type "int") (.type "tuple")=some false)(aE:W.kitOne K (.type "tuple") (.type "int")=some false)(ax:mg "isinstance" = none)(aF:mg "tuple" = none)(aG:mg "int" = none)(aH:mg "sorted" = none) :
  GE P w K mg base (CXr P w) (kp+2) f fd ["start", "parts", "shelf"] (Zge G pf Dom fP C TM tb):=by
 refine Fun.okRC F hc scLdn (λvs H Q E h=>?_) (λA bd s H vs Q E hr h=>?_)
 ·obtain ⟨_,_,_,_,_,_,_,_,_,_,_,rfl,_⟩:=h
  rfl
 ·obtain ⟨b,p,nl,pd,st,U,Un,M,a5,aa,a6,rfl,hb,be,hU,bf,bG,PO,ld,S0,bg,qq,qe⟩:=h;have O:(A.deeper (PyProof.Rows.envOfC "laid_down" (Gf ZeU) s.heap.objs.size f (.ref c))).units+71<cLine:=by have:=hr.un;lia
  have aI:(A.deeper (PyProof.Rows.envOfC "laid_down" (Gf ZeU) s.heap.objs.size f (.ref c))).units+80<cLine:=by have:=hr.un;lia
  have jJ:=hr.depth;have bH:=Yav.symm;refine ⟨_,Gb (gSt 9 scLdn.nd (VL bb hr rfl ba aY.kp aZ .nil Gu (Ga (pv 0) (Ga (pv 1) Ge))))
    (Gb (gSt 3 scLdn.nd (Za2 (G:=G)))
    (Gb (JL PassesOwn.leaving rfl (Yt (G:=G) (pv 9)) (gNm 4 scLdn.nd)
    (Gh (GX (Vi (G7 (ZgX K) rfl ax Uw (Ga (OX (G:=G) O (pv 9) (pv 4) (λ_ _=>rfl)) (Ga (XW aG ZbS) Ge)))) (Gh (Xy (G:=G) O (pv 3) (pv 4) (OX (G:=G) O (pv 9) (pv 4) (λ_ _=>rfl)) rfl)) Gp)))
    (Gb (Jx (i:=5) scLdn.nd rfl (Or.inl rfl) (own:=["part"]) rfl (gSc [("found", 9)]) (Yt (G:=G) (pv 9)) (λ_ _ _ _=>gNm 0 (show List.Nodup (["part", "found"]:List Str) by decide +kernel)) (λ_ _ _ _=>Uv (Vi (G7 (ZgX K) rfl ax Uw (Ga (ZiC (G:=G) (pv 1) (pv 0) (λ_ _=>rfl)) (Ga (XW aF Js) Ge))))) (λ_ _ _ _=>pv 0))
    (Gb (JL PassesOwn.leaving rfl (Ou K (VC (Zo (G:=G) (K:=K) (j:=9) (x:=Str.ofString "part") (y:=Str.ofString "found") (cc:=s.heap.objs.size+1) (qual:=Str.ofString "laid_down.<locals>.<lambda>") (params:={ posonlyargs:=[],args:=[{ arg := "part", annotation:=none,pos:=⟨79,42,79,46⟩:PySem.Arg }],vararg:=none,kwonlyargs:=[],kw_defaults:=[],kwarg:=none,defaults:=[]:PySem.Arguments }) (pm:=(mg "__name__").getD .none) (scope:={ kind:=PySem.ScopeKind.function,names:=[(PySem.Str.ofString "part", PySem.NameKind.local),(PySem.Str.ofString "found", PySem.NameKind.free)],isGenerator:=false,isCoroutine:=false,more:=[]:PySem.Scope }) (p1:=⟨79,48,79,53⟩) (p2:=⟨79,54,79,58⟩) (p5:=⟨79,48,79,59⟩) (p6:=⟨79,60,79,61⟩) (p7:=⟨79,48,79,62⟩) (d2:=0) rfl jJ aI rfl (Or.inr (Or.inl rfl)) rfl rfl rfl rfl rfl (λ_ _ _=>rfl) rfl rfl (by decide +kernel) (by decide) (by decide) (by decide)) rfl aH Yfw (Ga (pv 5) Ge) (VM (Zdj (qual:=Str.ofString "laid_down.<locals>.<lambda>") (clos:=[(Str.ofString "found", s.heap.objs.size+1)]) rfl rfl hC aX rfl) (VM JI Zc5)))) (gNm 4 scLdn.nd)
    (Gb (Om (OX (G:=G) O (pv 9) (pv 4) (λ_ _=>rfl)) (VR K (n:=3) rfl (Gi (gNm 6 scLdn.nd) (Gi (gNm 7 scLdn.nd) (Gi (gNm 8 scLdn.nd) GN)))))
    (Gh (Xy (G:=G) O (pv 3) (pv 4) (ZdK (pv 2) TS.cl aB aD (hr.mono (by lia)) aC .nil ZdS (Ga (pv 6) (Ga (OX (G:=G) O (pv 3) (pv 7) (λ_ _=>rfl)) (Ga (OX (G:=G) O (pv 3) (pv 8) (λ_ _=>rfl)) Ge)))) rfl))))
    (Gh (Gr (OX (G:=G) O (pv 3) (pv 0) (λ_ _=>rfl)))))))),?_⟩
  refine lT6 ?_;intro Z R6 R5 R4 R3 R2;refine xe rfl (xe rfl ⟨(λb' s' e aj=>?_),b,st,U,rfl,hb,hU,by lia,λL kvs H1 s1 bi ef F1 a7 bI=>?_⟩)
  ·have e1:b=b':=by
    have:=Ybh (·[0]?) e;exact V.ref.inj (Ybl this)
   rw [inj aj (e1▸hb)];exact be
  have bj:LD tb H1:=ld.same s1;have S1:=S0.same s1;have a8:∀q∈kvs,Rc pf st q.1:=F1.rc;dsimp only [Gq];intro B ao;have ap:L≠B:=Gg ef ao;have aJ:upd H1 B (gd G B ([]:GKv κ)) L=some (gd G L kvs):=Gm ef ap;have aK:upd H1 B (gd G B ([]:GKv κ)) B=some (gd G B ([]:GKv κ)):=Gc;have s2:Same H1 (upd H1 B (gd G B ([]:GKv κ))):=Same.new ao;dsimp only [Gq];change GG _ _ _ _ (upd H1 B (gd G B ([]:GKv κ)));generalize upd H1 B (gd G B ([]:GKv κ))=H2 at aJ aK s2 ⊢;have gK:∀{H':Hp},(∀a u,a≠L->H1 a=some u->H' a=some u)->∀a ys,H1 a=some (.tup ys)->H' a=some (.tup ys):=λk a ys e=>k a _ (G6 e ef (λz=>by cases z)) e;have gG:∀{H':Hp}{o:Obj}{q:κ×AD×V},(∀a u,a≠L->H1 a=some u->H' a=some u)->H' L=some (.frz o (gd G L kvs))->q∈kvs->Zk G H' L (.ref q.2.1) (some q.2.2):=λ{H' o q} k e hq=>⟨kvs,q.1,q.2.1,.inr ⟨o,e⟩,F1.ks.keep (gK k),rfl,G.keep (F1.ks q hq) (gK k),(Zbb F1.nd (b:=q.2.1) (v:=q.2.2) hq).symm⟩;refine Go (λσ' H'=>∃(o:Obj)(nvs:GKv κ)(v4:Option V),σ'=[some (.ref b),some (.ref fP),some (.ref p),some (.ref B),v4,none,none,none,none,some (.ref L)]/\(∀a u,a≠L->H1 a=some u->H' a=some u)/\H' L=some (.frz o (gd G L kvs))/\H' B=some (gd G B nvs)/\NV G pf aa (λk=>Up (pf k)=false) kvs H' nvs) ?s1 ?f1
  case f1=>
   intro hk;refine xe rfl ⟨L,kvs,rfl,.inl ⟨aJ,λo=>?_⟩⟩
   let Pv:FI:=λi σ' H'=>∃(nvs:GKv κ)(v4:Option V),σ'=[some (.ref b),some (.ref fP),some (.ref p),some (.ref B),v4,none,none,none,none,some (.ref L)]/\(∀a u,a≠L->H1 a=some u->H' a=some u)/\H' L=some (.frz o (gd G L kvs))/\H' B=some (gd G B nvs)/\NV G pf aa (λk=>k∈(kvs.take i).map (·.1)/\Up (pf k)=false) kvs H' nvs
   refine Za4 (G:=G) (a:=L) (o:=o) (kvs:=kvs) Pv
    ⟨[],none,rfl,λa u n e=>Gm (s2 _ _ e) n,Gc,Gm aK (Ne.symm ap),⟨λq hq=>(by cases hq),Yee,λq hq=>(by cases hq),λq hq=>(by cases hq),λq hq d=>by have:=d.1;simp at this⟩⟩ (by rintro i σ' H' _ ⟨_,_,_,_,e,_⟩;exact e) ?_ ?_
   ·rintro i k bk v σ' H3 ae ⟨nvs,v4,rfl,k3,ab,ac,N⟩;have hm:(k,bk,v)∈kvs:=Ybf ae;have bm:i<kvs.length:=(Yao.mp ae).1;have gg:Zk G H3 L (.ref bk) (some v):=gG k3 ab hm;have pv:=(F1.pv _ hm).keep (gK k3);have tk:(kvs.take (i+1)).map (·.1)=(kvs.take i).map (·.1)++[k]:=by
     rw [Ycf,ae,Yas]
     rfl
    dsimp only [Gq];cases Y:pf k with
    | leaf n=>
     dsimp only at pv;rw [Y] at pv;obtain rfl:v=.int n:=pv;refine xe rfl (xe rfl ⟨L,xe rfl ⟨gg,_,_,true,rfl,⟨_,rfl,Ob ?_⟩,.inl ⟨_,.int _,rfl,Ux⟩⟩⟩);have aq:¬ (k∈(kvs.take i).map (·.1)/\Up (pf k)=false):=λz=>by
      have hz:=F1.nd;rw [<-Ydp (i+1) kvs,Yas,tk] at hz;exact (Ycl.mp (Ycl.mp hz).1).2.2 k z.1 k (by simp) rfl
     have hl:=N.len;refine xe rfl (xe rfl ⟨L,xe rfl ⟨gg,xe rfl (xe rfl ⟨B,bk,nvs,k,rfl,rfl,ac,N.ks,G.keep (F1.ks _ hm) (gK k3),N.none aq,by lia,?_⟩)⟩⟩);have t4:∀a ys,H3 a=some (.tup ys)->upd H3 B (gd G B (nvs++[(k,bk,.int n)])) a=some (.tup ys):=λa ys e=>Gm e (G6 e ac (λz=>by cases z));refine ⟨_,xe rfl ⟨λa u n e=>Gm (k3 a u n e) (λz=>by rw [z,ao] at e;cases e),Gm ab ap,Gc,?_⟩⟩;refine ((N.snoc (G.keep (F1.ks _ hm) (gK k3)) aq (Yal.mpr ⟨_,hm,rfl⟩) (NumOk.leaf Y (PO.lf k n (a8 _ hm) Y))).keep t4).like λx _=>?_;rw [tk,Yaj,Yai];constructor
     ·rintro (h | rfl)
      ·exact ⟨.inl h.1,h.2⟩
      ·exact ⟨.inr rfl,by rw [Y];rfl⟩
     ·rintro ⟨h | rfl,h2⟩
      ·exact .inl ⟨h,h2⟩
      ·exact .inr rfl
    | node r lo hi=>
     dsimp only at pv;rw [Y] at pv;obtain ⟨t,bl,bh,rfl,et,_⟩:=pv;refine xe rfl (xe rfl ⟨L,xe rfl ⟨gg,_,_,false,rfl,⟨_,rfl,OA ?_⟩,.inl ⟨_,.tup et,rfl,aE⟩⟩⟩);refine ⟨_,xe rfl ⟨k3,ab,ac,N.like λx _=>?_⟩⟩;rw [tk,Yaj,Yai];constructor
     ·rintro ⟨h,h2⟩;exact ⟨.inl h,h2⟩
     ·rintro ⟨h | rfl,h2⟩
      ·exact ⟨h,h2⟩
      ·rw [Y] at h2;cases h2
   ·rintro σ' H3 ⟨nvs,v4,rfl,k3,ab,ac,N⟩;refine hk _ _ ⟨o,nvs,v4,rfl,k3,ab,ac,N.like λx hx=>?_⟩;rw [Ycd];exact ⟨λh=>h.2,λh=>⟨hx,h⟩⟩
  rintro σ' H3 ⟨o,ay,v4,rfl,k3,ab,ac,N0⟩;refine Go (λσ' H'=>∃(ri:AD),σ'=[some (.ref b),some (.ref fP),some (.ref p),some (.ref B),v4,some (.ref ri),none,none,none,some (.ref L)]/\Same H3 H'/\H3 ri=none/\H' ri=some (.lst ((kvs.filter λq=>Up (pf q.1)).map λq=>V.ref q.2.1))) ?s2 ?f2
  case f2=>
   intro hk;refine xe rfl ⟨L,kvs,rfl,.inr ⟨o,ab,λD hD=>?_⟩⟩;refine Zm (G:=G) (a:=L) (o:=o) (kvs:=kvs) (λi ys H'=>Same H3 H'/\H' D=some (.lst ys)/\ys=((kvs.take i).filter λq=>Up (pf q.1)).map λq=>V.ref q.2.1) ⟨Same.new hD,Gc,rfl⟩ (by rintro i ys H' _ ⟨s4,_⟩;exact s4 _ _ ab) ?_ ?_
   ·rintro i k bk v ys H4 ae ⟨s4,ak,rfl⟩;have hm:(k,bk,v)∈kvs:=Ybf ae;have k4:∀a u,a≠L->H1 a=some u->H4 a=some u:=λa u n e=>s4 _ _ (k3 a u n e);have gg:Zk G H4 L (.ref bk) (some v):=gG k4 (s4 _ _ ab) hm;have pv:=(F1.pv _ hm).keep (gK k4);rw [Zbe _ ae];refine ⟨⟨rfl,trivial⟩,?_⟩;cases Y:pf k with
    | leaf n=>
     dsimp only at pv;rw [Y] at pv;obtain rfl:v=.int n:=pv;refine xe rfl (xe rfl ⟨L,xe rfl ⟨gg,_,_,false,rfl,⟨_,rfl,OA ?_⟩,.inl ⟨_,.int _,rfl,bc⟩⟩⟩);exact ⟨s4,ak,by simp [Y,Up]⟩
    | node r lo hi=>
     dsimp only at pv;rw [Y] at pv;obtain ⟨t,bl,bh,rfl,et,_⟩:=pv;refine xe rfl (xe rfl ⟨L,xe rfl ⟨gg,_,_,true,rfl,⟨_,rfl,Ob ?_⟩,.inl ⟨_,.tup et,rfl,Ux⟩⟩⟩);refine xe rfl ⟨ak,?_,s4.put hD,Gc,by simp [Y,Up]⟩;rw [Yac];have:=Yfc (λq:κ×AD×V=>Up (pf q.1)) (kvs.take i);rw [Ybo] at this
     lia
   ·rintro ys H4 ⟨s4,ak,rfl⟩;rw [Ycd] at ak;exact hk _ _ ⟨D,rfl,s4,hD,ak⟩
  rintro σ' H4 ⟨ri,rfl,s4,bJ,bn⟩;have bo:=s4 _ _ ab;have bp:=s4 _ _ ac;have N4:=N0.keep λa ys e=>s4 _ _ e;have k4:∀a u,a≠L->H1 a=some u->H4 a=some u:=λa u n e=>s4 _ _ (k3 a u n e);have aL:LD tb H4:=VF bj λa u h e=>k4 a u (λz=>by
   rw [z,ef] at e;rcases h with ⟨_,rfl⟩ | ⟨_,rfl⟩ <;> cases e) e
  have S4:ShelfAt C H4 p nl pd (.int M) a5 aa a6:=⟨S1.ob.elim λdx e=>⟨dx,k4 _ _ (G6 e ef (λz=>by cases z)) e⟩,k4 _ _ (G6 S1.nd ef (λz=>by cases z)) S1.nd,S1.tr.keep (gK k4),k4 _ _ (G6 S1.pl ef (λz=>by cases z)) S1.pl,S1.ok⟩;obtain ⟨bK,eT⟩:=aL.tbl;refine xe rfl ⟨aL,λfl c' bq H5 sl on bL br=>?_⟩;obtain ⟨bt,oc,aM,aN⟩:=on;have n5:∀a u,(∀ps,u≠.tbl ps)->H4 a=some u->H5 a=some u:=λa u hu e=>sl a u (λz=>by rw [z,eT] at e;exact hu _ (Ybl e).symm) e;have aO:=n5 _ _ (λ_ z=>by cases z) bn;have aP:=n5 _ _ (λ_ z=>by cases z) bo;have bu:=n5 _ _ (λ_ z=>by cases z) bp;have t5:∀a ys,H4 a=some (.tup ys)->H5 a=some (.tup ys):=λa ys e=>n5 a _ (λ_ z=>by cases z) e;have a9:∀a ys,H1 a=some (.tup ys)->H5 a=some (.tup ys):=λa ys e=>t5 a ys (gK k4 a ys e);have S5:ShelfAt C H5 p nl pd (.int M) a5 aa a6:=⟨S4.ob.elim λdx e=>⟨dx,n5 _ _ (λ_ z=>by cases z) e⟩,n5 _ _ (λ_ z=>by cases z) S4.nd,S4.tr.keep t5,n5 _ _ (λ_ z=>by cases z) S4.pl,S4.ok⟩;have gT:∀{H':Hp}{q:κ×AD×V},(∀a ys,H1 a=some (.tup ys)->H' a=some (.tup ys))->H' L=some (.frz o (gd G L kvs))->q∈kvs->Zk G H' L (.ref q.2.1) (some q.2.2):=λ{H' q} k e hq=>⟨kvs,q.1,q.2.1,.inr ⟨o,e⟩,F1.ks.keep k,rfl,G.keep (F1.ks q hq) k,(Zbb F1.nd (b:=q.2.1) (v:=q.2.2) hq).symm⟩;refine ⟨ri,fl,c',L,oc,bq,(kvs.filter λq=>Up (pf q.1)).map (λq=>(q.2.1,rdP (pf q.1))),rfl,rfl,SqL.of (by rw [Ydg];exact aO),br,aM,aN,rfl,λu hu=>?_,λl ps hl pm pw=>?_⟩
  ·obtain ⟨q,hq,rfl⟩:=Yal.mp hu;obtain ⟨aQ,bv⟩:=Ycg.mp hq;obtain ⟨r,lo,hi,Y⟩:=U7 bv;have pv:=(F1.pv q aQ).keep a9;rw [Y] at pv;obtain ⟨t,bl,bh,ev,et,_⟩:=pv;exact ⟨t,[.ref bl,.ref bh],ev▸gT a9 aP aQ,by rw [Y];exact SqT.of et⟩
  obtain ⟨qs,pq,rfl⟩:=JO pm;rw [Ybs] at pw;have af:∀q,q∈qs↔q∈kvs/\Up (pf q.1)=true:=λq=>by rw [pq.mem_iff,Ycg]
  have bM:qs.length<=kvs.length:=by
   rw [pq.length_eq];exact Yfc _ _
  have aR:(qs.map (·.1)).Nodup:=(pq.map (·.1)).nodup_iff.mpr (F1.nd.sublist (List.filter_sublist.map _));have bN:qs.length<=Un.length:=by
   have:=Ycp aR (l₂:=Un) λk hk=>by
    obtain ⟨q,hq,rfl⟩:=Yal.mp hk;exact bf _ (a8 _ ((af q).mp hq).1) ((af q).mp hq).2
   rwa [Yac] at this
  rw [Ydg];obtain ⟨H6,q_,s6,ag⟩:=nwU (o:=.lst (qs.map ((λt:AD×Int=>V.ref t.1)∘λq:κ×AD×V=>(q.2.1,rdP (pf q.1))))) hl;have ag:H6 l=some (.lst (qs.map λq=>V.ref q.2.1)):=ag;rw [q_];have aA:=s6 _ _ aP;have ad:=s6 _ _ bu;have S6:=S5.same s6;have N6:NV G pf aa (λk=>Up (pf k)=false) kvs H6 ay:=N4.keep λa ys e=>s6 _ _ (t5 a ys e);have aS:∀a ys,H1 a=some (.tup ys)->H6 a=some (.tup ys):=λa ys e=>s6 _ _ (a9 a ys e);have bw:LD tb H6:=LamSt.same (.inr ⟨c',bt,oc,aM,aN⟩) s6;have bx:l≠nl:=λz=>by rw [z,S5.nd] at hl;cases hl
  have bz:l≠B:=G6 ag ad (λz=>by cases z);have b0:l≠pd:=G6 ag S6.pl (λz=>by cases z);have b1:L≠B:=ap;have b2:L≠nl:=G6 aA S6.nd (λz=>by cases z);have b3:L≠pd:=G6 aA S6.pl (λz=>by cases z);have az:B≠nl:=G6 ad S6.nd (λz=>by cases z);have a1:B≠pd:=G6 ad S6.pl (λz=>by cases z);have b4:p≠B:=S6.ob.elim λdx e=>G6 e ad (λz=>by cases z);have a2:∀{H':Hp},(∀a u,a≠B->a≠nl->a≠pd->H6 a=some u->H' a=some u)->∀a ys,H6 a=some (.tup ys)->H' a=some (.tup ys):=λk a ys e=>k a _ (G6 e ad (λz=>by cases z)) (G6 e S6.nd (λz=>by cases z)) (G6 e S6.pl (λz=>by cases z)) e;have a3:∀{H':Hp},(∀a u,a≠B->a≠nl->a≠pd->H6 a=some u->H' a=some u)->FrD nl pd tb H H'/\LD tb H':=λ{H'} k=>by
   refine ⟨λa u h1 h2 h3 e=>?_,VF bw λa u h e=>?_⟩
   ·have e1:=s1 _ _ e;exact k a u (λz=>by rw [z,ao] at e1;cases e1) h1 h2 (s6 _ _ (sl a u h3 (k4 a u (λz=>by rw [z,bi] at e;cases e) e1)))
   ·refine k a u (λz=>?_) (λz=>?_) (λz=>?_) e
    ·rw [z,ad] at e;rcases h with ⟨_,rfl⟩ | ⟨_,rfl⟩ <;> cases e
    ·rw [z,S6.nd] at e;rcases h with ⟨_,rfl⟩ | ⟨_,rfl⟩ <;> cases e
    ·rw [z,S6.pl] at e;rcases h with ⟨_,rfl⟩ | ⟨_,rfl⟩ <;> cases e
  refine ⟨l,rfl,⟨_,SqL.of ag⟩,?_⟩
  let Pv:FI:=λi σ' H'=>∃(nvs:GKv κ)(v4 v6 v7 v8:Option V)(xs:List V)(ts:List Tri)(kd:List (List Key×V)),σ'=[some (.ref b),some (.ref fP),some (.ref p),some (.ref B),v4,some (.ref ri),v6,v7,v8,some (.ref L)]/\(∀a u,a≠B->a≠nl->a≠pd->H6 a=some u->H' a=some u)/\H' B=some (gd G B nvs)/\ShelfAt C H' p nl pd (.int M) xs ts kd/\Grw pf st aa ts/\ts.length<=aa.length+i/\((ts.length:Int)<=M\/ts=aa)/\NV G pf ts (λk=>Up (pf k)=false\/k∈(qs.take i).map (·.1)) kvs H' nvs
  refine J9 (K:=K) (a:=l) (xs:=qs.map λq=>V.ref q.2.1) Pv
   ⟨ay,_,none,none,none,a5,aa,a6,rfl,λ_ _ _ _ _ e=>e,ad,S6,Grw.refl bg,Yaf _,.inr rfl,N6.like λk _=>⟨.inl,λh=>h.resolve_right (by simp)⟩⟩ (by rintro i σ' H' _ ⟨_,_,_,_,_,_,_,_,_,k,_⟩;exact SqL.of (k _ _ bz bx b0 ag)) ?_ ?_
  ·rintro i x σ' H7 aT ⟨nvs,b5,v6,v7,v8,xs,ts,kd,rfl,k7,am,S7,D,qV,ar,N⟩;rw [Yaz] at aT;obtain ⟨⟨k,bk,v⟩,as,rfl⟩:=Ybw.mp aT;have bm:i<qs.length:=(Yao.mp as).1;obtain ⟨hm,aq⟩:=(af _).mp (Ybf as);have t7:∀a ys,H1 a=some (.tup ys)->H7 a=some (.tup ys):=λa ys e=>a2 k7 a ys (aS a ys e);have b6:=k7 _ _ b1 b2 b3 aA;have gg:Zk G H7 L (.ref bk) (some v):=gT t7 b6 hm;have aU:G.At H7 bk k:=G.keep (F1.ks _ hm) t7;obtain ⟨r,lo,hi,Y⟩:=U7 aq;dsimp only at Y;have pv:=(F1.pv _ hm).keep t7;dsimp only at pv;rw [Y] at pv;obtain ⟨t,bl,bh,rfl,et,b7,b8⟩:=pv;have hk:Rc pf st k:=a8 _ hm;obtain ⟨h0,ha,aj⟩:=PO.nd k r lo hi hk Y;have tk:(qs.take (i+1)).map (·.1)=(qs.take i).map (·.1)++[k]:=by
    rw [Ycf,as,Yas]
    rfl
   have au:¬ (Up (pf k)=false\/k∈(qs.take i).map (·.1)):=by
    rintro (z | z)
    ·rw [Y] at z;cases z
    ·have hz:=aR;rw [<-Ydp (i+1) qs,Yas,tk] at hz;exact (Ycl.mp (Ycl.mp hz).1).2.2 k z k (by simp) rfl
   have ch:∀y,Rc pf st y->Abv pf y r->∃ca:Int,O6 nvs y=some (.int ca)/\NumOk pf ts y ca:=by
    intro y hy b9;obtain ⟨q',an,rfl⟩:=Yal.mp (a7 y hy);refine N.al q' an ?_;cases e:Up (pf q'.1) with
    | false=>exact .inl rfl
    | true=>
     obtain ⟨r',a',b',e'⟩:=U7 e;exact .inr (Yal.mpr ⟨q',ZcE pw as ((af q').mpr ⟨an,e⟩) (by dsimp only;rw [Y,e'];exact b9 _ _ _ e'),rfl⟩)
   obtain ⟨ca,bA,na⟩:=ch lo (.lo hk Y) ha;obtain ⟨cb,bB,nb⟩:=ch hi (.hi hk Y) aj;have bO:=N.len;have step:∀{H8:Hp}{cn:Int}{xs':List V}{ts':List Tri}{av:List (List Key×V)},(∀a u,a≠nl->a≠pd->H7 a=some u->H8 a=some u)->ShelfAt C H8 p nl pd (.int M) xs' ts' av->Grw pf st aa ts'->ts'.length<=aa.length+(i+1)->NV G pf ts' (λk=>Up (pf k)=false\/k∈(qs.take i).map (·.1)) kvs H7 nvs->NumOk pf ts' k cn ->
     H8 B=some (gd G B nvs)/\GKeys G H8 nvs/\G.At H8 bk k/\(∀a u,a≠B->a≠nl->a≠pd->H6 a=some u->upd H8 B (gd G B (nvs++[(k,bk,.int cn)])) a=some u)/\ShelfAt C (upd H8 B (gd G B (nvs++[(k,bk,.int cn)]))) p nl pd (.int M) xs' ts' av/\NV G pf ts' (λk=>Up (pf k)=false\/k∈(qs.take (i+1)).map (·.1)) kvs (upd H8 B (gd G B (nvs++[(k,bk,.int cn)]))) (nvs++[(k,bk,.int cn)]):=by
    intro H8 cn xs' ts' av k8 S8 D8 l8 N8 nk;have aV:=k8 _ _ az a1 am;have t8:∀a ys,H7 a=some (.tup ys)->H8 a=some (.tup ys):=λa ys e=>k8 a _ (G6 e S7.nd (λz=>by cases z)) (G6 e S7.pl (λz=>by cases z)) e;have t9:∀a ys,H8 a=some (.tup ys)->upd H8 B (gd G B (nvs++[(k,bk,.int cn)])) a=some (.tup ys):=λa ys e=>Gm e (G6 e aV (λz=>by cases z));refine ⟨aV,N8.ks.keep t8,G.keep aU t8,λa u h1 h2 h3 e=>Gm (k8 a u h2 h3 (k7 a u h1 h2 h3 e)) h1,⟨S8.ob.elim λdx e=>⟨dx,Gm e b4⟩,Gm S8.nd (Ne.symm az),S8.tr.keep t9,Gm S8.pl (Ne.symm a1),S8.ok⟩,?_⟩;refine (((N8.keep t8).snoc (G.keep aU t8) au (Yal.mpr ⟨_,hm,rfl⟩) nk).keep t9).like λy _=>?_;rw [tk,Yaj,Yai];exact or_assoc
   obtain ⟨dx,ob⟩:=S7.ob;dsimp only [Gq];refine xe rfl (xe rfl ⟨L,xe rfl ⟨gg,t,xe rfl ⟨SqT.of et,rfl,_,xe rfl ⟨_,xe rfl (xd rfl rfl ?_)⟩⟩⟩⟩);have bC:¬ ("put" : Str) = "places" := by decide +kernel
   have bD:¬ ("put" : Str) = "nodes" := by decide +kernel
   have bE:¬ ("put" : Str) = "most" := by decide +kernel
   refine xe rfl ⟨p,dx,xe rfl ⟨ob,ZeA _ _ _ bC bD bE,xe rfl (xe rfl (xe rfl ⟨B,xe rfl ⟨⟨nvs,lo,bl,.inl am,N.ks,rfl,b7,bA.symm⟩,xe rfl (xe rfl ⟨B,xe rfl ⟨⟨nvs,hi,bh,.inl am,N.ks,rfl,b8,bB.symm⟩,?_⟩⟩)⟩⟩))⟩⟩;refine ⟨p,nl,pd,M,xs,ts,kd,r,ca,cb,rfl,S7,by lia,λhz=>?_,λhz=>⟨λcn H8 bF s8=>?_,λaW=>⟨λhM H8 sf=>?_,λhM H8 s8=>?_⟩⟩⟩
   ·subst hz;obtain ⟨h1,h2,h3,h4,h5,h6⟩:=step (H8:=H7) (λa u _ _ e=>e) S7 D (by lia) N (NumOk.flat Y ha na nb);exact xe rfl (xe rfl ⟨B,bk,nvs,k,rfl,rfl,h1,h2,h3,N.none au,by lia,_,_,_,_,_,_,_,xe rfl ⟨h4,Gc,h5,D,by lia,ar,h6⟩⟩)
   ·obtain ⟨h1,h2,h3,h4,h5,h6⟩:=step (H8:=H8) (λa u _ _ e=>s8 _ _ e) (S7.same s8) D (by lia) N (NumOk.node Y na nb bF);exact xe rfl (xe rfl ⟨B,bk,nvs,k,rfl,rfl,h1,h2,h3,N.none au,by lia,_,_,_,_,_,_,_,xe rfl ⟨h4,Gc,h5,D,by lia,ar,h6⟩⟩)
   ·obtain ⟨xs',av,S8⟩:=sf.at_;obtain ⟨D',nk⟩:=D.snoc hk Y h0 ha aj na nb hz aW;obtain ⟨h1,h2,h3,h4,h5,h6⟩:=step (H8:=H8) (λa u n1 n2 e=>sf.kp a u n1 n2 e) S8 D' (by rw [Yak,Ybc];lia) (N.app D.sh.ok _) nk;exact xe rfl (xe rfl ⟨B,bk,nvs,k,rfl,rfl,h1,h2,h3,N.none au,by lia,_,_,_,_,_,_,_,xe rfl ⟨h4,Gc,h5,D',by rw [Yak,Ybc];lia,.inl (by rw [Yak,Ybc];lia),h6⟩⟩)
   ·obtain ⟨D',nk⟩:=D.snoc hk Y h0 ha aj na nb hz aW;obtain ⟨f1,f2⟩:=a3 (H':=H8) λa u h1 h2 h3 e=>s8 _ _ (k7 a u h1 h2 h3 e);exact qe _ H8 f1 f2 D' (by rw [Yak,Ybc];lia) (by rw [Yak,Ybc];lia)
  ·rintro σ' H7 ⟨nvs,b5,v6,v7,v8,xs,ts,kd,rfl,k7,am,S7,D,qV,ar,N⟩;rw [Yac] at qV N;rw [Ycd] at N;obtain ⟨f1,f2⟩:=a3 k7;obtain ⟨q',an,e'⟩:=Yal.mp (a7 st .start);have hd:Up (pf q'.1)=false\/q'.1∈qs.map (·.1):=by
    cases e:Up (pf q'.1) with
    | false=>exact .inl rfl
    | true=>exact .inr (Yal.mpr ⟨q',(af q').mpr ⟨an,e⟩,rfl⟩)
   obtain ⟨cn,hv,hn⟩:=N.al q' an hd;rw [e'] at hv hn;refine xe rfl (xe rfl ⟨B,xe rfl ⟨⟨nvs,st,b,.inl am,N.ks,rfl,G.keep (G.keep hb λa ys e=>s1 _ _ e) (λa ys e=>a2 k7 a ys (aS a ys e)),hv.symm⟩,?_⟩⟩);refine qq cn xs ts kd H7 f1 f2 S7 D (by lia) ar (λk hk=>?_) hn;obtain ⟨q,hq,rfl⟩:=Yal.mp (a7 k hk);obtain ⟨c,_,hc⟩:=N.al q hq (by
    cases e:Up (pf q.1) with
    | false=>exact .inl rfl
    | true=>exact .inr (Yal.mpr ⟨q,(af q).mpr ⟨hq,e⟩,rfl⟩))
   exact ⟨c,hc⟩
structure LeT {κ:Type}(pf:κ->Pt κ)(s:κ)(a0:Int)(us:List Tri)(ts:List Tri)(root:Int)(fs:LI):Prop where
 grw:Grw pf s [] ts
 num:NumOk pf ts s root
 rch:Rch ts root fs
 fin:Fin ts root fs
 nd:fs.Nodup
 nod:∀x∈fs,∃r,Nd ts x r
 said:Said ts fs us fs.length
 len:us.length=fs.length
 le:fs.length<=ts.length
 a0:Jc fs root=some a0
 all:∀k,Rc pf s k->∃c,NumOk pf ts k c
noncomputable def Zgg (G:GK P w κ)(pf:κ->Pt κ)(Dom:κ->Prop)(j q tb:AD):Sp:=λvs H Q E=>∃(b:AD)(s:κ)(U Un:List κ)(M:Int),vs=[.ref b,.ref j,.int M]/\G.At H b s/\Dom s/\(∀k,Rc pf s k->k∈U)/\(∀k,Rc pf s k->Up (pf k)=true->k∈Un)/\U.length<=10000/\(0<=M/\M<=900)/\ZhV pf s/\Abv pf s (-1)/\LD tb H /\
 (∀(p l:AD)(a0 root:Int)(xs:List V)(us ts:List Tri)(fs:LI)(H':Hp),SameL tb H H'->LD tb H'->H p=none->H l=none->TabAt H' p l a0 xs us->LeT pf s a0 us ts root fs->ts.length<=Un.length->(ts.length:Int)<=M->Q (.ref p) H') /\
 (∀(ts:List Tri)(H':Hp),SameL tb H H'->LD tb H'->Grw pf s [] ts->M<ts.length->ts.length<=Un.length->E (.ref q) none H')
theorem scLeT:Gn ["start", "parts", "most", "shelf"] ["start", "parts", "most"] (Gf ZfV):=⟨rfl,rfl,rfl,by decide +kernel,rfl,by decide +kernel,by decide +kernel⟩
theorem Zgh (F:Fun K "least_table" "least_table" ZfV f fd)(TS:ZfZ K mg C TM)(aj:Mk K C fI)(aa:Binds K Y ["self", "most"] [])(ac:GE P w K mg base CX0 1 fI Y ["self", "most"] (Zf0 C))(ak:Fun K "laid_down" "laid_down" ZeU N j)(al:Binds K j ["start", "parts", "shelf"] [])(am:mg "laid_down" = some (.ref N))(an:GE P w K mg base (CXr P w) (kp+2) N j ["start", "parts", "shelf"] (Zge G pf Dom fP C TM tb))(ao:Fun K "numbered" "numbered" ZfU O B)(ap:Binds K B ["root", "nodes"] [])(aq:mg "numbered" = some (.ref O))(ar:GE P w K mg base CX0 2 O B ["root", "nodes"] Zgc) :
  GE P w K mg base (CXr P w) (kp+3) f fd ["start", "parts", "most"] (Zgg G pf Dom fP TM tb):=by
 refine F.okR scLeT (λvs H Q E h=>?_) (λas A au s H vs Q E hr h=>?_)
 ·obtain ⟨_,_,_,_,_,rfl,_⟩:=h
  rfl
 ·obtain ⟨b,st,U,Un,M,rfl,hb,av,hU,aw,ax,ad,PO,ab,ld,qq,qe⟩:=h;have ay:Room 2 (A.deeper (PyProof.Rows.envOfC "least_table" (Gf ZfV) s.heap.objs.size f as)):=hr.mono (by lia);refine ⟨_,Gb (gSt 3 scLeT.nd (ZdL aj ac ay rfl TS.mgC aa .nil Gu (Ga (pv 2) Ge)))
    (Gh (Gr (VL ar (hr.mono (by lia)) rfl aq ao.kp ap .nil Gu (Ga (VL an hr rfl am ak.kp al .nil ZdS (Ga (pv 0) (Ga (pv 1) (Ga (pv 3) Ge)))) (Ga (OD (pv 3) rfl) Ge))))),?_⟩
  refine lT2 ?_;intro Z R2;refine xe rfl (λp dx hp az aC=>?_);refine ⟨p,dx,.int M,rfl,Gc,λnl pd H2 ae af aD S2 k2=>⟨rfl,?_⟩⟩;have k1:∀a u,H a=some u->upd (upd H dx (.own p)) p (.ins C dx []) a=some u:=λa u e=>Gm (Gm e (Gg e az)) (Gg e hp);have s2:Same H H2:=λa u e=>k2 a u (k1 a u e) (Gg e hp);have ag:H nl=none:=by
   cases e:H nl with
   | none=>rfl
   | some u=>rw [k1 _ _ e] at ae;cases ae
  have ah:H pd=none:=by
   cases e:H pd with
   | none=>rfl
   | some u=>rw [k1 _ _ e] at af;cases af
  have a1:LD tb H2:=ld.same s2;obtain ⟨aE,eT⟩:=ld.tbl;have up:∀{H':Hp},FrD nl pd tb H2 H'->SameL tb H H':=λfr a u n e=>fr a u (λz=>by rw [z,ag] at e;cases e) (λz=>by rw [z,ah] at e;cases e) n (s2 _ _ e);dsimp only [Gq];refine xe rfl (xe rfl (xe rfl ⟨b,p,nl,pd,st,U,Un,M,[],[],[],rfl,G.keep hb (λa ys e=>s2 _ _ e),av,hU,aw,by simpa using ax,PO,a1,S2,ShOk.nil,λroot xs ts kvs H3 fr L S3 D hl a2 all nk=>?_,λts H3 fr L D hM hl=>qe ts H3 (up fr) L D hM (by simpa using hl)⟩));obtain ⟨a3,ob⟩:=S3.ob;have a4:ts.length<=Un.length:=by simpa using hl
  have a5:(ts.length:Int)<=M:=by
   rcases a2 with h | h
   ·exact h
   ·rw [h];exact ad.1
  refine xe rfl ⟨p,C,a3,_,xe rfl ⟨ob,TS.cl,TS.nN,Oi _ _ _,?_⟩⟩;refine ⟨nl,root,xs,ts,rfl,S3.nd,S3.tr,D.sh.ok,by lia,nk.at_ (-1) ab,λq l a0 ys us fs H4 s4 hq a6 W a7 fin nd a8 sd a9 aA h0=>?_⟩;obtain ⟨aB,ai⟩:=L.tbl;exact qq q l a0 root ys us ts fs H4 ((up fr).trans (SameL.of s4)) (L.same s4) ((up fr).free eT ⟨_,ai⟩ hq) ((up fr).free eT ⟨_,ai⟩ a6) W ⟨D,nk,a7,fin,nd,a8,sd,a9,aA,h0,all⟩ a4 a5
end
section
variable {ts us:List Tri}{fs:LI}
theorem UE (q:Said ts fs us fs.length)(B:1<c)(e:Jc fs c=some a):∃(r:Tri)(a1 b1:Int),Nd ts c r/\Jc fs r.2.1=some a1/\Jc fs r.2.2=some b1/\Nd us a (r.1,a1,b1):=by
 obtain ⟨h2,j⟩:=ON e B;obtain ⟨r,a1,b1,n,D,L,N⟩:=q _ c (Yao.mp j).1 j;exact ⟨r,a1,b1,n,D,L,h2,N⟩
theorem ZeC (q:Said ts fs us fs.length)(h:Has ts c s):∀{a:Int},Jc fs c=some a->Has us a s:=by
 induction h with
 | one=>
  intro a e;rw [OO] at e;cases e;exact .one
 | low n _ ih=>
  intro a e;obtain ⟨r,B,D,j,h1,h2,m⟩:=UE q (by have:=n.1;lia) e;rw [n.one j] at ih;exact .low m (ih h1)
 | high n _ ih=>
  intro a e;obtain ⟨r,B,D,j,h1,h2,m⟩:=UE q (by have:=n.1;lia) e;rw [n.one j] at ih ⊢;have z:=Has.high m (ih h2);exact z
theorem Uh (e:Jc fs c=some a)(h0:0<=c)(j:¬ 1<c):c=a:=by
 have:c=0\/c=1:=by lia
 rcases this with rfl | rfl
 ·rw [US] at e;exact Ybl e
 ·rw [OO] at e;exact Ybl e
theorem ZcF (e:Jc fs c=some a)(j:1<c):2<=a:=(ON e j).1
theorem Zbf (T:TabOk ts)(B:Said ts fs us fs.length)(h:Has us a s):∀{c lo:Int},At ts c lo->Jc fs c=some a->Has ts c s:=by
 induction h with
 | one=>
  intro c lo at_ e;by_cases j:1<c
  ·have:=ZcF e j
   lia
  ·rw [Uh e at_.lt.1 j];exact .one
 | low n _ ih=>
  intro c lo at_ e;have j:1<c:=by
   by_cases j:1<c
   ·exact j
   ·have:=Uh e at_.lt.1 j;have:=n.1
    lia
  obtain ⟨r,D,L,q,h1,h2,m⟩:=UE B j e;rw [n.one m] at ih;exact .low q (ih (T.nd q).2.1 h1)
 | high n _ ih=>
  intro c lo at_ e;have j:1<c:=by
   by_cases j:1<c
   ·exact j
   ·have:=Uh e at_.lt.1 j;have:=n.1
    lia
  obtain ⟨r,D,L,q,h1,h2,m⟩:=UE B j e;rw [n.one m] at ih ⊢;have z:=Has.high q (ih (T.nd q).2.2 h2);exact z
end
section
variable {κ:Type}{pf:κ->Pt κ}{s:κ}{a0 root:Int}{us ts:List Tri}{fs:LI}
theorem LeT.tab (L:LeT pf s a0 us ts root fs):TabOk us:=L.said.tab L.grw.sh.ok L.len
theorem LeT.at_ (L:LeT pf s a0 us ts root fs)(ab:Abv pf s (-1)):At us a0 (-1):=L.said.at (L.num.at_ _ ab) L.a0
theorem LeT.has (L:LeT pf s a0 us ts root fs)(ab:Abv pf s (-1))(x:LI):Has us a0 x↔Zdr pf s x:=
 (show Has us a0 x↔Has ts root x from ⟨λh=>Zbf L.grw.sh.ok L.said h (L.num.at_ _ ab) L.a0,λh=>ZeC L.said h L.a0⟩).trans (L.num.has x)
end
section
variable {P:PP}{w:Ab}
noncomputable def gkF (P:PP)(w:Ab):GK P w (List (LI)):=⟨Yr P w,KeyTT,λok x=>ZfI ok x,λx t=>x.keep t,λj=>Zct j⟩
theorem Yx:∀{xs ys:LI},xs.map V.int=ys.map V.int->xs=ys
 | [],[],_=>rfl
 | [],_::_,h=>by simp at h
 | _::_,[],h=>by simp at h
 | x::xs,y::ys,h=>by
  rw [Yaq,Yaq] at h;injection h with h1 h2
  injection h1 with h1
  rw [h1,Yx h2]
theorem Yy:∀{xs ys:List AD},xs.map V.ref=ys.map V.ref->xs=ys
 | [],[],_=>rfl
 | [],_::_,h=>by simp at h
 | _::_,[],h=>by simp at h
 | x::xs,y::ys,h=>by
  rw [Yaq,Yaq] at h;injection h with h1 h2
  injection h1 with h1
  rw [h1,Yy h2]
theorem ZcG {H:Hp}:∀{k B:List (LI)}{cs:List AD},Paired (λ(j:LI) (c:AD)=>H c=some (.tup (j.map V.int))) k cs->Paired (λ(j:LI) (c:AD)=>H c=some (.tup (j.map V.int))) B cs->k=B
 := by
 intro k B cs a b
 induction a generalizing B with
 | nil=>cases b;rfl
 | cons a p ih=>cases b with
  | cons b q=>
   rw [a] at b;have e:=HO.tup.inj (Ybl b);rw [Yx e,ih q]
theorem ZeD (h:(gkF P w).At H b k)(h':(gkF P w).At H b j):k=j:=by
 obtain ⟨cs,e,p⟩:=h;obtain ⟨B,q,D⟩:=h';rw [e] at q;have:=Yy (HO.tup.inj (Ybl q));subst this;exact ZcG p D
end
noncomputable def Zbg:LI->Int
 | []=>0
 | [x]=>x
 | x::y::xs=>min x (Zbg (y::xs))
theorem Yz:∀{xs:LI},xs≠[]->Zbg xs∈xs
 | [],h=>absurd rfl h
 | [x],_=>by simp [Zbg]
 | x::y::xs,_=>by
  have:=Yz (xs:=y::xs) (by simp);show min x (Zbg (y::xs))∈_;by_cases h:x<=Zbg (y::xs)
  ·rw [show min x (Zbg (y::xs))=x by lia];exact Ybg
  ·rw [show min x (Zbg (y::xs))=Zbg (y::xs) by lia];exact Ybe _ this
theorem Zbh:∀{xs:LI}{x:Int},x∈xs->Zbg xs<=x
 | [y],x,h=>by rw [Yai.mp h];exact Int.le_refl _
 | y::z::xs,x,h=>by
  show min y (Zbg (z::xs))<=x;rcases Yam.mp h with rfl | h
  ·lia
  ·have:=Zbh h
   lia
noncomputable abbrev Fam:=List (LI)
noncomputable def Oj (F:Fam):Int:=Zbg (F.filterMap List.head?)
noncomputable def woF (F:Fam):Fam:=F.filter λs=>decide (s.take 1≠[Oj F])
noncomputable def chF (F:Fam):Fam:=(F.filter λs=>decide (s.take 1=[Oj F])).map (List.drop 1)
noncomputable def pfF (F:Fam):Pt Fam:=if F=[] then .leaf 0 else if F=[[]] then .leaf 1 else .node (Oj F) (woF F) (chF F)
noncomputable def wF (F:Fam):Nat:=(F.map λs=>s.length+1).sum
theorem take1 :s.take 1=[m]↔s=m::s.drop 1:=by
 cases s with
 | nil=>simp
 | cons a s=>simp
theorem Zbi (nd:F.Nodup)(h0:F≠[])(h1:F≠[[]]):∃s∈F,s≠[]:=by
 match F,h0 with
 | [s],_=>exact ⟨s,by simp,λz=>h1 (by rw [z])⟩
 | s::t::F,_=>
  by_cases j:s=[]
  ·refine ⟨t,by simp,λz=>?_⟩;rw [j,z] at nd;simp at nd
  ·exact ⟨s,by simp,j⟩
theorem Oy (nd:F.Nodup)(h0:F≠[])(h1:F≠[[]]):∃s,Oj F::s∈F:=by
 obtain ⟨s,B,j⟩:=Zbi nd h0 h1;have:F.filterMap List.head?≠[]:=λz=>by
  cases s with
  | nil=>exact j rfl
  | cons a s=>
   have q:a∈F.filterMap List.head?:=Ydi.mpr ⟨_,B,rfl⟩;rw [z] at q;cases q
 obtain ⟨t,D,e⟩:=Ydi.mp (Yz this);cases t with
 | nil=>cases e
 | cons a t=>
  cases e;exact ⟨t,D⟩
theorem Zds (h:a::s∈F):Oj F<=a:=Zbh (Ydi.mpr ⟨_,h,rfl⟩)
theorem mem_ch :s∈chF F↔Oj F::s∈F:=by
 unfold chF;constructor
 ·intro h;obtain ⟨t,j,rfl⟩:=Yal.mp h;obtain ⟨h1,h2⟩:=Ycg.mp j;rw [<-take1.mp (Ybt h2)];exact h1
 ·intro h;exact Yal.mpr ⟨_,Ycg.mpr ⟨h,by simp⟩,rfl⟩
theorem mem_wo :s∈woF F↔s∈F/\s.take 1≠[Oj F]:=by
 unfold woF;rw [Ycg,decide_eq_true_eq]
theorem Zgi (h:F.Nodup):(woF F).Nodup:=h.sublist List.filter_sublist
theorem Zgj (h:F.Nodup):(chF F).Nodup:=by
 unfold chF;refine Ybs.mpr ((h.sublist List.filter_sublist).imp_of_mem λ{a b} ha j n e=>n ?_);rw [take1.mp (Ybt (Ycg.mp ha).2),take1.mp (Ybt (Ycg.mp j).2),e]
theorem Zbj (m:Int):∀F:Fam,wF (F.filter λs=>decide (s.take 1≠[m]))+wF ((F.filter λs=>decide (s.take 1=[m])).map (List.drop 1))+(F.filter λs=>decide (s.take 1=[m])).length=wF F
 | []=>rfl
 | s::F=>by
  have ih:=Zbj m F;by_cases h:s.take 1=[m]
  ·have e:=take1.mp h;rw [Yfp (by simp [h]),Yfd (by simp [h]),Yaq,Ybm];have j:s.length=(s.drop 1).length+1:=by rw [Ybh List.length e];rfl
   simp only [wF,Yaq,List.sum_cons] at ih ⊢
   lia
  ·rw [Yfd (by simp [h]),Yfp (by simp [h])];simp only [wF,Yaq,List.sum_cons] at ih ⊢
   lia
theorem Zbk (nd:F.Nodup)(h0:F≠[])(h1:F≠[[]]):wF (woF F)<wF F/\wF (chF F)<wF F:=by
 have:=Zbj (Oj F) F;obtain ⟨s,j⟩:=Oy nd h0 h1;have q:0<(F.filter λs=>decide (s.take 1=[Oj F])).length:=List.length_pos_of_mem (Ycg.mpr ⟨j,by simp⟩);unfold woF chF
 lia
theorem ZeE:∀(n:Nat)(F:Fam),wF F<=n->F.Nodup->∀s,Zdr pfF F s↔s∈F:=by
 intro n
 induction n with
 | zero=>
  intro F j nd s;have q:F=[]:=by
   cases F with
   | nil=>rfl
   | cons a F=>simp [wF] at j
  subst q;have e:pfF []=.leaf 0:=by simp [pfF]
  constructor
  ·intro h;cases h with
   | one e'=>rw [e] at e';cases e'
   | lo e' _=>rw [e] at e';cases e'
   | hi e' _=>rw [e] at e';cases e'
  ·intro h;cases h
 | succ n ih=>
  intro F j nd s;by_cases h0:F=[]
  ·subst h0;exact ih [] (by simp [wF]) nd s
  by_cases h1:F=[[]]
  ·have e:pfF F=.leaf 1:=by simp [pfF,h1]
   rw [h1,Yai,<-h1];constructor
   ·intro h;cases h with
    | one _=>rfl
    | lo e' _=>rw [e] at e';cases e'
    | hi e' _=>rw [e] at e';cases e'
   ·rintro rfl;exact .one e
  ·have e:pfF F=.node (Oj F) (woF F) (chF F):=by unfold pfF;rw [if_neg h0,if_neg h1]
   obtain ⟨B,D⟩:=Zbk nd h0 h1;have i1:=ih (woF F) (by lia) (Zgi nd);have i2:=ih (chF F) (by lia) (Zgj nd);constructor
   ·intro h;cases h with
    | one e'=>rw [e] at e';cases e'
    | lo e' k=>rw [e] at e';cases e';exact (mem_wo.mp ((i1 _).mp k)).1
    | hi e' k=>rw [e] at e';cases e';exact mem_ch.mp ((i2 _).mp k)
   ·intro h;by_cases z:s.take 1=[Oj F]
    ·have es:=take1.mp z;rw [es] at h ⊢;exact .hi e ((i2 _).mpr (mem_ch.mpr h))
    ·exact .lo e ((i1 _).mpr (mem_wo.mpr ⟨h,z⟩))
structure FamOk (F:Fam):Prop where
 nd:F.Nodup
 up:∀s∈F,s.Pairwise (· < ·)
 rg:∀s∈F,∀x∈s,0<=x/\x<30
theorem FamOk.wo (h:FamOk F):FamOk (woF F):=⟨Zgi h.nd,λs j=>h.up s (mem_wo.mp j).1,λs j=>h.rg s (mem_wo.mp j).1⟩
theorem FamOk.ch (h:FamOk F):FamOk (chF F):=⟨Zgj h.nd,λs j=>(Ydy.mp (h.up _ (mem_ch.mp j))).2,λs j x q=>h.rg _ (mem_ch.mp j) x (Ybe _ q)⟩
theorem Jl (e:pfF F=.node r a b):F≠[]/\F≠[[]]/\r=Oj F/\a=woF F/\b=chF F:=by
 unfold pfF at e;by_cases h0:F=[]
 ·rw [if_pos h0] at e;cases e
 rw [if_neg h0] at e;by_cases h1:F=[[]]
 ·rw [if_pos h1] at e;cases e
 rw [if_neg h1] at e;cases e;exact ⟨h0,h1,rfl,rfl,rfl⟩
theorem ZcH (e:pfF F=.leaf n):n=0\/n=1:=by
 unfold pfF at e;by_cases h0:F=[]
 ·rw [if_pos h0] at e;cases e;exact .inl rfl
 rw [if_neg h0] at e;by_cases h1:F=[[]]
 ·rw [if_pos h1] at e;cases e;exact .inr rfl
 rw [if_neg h1] at e;cases e
theorem Zdt (h:FamOk F)(r:Rc pfF F k):FamOk k:=by
 induction r with
 | start=>exact h
 | lo _ e ih=>rw [(Jl e).2.2.2.1];exact ih.wo
 | hi _ e ih=>rw [(Jl e).2.2.2.2];exact ih.ch
theorem Wp (h:FamOk F):ZhV pfF F:=by
 refine ⟨λk n _ e=>ZcH e,λk r a b L e=>?_⟩;obtain ⟨h0,h1,rfl,rfl,rfl⟩:=Jl e;have K:=Zdt h L;obtain ⟨s,N⟩:=Oy K.nd h0 h1;refine ⟨K.rg _ N _ Ybg,λr' O U j=>?_,λr' O U j=>?_⟩
 ·obtain ⟨q,B,rfl,_,_⟩:=Jl j;obtain ⟨t,D⟩:=Oy K.wo.nd q B;obtain ⟨Y,Z⟩:=mem_wo.mp D;have:=Zds Y;have aa:Oj (woF k)≠Oj k:=λz=>Z (by rw [z];rfl)
  lia
 ·obtain ⟨q,B,rfl,_,_⟩:=Jl j;obtain ⟨t,D⟩:=Oy K.ch.nd q B;exact (Ydy.mp (K.up _ (mem_ch.mp D))).1 _ Ybg
noncomputable def Uq:Nat->Fam->List Fam
 | 0,F=>[F]
 | n+1,F=>F::if F=[]\/F=[[]] then [] else Uq n (woF F)++Uq n (chF F)
theorem Wq (n:Nat)(F:Fam):F∈Uq n F:=by cases n <;> simp [Uq]
theorem UF:∀(n:Nat)(F:Fam),wF F<=n->FamOk F->∀k∈Uq n F,∀r a b,pfF k=.node r a b->a∈Uq n F/\b∈Uq n F
 | 0,F,hn,h,k,hk,r,a,b,e=>by
  have hF:F=[]:=by
   cases F with
   | nil=>rfl
   | cons s F=>simp [wF] at hn
  subst hF;rw [Yai.mp hk] at e;exact absurd rfl (Jl e).1
 | n+1,F,hn,h,k,hk,r,a,b,e=>by
  unfold Uq at hk ⊢;by_cases z:F=[]\/F=[[]]
  ·rw [if_pos z] at hk;rw [Yai.mp hk] at e;obtain ⟨h0,h1,_⟩:=Jl e;exact absurd z (by simp [h0,h1])
  ·rw [if_neg z] at hk ⊢;have j:F≠[]:=λq=>z (.inl q);have B:F≠[[]]:=λq=>z (.inr q);obtain ⟨D,L⟩:=Zbk h.nd j B;rcases Yam.mp hk with rfl | hk
   ·obtain ⟨_,_,_,rfl,rfl⟩:=Jl e;exact ⟨Ybe _ (Ydr _ (Wq _ _)),Ybe _ (Yby _ (Wq _ _))⟩
   ·rcases Yaj.mp hk with hk | hk
    ·obtain ⟨i1,i2⟩:=UF n (woF F) (by lia) h.wo k hk r a b e;exact ⟨Ybe _ (Ydr _ i1),Ybe _ (Ydr _ i2)⟩
    ·obtain ⟨i1,i2⟩:=UF n (chF F) (by lia) h.ch k hk r a b e;exact ⟨Ybe _ (Yby _ i1),Ybe _ (Yby _ i2)⟩
theorem Zdu (h:FamOk F)(r:Rc pfF F k):k∈Uq (wF F) F:=by
 induction r with
 | start=>exact Wq _ _
 | lo _ e ih=>exact (UF _ _ (Yaf _) h _ ih _ _ _ e).1
 | hi _ e ih=>exact (UF _ _ (Yaf _) h _ ih _ _ _ e).2
noncomputable def lF (F:Fam):Nat:=(F.map List.length).sum
theorem Zbl (m:Int):∀F:Fam,lF (F.filter λs=>decide (s.take 1≠[m]))+lF ((F.filter λs=>decide (s.take 1=[m])).map (List.drop 1))+(F.filter λs=>decide (s.take 1=[m])).length=lF F
 | []=>rfl
 | s::F=>by
  have ih:=Zbl m F;by_cases h:s.take 1=[m]
  ·have e:=take1.mp h;rw [Yfp (by simp [h]),Yfd (by simp [h]),Yaq,Ybm];have j:s.length=(s.drop 1).length+1:=by rw [Ybh List.length e];rfl
   simp only [lF,Yaq,List.sum_cons] at ih ⊢
   lia
  ·rw [Yfd (by simp [h]),Yfp (by simp [h])];simp only [lF,Yaq,List.sum_cons] at ih ⊢
   lia
noncomputable def ndB (F:Fam):Bool:=match pfF F with | .leaf _=>false | .node ..=>true
theorem U8:∀(n:Nat)(F:Fam),FamOk F->((Uq n F).filter ndB).length<=lF F+(if n=0 then 1 else 0) * (if ndB F=true then 1 else 0)+0 * n\/wF F > n
 | 0,F,h=>by
  by_cases z:wF F > 0
  ·exact .inr z
  ·left;have hF:F=[]:=by
    cases F with
    | nil=>rfl
    | cons s F=>simp [wF] at z
   subst hF;simp [Uq,ndB,pfF]
 | n+1,F,h=>by
  by_cases Y:wF F > n+1
  ·exact .inr Y
  left;unfold Uq;by_cases z:F=[]\/F=[[]]
  ·rw [if_pos z];have:ndB F=false:=by rcases z with rfl | rfl <;> simp [ndB,pfF]
   simp [this]
  ·rw [if_neg z];have B:F≠[]:=λq=>z (.inl q);have D:F≠[[]]:=λq=>z (.inr q);obtain ⟨l1,l2⟩:=Zbk h.nd B D;have lp:=Zbl (Oj F) F;obtain ⟨s,Z⟩:=Oy h.nd B D;have hl:0<(F.filter λs=>decide (s.take 1=[Oj F])).length:=List.length_pos_of_mem (Ycg.mpr ⟨Z,by simp⟩);have L:=(U8 n (woF F) h.wo).resolve_right (by lia);have N:=(U8 n (chF F) h.ch).resolve_right (by lia);have O:∀G:Fam,wF G<=n->n=0->ndB G=false:=λG hG j=>by
    have:G=[]:=by
     cases G with
     | nil=>rfl
     | cons s G=>simp [wF] at hG;lia
    subst this;simp [ndB,pfF]
   have d1:((Uq n (woF F)).filter ndB).length<=lF (woF F):=by
    by_cases j:n=0
    ·have:=O (woF F) (by lia) j;simpa [this] using L
    ·simpa [j] using L
   have d2:((Uq n (chF F)).filter ndB).length<=lF (chF F):=by
    by_cases j:n=0
    ·have:=O (chF F) (by lia) j;simpa [this] using N
    ·simpa [j] using N
   have U:((F::(Uq n (woF F)++Uq n (chF F))).filter ndB).length<=1+(((Uq n (woF F)).filter ndB).length+((Uq n (chF F)).filter ndB).length):=by
    rw [List.filter_cons,Yer];split <;> simp <;> lia
   unfold woF at d1 U;unfold chF at d2 U;simp;unfold woF chF
   lia
theorem nodes_le (h:FamOk F):((Uq (wF F) F).filter ndB).length<=lF F:=by
 have c:=(U8 (wF F) F h).resolve_right (by lia);by_cases j:wF F=0
 ·have q:F=[]:=by
   cases F with
   | nil=>rfl
   | cons s F=>simp [wF] at j
  subst q;simp [wF,Uq,ndB,pfF]
 ·simpa [j] using c
theorem XB:∀(n:Nat)(F:Fam),(Uq n F).length<=2 * ((Uq n F).filter ndB).length+1
 | 0,F=>by simp [Uq]
 | n+1,F=>by
  have i1:=XB n (woF F);have i2:=XB n (chF F);unfold Uq;by_cases z:F=[]\/F=[[]]
  ·rw [if_pos z];simp
  ·rw [if_neg z];have j:ndB F=true:=by
    have B:F≠[]:=λq=>z (.inl q);have D:F≠[[]]:=λq=>z (.inr q);unfold ndB pfF;rw [if_neg B,if_neg D]
   rw [Yfd j,Yer,Ybm,Ybm,Yak,Yak]
   lia
noncomputable def TpsF (H:Hp)(F:Fam)(cs:List AD):Prop:=Paired (λ(s:LI) (c:AD)=>H c=some (.tup (s.map V.int))) F cs
theorem TpsF.keep (x:TpsF H F cs)(t:∀p ys,H p=some (.tup ys)->H' p=some (.tup ys)):TpsF H' F cs:=Paired.mapP x λ_ _ z=>t _ _ z
theorem TpsF.dats (x:TpsF H F cs):DatVs K H (cs.map V.ref) (F.map Um):=by
 induction x with
 | nil=>exact .nil
 | cons e _ ih=>exact .cons (.tup (SqT.of e) (GV _)) ih
theorem TpsF.snoc (x:TpsF H F cs)(e:H c=some (.tup (s.map V.int))):TpsF H (F++[s]) (cs++[c]):=by
 induction x with
 | nil=>exact .cons e .nil
 | cons a _ ih=>exact .cons a ih
theorem TpsF.get (x:TpsF H F cs):∀{i:Nat}{c:AD},cs[i]?=some c->∃s,F[i]?=some s/\H c=some (.tup (s.map V.int)):=by
 induction x with
 | nil=>intro i c e;simp at e
 | @cons s c F cs r _ ih=>
  intro i b e;cases i with
  | zero=>simp at e;subst e;exact ⟨s,by simp,r⟩
  | succ i=>simp at e;obtain ⟨a,h1,h2⟩:=ih e;exact ⟨a,by simpa using h1,h2⟩
theorem TpsF.tus (x:TpsF H F cs):Tus H (cs.map V.ref) F:=by
 induction x with
 | nil=>exact .nil
 | cons e _ ih=>exact .cons e ih
theorem Ur (F:Fam):SeqAt.shaped (.tuple (F.map Um))=true:=by
 unfold SeqAt.shaped;rw [Ybz];refine ⟨by simp only [PyData.canLay0];exact UD F,Yay ?_⟩;have:=Ug F;simp only [PyData.depth]
 lia
theorem JH (s:LI):SeqAt.shaped (Um s)=true:=by
 unfold SeqAt.shaped;rw [Ybz];refine ⟨Yp s,Yay ?_⟩;have:=Jt s;simp only [Um,PyData.depth]
 lia
theorem Wr (ns:LI):VN (ns.map V.int) none (some 1)=(ns.take 1).map V.int:=by
 unfold VN;rw [show (some (1:Int))=some ((1:Nat):Int) from rfl,HT.sIx_nat];cases ns with
 | nil=>rfl
 | cons a b=>simp [HT.sIx]
theorem Zbm (ns:LI):VN (ns.map V.int) (some 1) none=(ns.drop 1).map V.int:=by
 unfold VN;rw [show (some (1:Int))=some ((1:Nat):Int) from rfl,HT.sIx_nat];simp [HT.sIx];cases ns with
 | nil=>rfl
 | cons a b=>
  simp;exact Yfl (by rw [Yac];exact Yaf _)
theorem OY {u z:LI}(e:H c=some (.tup (u.map V.int)))(j:VN (u.map V.int) lo hi=z.map V.int)(h:∀x H',Same H H'->H' x=some (.tup (z.map V.int))->Q (.ref x) H'):Zib K (.ref c) lo hi H Q:=by
 refine ⟨c,xe rfl ⟨SqT.of e,λq=>h c H (Same.refl _) (by rw [<-j,q];exact e),λp B=>?_⟩⟩;rw [j];exact h p _ (Same.new B) Gc
noncomputable def Zbn (F:Fam):Fam:=(F.filter λs=>decide (s≠[])).map (List.take 1)
theorem W6 (F:Fam)(s:LI):Zbn (F++[s])=Zbn F++(if s=[] then [] else [s.take 1]):=by
 unfold Zbn;rw [Yer,Yas];by_cases h:s=[] <;> simp [h]
theorem Zbo (nd:F.Nodup)(h0:F≠[])(h1:F≠[[]])(B:r∈Zbn F)(D:∀r'∈Zbn F,GL r' r=false):r=[Oj F]:=by
 unfold Zbn at B D;obtain ⟨s,L,rfl⟩:=Yal.mp B;obtain ⟨j,q⟩:=Ycg.mp L;cases s with
 | nil=>simp at q
 | cons a s=>
  obtain ⟨t,N⟩:=Oy nd h0 h1;have h2:=D [Oj F] (Yal.mpr ⟨_,Ycg.mpr ⟨N,by simp⟩,rfl⟩);have O:=Zds j;show [a]=_;by_cases e:Oj F=a
  ·rw [e]
  ·have h2:GL [Oj F] [a]=false:=h2;unfold GL at h2;rw [if_neg e] at h2;have:=Yfo h2
   lia
theorem ZeF (nd:F.Nodup)(h0:F≠[])(h1:F≠[[]]):Zbn F≠[]:=by
 obtain ⟨t,j⟩:=Oy nd h0 h1;intro z;have:[Oj F]∈Zbn F:=Yal.mpr ⟨_,Ycg.mpr ⟨j,by simp⟩,rfl⟩;rw [z] at this;cases this
structure DmF (F:Fam):Prop where
 ok:FamOk F
 len:F.length<=306
theorem Zgk (F:Fam):(woF F).length<=F.length:=Yfc _ _
theorem Zgl (F:Fam):(chF F).length<=F.length:=by
 unfold chF;rw [Yac];exact Yfc _ _
theorem Zgm (r:Rc pfF s k)(h:DmF s):DmF k:=by
 refine ⟨Zdt h.ok r,?_⟩
 induction r with
 | start=>exact h.len
 | lo _ e ih=>rw [(Jl e).2.2.2.1];exact Ybq (Zgk _) ih
 | hi _ e ih=>rw [(Jl e).2.2.2.2];exact Ybq (Zgl _) ih
theorem Zig (K:FG)(ha:PE X a ta)(q:∀j,isTrue a X.env j=(do let v <- j;standAt a.pos;holding [v] (truthy v)):=by exact λ_=>rfl)(h:X.K=K:=by rfl):PT X a (λσ H Q=>ta σ H λx H'=>∃k,Zhn K x H' k/\Q k H'):=h▸Uu ha q
section
variable {P:PP}{w:Ab}{K:FG}{mg:Str->Option Aa}{base:Heap}
theorem scFam:Gn ["sets", "first", "without", "chosen"] ["sets"] (Gf Zg4):=⟨rfl,rfl,rfl,by decide +kernel,rfl,by decide +kernel,by decide +kernel⟩
theorem Zgn (F:Fun K "family_parts" "family_parts" Zg4 f fd)(ag:mg "min" = none)(ad:mg "tuple" = none):GE P w K mg base CX0 1 f fd ["sets"] (Zie (gkF P w) pfF DmF):=by
 refine F.ok scFam (λvs H Q E h=>?_) (λao A ap s H vs Q E hr h=>?_)
 ·obtain ⟨_,_,rfl,_⟩:=h
  rfl
 ·obtain ⟨b,k,rfl,hb,D,q⟩:=h;obtain ⟨cs,eb,tp⟩:=hb;have tp:TpsF H k cs:=tp;have hu:=hr.units;have aq:(A.deeper (PyProof.Rows.envOfC "family_parts" (Gf Zg4) s.heap.objs.size f ao)).units+1<cLine:=by have:=hr.un;lia
  have au:=Yav.symm;have ab:=Ycv tp;have av:=D.len;refine ⟨_,Gb (GX (XI (Uu (pv 0) (λ_=>rfl))) (Gh (Gr Gd)) Gp)
    (Gb (GX (gCm (Zfo K hu) (pv 0) (GT (Ga (GT Ge) Ge))) (Gh (Gr Gd)) Gp)
    (Gb (gSt 1 scFam.nd (gB1 (ZfH K rfl aq) ag Od (Jw (own:=["roads"]) rfl gSp (Zb8 K (pv 0)) (λ_ _ _ _=>gNm 0 (show List.Nodup (["roads"]:List Str) by decide +kernel)) (λ_ _ _ _=>Uv (Zig K (pv 0))) (λ_ _ _ _=>JE (Zg1 K) (pv 0) JS (J1 Gd)))))
    (Gb (gSt 2 scFam.nd (gT1 (X8 K) ad Js (Jw (own:=["roads"]) rfl (gSc [("first", 1)]) (Zb8 K (pv 0)) (λ_ _ _ _=>gNm 0 (show List.Nodup (["roads", "first"]:List Str) by decide +kernel)) (λ_ _ _ _=>Uv (gCm (Ziv K hu) (JE (Zg1 K) (pv 0) JS (J1 Gd)) (pv 1))) (λ_ _ _ _=>pv 0))))
    (Gb (gSt 3 scFam.nd (gT1 (X8 K) ad Js (Jw (own:=["roads"]) rfl (gSc [("first", 1)]) (Zb8 K (pv 0)) (λ_ _ _ _=>gNm 0 (show List.Nodup (["roads", "first"]:List Str) by decide +kernel)) (λ_ _ _ _=>Uv (gCm (Zfo K hu) (JE (Zg1 K) (pv 0) JS (J1 Gd)) (pv 1))) (λ_ _ _ _=>JE (Zg1 K) (pv 0) (J1 Gd) JS))))
    (Gh (Gr (GT (Ga (gIx (Zc8 K) (pv 1) Gd) (Ga (pv 2) (Ga (pv 3) Ge)))))))))),?_⟩
  refine lT6 ?_;intro Z R6 R5 R4 R3 R2;by_cases h0:k=[]
  ·subst h0;cases tp;refine xe rfl ⟨false,.inr (.inl ⟨_,SqT.of eb,rfl⟩),Ob ?_⟩;exact q _ H (Same.refl _) (by show PV (gkF P w) H (.int 0) (pfF []);simp [pfF,PV])
  have ar:cs≠[]:=λz=>h0 (by rw [z] at ab;exact List.length_eq_zero_iff.mp ab);refine xe rfl ⟨true,.inr (.inl ⟨_,SqT.of eb,by simp [ar]⟩),OA ?_⟩;dsimp only [JJ];refine Go (λσ' H'=>σ'=[some (.ref b),none,none,none]/\Same H H'/\k≠[[]]) ?s0 ?f0
  case f0=>
   intro hk;refine ⟨_,rfl,Yat _,λe he=>⟨(by show 1<=sizeLine;decide),λt ht=>?_⟩⟩;have s1:Same H (upd H e (.tup [])):=Same.new he;have s2:Same (upd H e (.tup [])) (upd (upd H e (.tup [])) t (.tup [.ref e])):=Same.new ht;have S2:=s1.trans s2;have ee:upd (upd H e (.tup [])) t (.tup [.ref e]) e=some (.tup (([]:LI).map V.int)):=s2 _ _ Gc;refine ⟨.tuple (k.map Um),.tuple ([[]].map Um),.tup (SqT.of (S2 _ _ eb)) (tp.keep λp ys e=>S2 _ _ e).dats,.tup (SqT.of Gc) (.cons (.tup (SqT.of ee) .nil) .nil),Ur _,Ur _,xe rfl ?_⟩;rw [Yq];by_cases h1:k=[[]]
   ·rw [Yay h1];refine Ob ?_;exact q _ _ S2 (by rw [h1];show PV (gkF P w) _ (.int 1) (pfF [[]]);simp [pfF,PV])
   ·rw [Ybp h1];refine OA ?_;exact hk _ _ ⟨rfl,S2,h1⟩
  rintro σ' H2 ⟨rfl,s2,h1⟩;have ae:=s2 _ _ eb;have ah:=tp.keep λp ys e=>s2 _ _ e;have nd:=D.ok.nd;refine Go (λσ' H'=>∃t:AD,σ'=[some (.ref b),some (.ref t),none,none]/\Same H2 H'/\H' t=some (.tup [.int (Oj k)])) ?s1 ?f1
  case f1=>
   intro hk;refine xe rfl ⟨b,rfl,⟨_,SqT.of ae⟩,λD hD=>?_⟩
   let Pv:CI:=λj ys H'=>∃L:List AD,ys=L.map V.ref/\Same H2 H'/\H' D=some (.lst ys)/\TpsF H' (Zbn (k.take j)) L
   refine V4 (K:=K) (a:=b) (xs:=cs.map V.ref) Pv ⟨[],rfl,Same.new hD,Gc,.nil⟩ (by rintro j ys H' _ ⟨_,_,s,_⟩;exact SqT.of (s _ _ ae)) ?_ ?_
   ·rintro j y ys H5 Y ⟨L,rfl,N,eD,O⟩;rw [Yaz] at Y;obtain ⟨c,hc,rfl⟩:=Ybw.mp Y;obtain ⟨u,aa,ec⟩:=ah.get hc;have U:=N _ _ ec;have tk:k.take (j+1)=k.take j++[u]:=by rw [Ycf,aa];rfl
    have ai:=Ycv O;have aj:(Zbn (k.take j)).length<=k.length:=by
     unfold Zbn;rw [Yac];exact Ybq (Yfc _ _) (by rw [Ybo];lia)
    refine ⟨trivial,?_⟩;by_cases ac:u=[]
    ·refine xe rfl ⟨false,.inr (.inl ⟨_,SqT.of U,by rw [ac];rfl⟩),OA ?_⟩;exact ⟨L,rfl,N,eD,by rw [tk,W6,if_pos ac,Yei];exact O⟩
    ·refine xe rfl ⟨true,.inr (.inl ⟨_,SqT.of U,by simp [ac]⟩),Ob ?_⟩;refine ⟨_,rfl,_,rfl,OY U (Wr u) λx H6 B ex=>⟨B _ _ eD,by rw [Yac];lia,L++[x],by rw [Yas];rfl,(N.trans B).put hD,Gc,?_⟩⟩;have t1:=G8 (o:=.lst (L.map V.ref++[.ref x])) (B _ _ eD);rw [tk,W6,if_neg ac];exact ((O.keep λp ys e=>B _ _ e).keep t1).snoc (t1 _ _ ex)
   ·rintro ys H5 ⟨L,rfl,N,eD,O⟩;rw [Yac,<-ab,Ycd] at O;refine ⟨D,_,xe rfl ⟨SqL.of eD,O.tus,ZeF nd h0 h1,λt r ⟨⟨i,e1,e2⟩,hl⟩=>?_⟩⟩;have er:=Zbo nd h0 h1 (Ybf e2) hl;subst er;rw [Yaz] at e1;obtain ⟨c,hc,ec⟩:=Ybw.mp e1;cases ec;obtain ⟨u,aa,eu⟩:=O.get hc;rw [e2] at aa;cases aa;exact hk _ _ ⟨_,rfl,N,eu⟩
  rintro σ' H3 ⟨t,rfl,s3,et⟩;have af:=s3 _ _ ae;have ak:=ah.keep λp ys e=>s3 _ _ e;have al:H3 t=some (.tup ([Oj k].map V.int)):=et;refine Go (λσ' H'=>∃bl:AD,σ'=[some (.ref b),some (.ref t),some (.ref bl),none]/\Same H3 H'/\KeyTT H' bl (woF k)) ?s2 ?f2
  case f2=>
   intro hk;refine xe rfl ⟨b,rfl,⟨_,SqT.of af⟩,λD hD=>?_⟩
   let Pv:CI:=λj ys H'=>∃L:List AD,ys=L.map V.ref/\Same H3 H'/\H' D=some (.lst ys)/\TpsF H' ((k.take j).filter λs:LI=>decide (s.take 1≠[Oj k])) L
   refine V4 (K:=K) (a:=b) (xs:=cs.map V.ref) Pv ⟨[],rfl,Same.new hD,Gc,.nil⟩ (by rintro j ys H' _ ⟨_,_,s,_⟩;exact SqT.of (s _ _ af)) ?_ ?_
   ·rintro j y ys H5 Y ⟨L,rfl,N,eD,O⟩;rw [Yaz] at Y;obtain ⟨c,hc,rfl⟩:=Ybw.mp Y;obtain ⟨u,aa,ec⟩:=ak.get hc;have U:=N _ _ ec;have tk:k.take (j+1)=k.take j++[u]:=by rw [Ycf,aa];rfl
    have ai:=Ycv O;have aj:((k.take j).filter λs:LI=>decide (s.take 1≠[Oj k])).length<=k.length:=Ybq (Yfc _ _) (by rw [Ybo];lia);refine ⟨by simp [GQ,JW],?_⟩;refine ⟨_,rfl,_,rfl,OY U (Wr u) λx H6 B ex=>⟨_,rfl,Um (u.take 1),Um [Oj k],.tup (SqT.of ex) (GV _),.tup (SqT.of (B _ _ (N _ _ al))) (GV _),JH _,JH _,_,rfl,?_⟩⟩;rw [Wm];by_cases hh:u.take 1=[Oj k]
    ·rw [Yay hh];refine OA ⟨L,rfl,N.trans B,B _ _ eD,?_⟩;rw [tk,Yer,Yfp (by simp [hh]),List.filter_nil,Yei];exact O.keep λp ys e=>B _ _ e
    ·rw [Ybp hh];refine Ob ⟨_,rfl,B _ _ eD,by rw [Yac];lia,L++[c],by rw [Yas];rfl,(N.trans B).put hD,Gc,?_⟩;have t1:=G8 (o:=.lst (L.map V.ref++[.ref c])) (B _ _ eD);rw [tk,Yer,Yfd (by simp [hh]),List.filter_nil];exact ((O.keep λp ys e=>B _ _ e).keep t1).snoc (t1 _ _ (B _ _ U))
   ·rintro ys H5 ⟨L,rfl,N,eD,O⟩;rw [Yac,<-ab,Ycd] at O;refine ⟨D,xe rfl (.inl ⟨SqL.of eD,λl hl=>?_⟩)⟩;have B:Same H5 (upd H5 l (.tup (L.map V.ref))):=Same.new hl;exact hk _ _ ⟨l,rfl,N.trans B,L,Gc,O.keep λp ys e=>B _ _ e⟩
  rintro σ' H4 ⟨bl,rfl,s4,kl⟩;have am:=s4 _ _ af;have as:=ak.keep λp ys e=>s4 _ _ e;have an:=s4 _ _ al;refine Go (λσ' H'=>∃bh:AD,σ'=[some (.ref b),some (.ref t),some (.ref bl),some (.ref bh)]/\Same H4 H'/\KeyTT H' bh (chF k)) ?s3 ?f3
  case f3=>
   intro hk;refine xe rfl ⟨b,rfl,⟨_,SqT.of am⟩,λD hD=>?_⟩
   let Pv:CI:=λj ys H'=>∃L:List AD,ys=L.map V.ref/\Same H4 H'/\H' D=some (.lst ys)/\TpsF H' (((k.take j).filter λs:LI=>decide (s.take 1=[Oj k])).map (List.drop 1)) L
   refine V4 (K:=K) (a:=b) (xs:=cs.map V.ref) Pv ⟨[],rfl,Same.new hD,Gc,.nil⟩ (by rintro j ys H' _ ⟨_,_,s,_⟩;exact SqT.of (s _ _ am)) ?_ ?_
   ·rintro j y ys H5 Y ⟨L,rfl,N,eD,O⟩;rw [Yaz] at Y;obtain ⟨c,hc,rfl⟩:=Ybw.mp Y;obtain ⟨u,aa,ec⟩:=as.get hc;have U:=N _ _ ec;have tk:k.take (j+1)=k.take j++[u]:=by rw [Ycf,aa];rfl
    have ai:=Ycv O;have aj:(((k.take j).filter λs:LI=>decide (s.take 1=[Oj k])).map (List.drop 1)).length<=k.length:=by
     rw [Yac];exact Ybq (Yfc _ _) (by rw [Ybo];lia)
    refine ⟨by simp [GQ,JW],?_⟩;refine ⟨_,rfl,_,rfl,OY U (Wr u) λx H6 B ex=>⟨_,rfl,Um (u.take 1),Um [Oj k],.tup (SqT.of ex) (GV _),.tup (SqT.of (B _ _ (N _ _ an))) (GV _),JH _,JH _,_,rfl,?_⟩⟩;rw [Wm];by_cases hh:u.take 1=[Oj k]
    ·rw [Yay hh];refine Ob ⟨_,rfl,_,rfl,?_⟩;dsimp only [Xf];refine OY (B _ _ U) (Zbm u) (λy H7 s7 ey=>⟨s7 _ _ (B _ _ eD),by rw [Yac];lia,L++[y],by rw [Yas];rfl,((N.trans B).trans s7).put hD,Gc,?_⟩);have t1:=G8 (o:=.lst (L.map V.ref++[.ref y])) (s7 _ _ (B _ _ eD));rw [tk,Yer,Yfd (by simp [hh]),List.filter_nil,Yas];exact (((O.keep λp ys e=>B _ _ e).keep λp ys e=>s7 _ _ e).keep t1).snoc (t1 _ _ ey)
    ·rw [Ybp hh];refine OA ⟨L,rfl,N.trans B,B _ _ eD,?_⟩;rw [tk,Yer,Yfp (by simp [hh]),List.filter_nil,Yei];exact O.keep λp ys e=>B _ _ e
   ·rintro ys H5 ⟨L,rfl,N,eD,O⟩;rw [Yac,<-ab,Ycd] at O;refine ⟨D,xe rfl (.inl ⟨SqL.of eD,λl hl=>?_⟩)⟩;have B:Same H5 (upd H5 l (.tup (L.map V.ref))):=Same.new hl;exact hk _ _ ⟨l,rfl,N.trans B,L,Gc,O.keep λp ys e=>B _ _ e⟩
  rintro σ' H5 ⟨bh,rfl,N,kh⟩;refine xe rfl ⟨t,_,xd rfl rfl ⟨SqT.of (N _ _ an),GC (j:=0) rfl,xe rfl (xe rfl ⟨(by show 3<=sizeLine;decide),λp hp=>?_⟩)⟩⟩;have B:Same H5 (upd H5 p (.tup [.int (Oj k),.ref bl,.ref bh])):=Same.new hp;refine q _ _ ((((s2.trans s3).trans s4).trans N).trans B) ?_;have ek:pfF k=.node (Oj k) (woF k) (chF k):=by unfold pfF;rw [if_neg h0,if_neg h1]
  rw [ek];exact ⟨p,bl,bh,rfl,Gc,(kl.same N).same B,kh.same B⟩
noncomputable abbrev Lx (F:List (LI)):Prop:=F.Pairwise λa b=>GL a b=true
theorem YA:∀{F G:List (LI)},Lx F->Lx G->(∀s,s∈F↔s∈G)->F=G
 | [],[],_,_,_=>rfl
 | [],b::G,_,_,h=>absurd ((h b).mpr (Ybg ..)) (by simp)
 | a::F,[],_,_,h=>absurd ((h a).mp (Ybg ..)) (by simp)
 | a::F,b::G,hF,hG,h=>by
  obtain ⟨f1,f2⟩:=Ydy.mp hF;obtain ⟨B,D⟩:=Ydy.mp hG;have e:a=b:=by
   rcases Yam.mp ((h a).mp (Ybg ..)) with e | e
   ·exact e
   ·rcases Yam.mp ((h b).mpr (Ybg ..)) with q | q
    ·exact q.symm
    ·have:=Ow (B a e) (f1 b q);rw [Jg] at this;cases this
  subst e;rw [YA f2 D λs=>?_];have L:s∈F->s≠a:=λj z=>by have:=f1 s j;rw [z,Jg] at this;cases this
  have N:s∈G->s≠a:=λj z=>by have:=B s j;rw [z,Jg] at this;cases this
  constructor
  ·intro j;exact (Yam.mp ((h s).mp (Ybe _ j))).resolve_left (L j)
  ·intro j;exact (Yam.mp ((h s).mpr (Ybe _ j))).resolve_left (N j)
theorem Zdv {H:Hp}:∀{ws:List (AD×LI)},(∀z∈ws,H z.1=some (.tup (z.2.map V.int)))->TpsF H (ws.map (·.2)) (ws.map (·.1))
 | [],_=>.nil
 | z::ws,h=>.cons (h z (Ybg ..)) (Zdv λy hy=>h y (Ybe _ hy))
theorem VG (nd:F.Nodup)(j:F.Pairwise λa b=>GL b a=false):Lx F:=by
 refine (List.Pairwise.and nd j).imp λ{a b} ⟨h1,h2⟩=>?_;cases h:GL a b with
 | true=>rfl
 | false=>exact absurd (Oh h h2) h1
noncomputable def Zgo (q j tb:AD):Sp:=λvs H Q E=>∃(l:AD)(zs:List (AD×LI))(F:Fam)(U Un:List Fam),vs=[.ref l]/\H l=some (.lst (zs.map λz=>V.ref z.1))/\(∀z∈zs,H z.1=some (.lst (z.2.map V.int)))/\zs.length<=306/\Lx F/\(∀s,s∈F↔s∈zs.map (·.2))/\FamOk F /\
 (∀k,Rc pfF F k->k∈U)/\(∀k,Rc pfF F k->Up (pfF k)=true->k∈Un)/\U.length<=10000/\LD tb H /\
 (∀(p l:AD)(a0 root:Int)(xs:List V)(us ts:List Tri)(fs:LI)(H':Hp),SameL tb H H'->LD tb H'->H p=none->H l=none->TabAt H' p l a0 xs us->LeT pfF F a0 us ts root fs->ts.length<=Un.length->ts.length<=800->Q (.ref p) H') /\
 (∀(ts:List Tri)(H':Hp),SameL tb H H'->LD tb H'->Grw pfF F [] ts->800<ts.length->ts.length<=Un.length->E (.ref j) none H')
theorem scTof:Gn ["sets", "family"] ["sets"] (Gf Zg5):=⟨rfl,rfl,rfl,by decide +kernel,rfl,by decide +kernel,by decide +kernel⟩
theorem Zgp (F:Fun K "table_of" "table_of" Zg5 f fd)(ai:mg "family_parts" = some (.ref fP))(aj:mg "MOST_NODES" = some (.int 800 tM))(ak:Fun K "least_table" "least_table" ZfV ac N)(al:Binds K N ["start", "parts", "most"] [])(am:mg "least_table" = some (.ref ac))(an:GE P w K mg base (CXr P w) 4 ac N ["start", "parts", "most"] (Zgg (gkF P w) pfF DmF fP TM tb))(Y:mg "tuple" = none)(af:mg "sorted" = none)(ag:mg "set" = none):GE P w K mg base (CXr P w) 5 f fd ["sets"] (Zgo fP TM tb):=by
 refine F.okR scTof (λvs H Q E h=>?_) (λay A ao s H vs Q E hr h=>?_)
 ·obtain ⟨_,_,_,_,_,rfl,_⟩:=h
  rfl
 ·obtain ⟨l,zs,Fm,U,Un,rfl,el,lz,az,ap,aa,FO,hU,aq,ar,ld,qq,qe⟩:=h;have hu:=hr.units;have a1:=Yav.symm;refine ⟨_,Gb (gSt 1 scTof.nd (gT1 (X8 K) Y Js (gB1 (ZfG K rfl hu) af Yfw (gT1 (ZhJ K rfl hu) ag ZbW (Jw (own:=["roads"]) rfl gSp (Ou K (pv 0)) (λ_ _ _ _=>gNm 0 (show List.Nodup (["roads"]:List Str) by decide +kernel)) (λ_ _ _ _=>Gy) (λ_ _ _ _=>gT1 (X8 K) Y Js (pv 0)))))))
    (Gh (Gr (gCa an am ak.kp al ZdS (Ga (pv 1) (Ga (Zy (v:=.ref fP) rfl ai rfl) (Ga (Zy (v:=.int 800) rfl aj ⟨_,rfl⟩) Ge)))))),?_⟩
  refine lT2 ?_;intro Z R2;refine Go (λσ' H'=>∃b:AD,σ'=[some (.ref l),some (.ref b)]/\Same H H'/\KeyTT H' b Fm) ?s0 ?f0
  case f0=>
   intro hk;refine xe rfl ⟨l,rfl,⟨_,SqL.of el⟩,λD hD=>?_⟩
   let Pv:CI:=λj ys H'=>∃cs:List AD,ys=cs.map V.ref/\Same H H'/\H' D=some (.lst ys)/\TpsF H' ((zs.map (·.2)).take j) cs
   refine J2 (K:=K) (a:=l) (xs:=zs.map λz=>V.ref z.1) Pv ⟨[],rfl,Same.new hD,Gc,.nil⟩ (by rintro j ys H' _ ⟨_,_,s,_⟩;exact SqL.of (s _ _ el)) ?_ ?_
   ·rintro j y ys H2 ah ⟨cs,rfl,s2,eD,tp⟩;rw [Yaz] at ah;obtain ⟨z,hz,rfl⟩:=Ybw.mp ah;have as:=Ybf hz;have tk:(zs.map (·.2)).take (j+1)=(zs.map (·.2)).take j++[z.2]:=by rw [Ycf,Yaz,hz];rfl
    have au:=Ycv tp;rw [Ybo] at au;have hj:j<zs.length:=(Yao.mp hz).1;refine ⟨trivial,?_⟩;unfold XQ;refine Ob ?_;refine xe rfl ⟨z.1,xe rfl (.inl ⟨SqL.of (s2 _ _ (lz z as)),λt ht=>?_⟩)⟩;have s3:Same H2 (upd H2 t (.tup (z.2.map V.int))):=Same.new ht;refine ⟨s3 _ _ eD,(by rw [Yac];lia),cs++[t],by rw [Yas];rfl,(s2.trans s3).put hD,Gc,?_⟩;rw [tk];have t1:=G8 (o:=.lst (cs.map V.ref++[.ref t])) (s3 _ _ eD);exact ((tp.keep λp ys e=>s3 _ _ e).keep t1).snoc (t1 _ _ Gc)
   ·rintro ys H2 ⟨cs,rfl,s2,eD,tp⟩;rw [Yac,<-Yac (f:=λz:AD×LI=>z.2),Ycd] at tp;refine ⟨D,_,xe rfl ⟨SqL.of eD,tp.tus,by rw [Yac];lia,λq ws ad nd mem at_=>?_⟩⟩;have s3:Same H2 (upd H2 q (Zdm w q ws)):=Same.new ad;have a2:ws.length<=306:=by
     have:=Ycp nd (l₂:=zs.map (·.2)) λk hk=>(mem k).mp hk;rw [Yac,Yac] at this
     lia
    refine ⟨q,ws,rfl,Gc,λz hz=>s3 _ _ (at_ z hz),by lia,λl3 B av pm so=>?_⟩;have s4:Same (upd H2 q (Zdm w q ws)) (upd (upd H2 q (Zdm w q ws)) l3 (.lst (B.map λz=>V.ref z.1))):=Same.new av;refine ⟨l3,xe rfl (.inl ⟨SqL.of Gc,λb hb=>?_⟩)⟩;have s5:Same (upd (upd H2 q (Zdm w q ws)) l3 (.lst (B.map λz=>V.ref z.1))) (upd (upd (upd H2 q (Zdm w q ws)) l3 (.lst (B.map λz=>V.ref z.1))) b (.tup (B.map λz=>V.ref z.1))):=Same.new hb;have S5:=(s3.trans s4).trans s5;have eF:B.map (·.2)=Fm:=YA (VG ((pm.map (·.2)).nodup_iff.mpr nd) so) ap λs=>by rw [(pm.map (·.2)).mem_iff,mem s,aa s]
    refine hk _ _ ⟨b,rfl,s2.trans S5,B.map (·.1),?_,?_⟩
    ·rw [Gc,Ydg]
     rfl
    ·rw [<-eF];exact Zdv λz hz=>S5 _ _ (at_ z (pm.mem_iff.mp hz))
  rintro σ' H1 ⟨b,rfl,s1,kb⟩;obtain ⟨a3,eT⟩:=ld.tbl;have aw:Fm.length<=306:=by
   have:=Ycp FO.nd (l₂:=zs.map (·.2)) λk hk=>(aa k).mp hk;rw [Yac] at this
   lia
  have ab:Abv pfF Fm (-1):=λr a b e=>by
   have:=((Wp FO).nd _ _ _ _ .start e).1.1
   lia
  refine xe rfl ⟨b,Fm,U,Un,800,rfl,kb,⟨FO,aw⟩,hU,aq,ar,⟨by decide,by decide⟩,Wp FO,ab,ld.same s1,λp q a0 root xs us ts fs H2 s2 O hp ad W L ae a4=>?_,λts H2 s2 O D hM ae=>qe ts H2 ((SameL.of s1).trans s2) O D (by lia) ae⟩;obtain ⟨ax,a5⟩:=O.tbl;exact qq p q a0 root xs us ts fs H2 ((SameL.of s1).trans s2) O (s1.free hp) (s1.free ad) W L ae (by lia)
noncomputable def ZeG:Sp:=λvs H Q _=>∃(n:Int)(m:Nat),vs=[.int n,.int (m:Int)]/\m<=40/\∀(j:AD)(rs:List Nat)(H':Hp),Same H H'->H j=none->H' j=some (.lst ((rs.map λk:Nat=>(k:Int)).map V.int))->rs.Pairwise (· < ·)->(∀k∈rs,k<m)->Q (.ref j) H'
theorem scBit:Gn ["number", "width", "one", "road"] ["number", "width"] (Gf ZfW):=⟨rfl,rfl,rfl,by decide +kernel,rfl,by decide +kernel,by decide +kernel⟩
theorem Zgq (F:Fun K "_law_bits" "_law_bits" ZfW f fd)(B:mg "range" = none):GE P w K mg base CX0 1 f fd ["number", "width"] ZeG:=by
 refine F.ok scBit (λvs H Q E h=>?_) (λad A Y s H vs Q E hr h=>?_)
 ·obtain ⟨_,_,rfl,_⟩:=h
  rfl
 ·obtain ⟨n,m,rfl,hm,q⟩:=h;have ae:=Yav.symm;refine ⟨_,Gb (gSt 2 scBit.nd (GD Ge))
    (Gb (JL Ycu rfl (JZ rfl B (Ga (pv 1) Ge)) (gNm 3 scBit.nd)
    (Gb (GX (gCm OC (Gk GS (pv 0) Gd) Gd) (Gh (G9 (kBm K Ych Ydb Ydc GB (pv 2) (Ga (pv 3) Ge)))) Gp)
    (Gh (gSt 0 scBit.nd (Gk Gz (pv 0) Gd)))))
    (Gh (Gr (pv 2)))),?_⟩
  refine lT3 ?_;intro Z R3 R2;refine ⟨Yat _,λl hl=>?_⟩;refine xe rfl (xe rfl ⟨by lia,by lia,?_⟩);rw [Ydw]
  let Pv:FI:=λi σ H2=>∃(j:List Nat)(r:Int)(v3:Option V),σ=[some (.int r),some (.int (m:Int)),some (.ref l),v3]/\Same H H2/\H2 l=some (.lst ((j.map λk:Nat=>(k:Int)).map V.int))/\j.length<=i/\j.Pairwise (· < ·)/\∀k∈j,k<i
  refine OB (lo:=0) (n:=m) Pv ⟨[],_,none,rfl,Same.new hl,Gc,Yaf _,List.Pairwise.nil,λk N=>by cases N⟩ ?_ ?_
  ·rintro i σ H2 hi ⟨j,r,v3,rfl,O,D,rl,U,lt⟩;rw [Int.zero_add];dsimp only [Gq];refine Go (λσ' H'=>∃(j:List Nat),σ'=[some (.int r),some (.int (m:Int)),some (.ref l),some (.int (i:Int))]/\Same H H'/\H' l=some (.lst ((j.map λk:Nat=>(k:Int)).map V.int))/\j.length<=i+1/\j.Pairwise (· < ·)/\∀k∈j,k<i+1) ?snd ?fst
   case fst=>
    intro N;refine xe rfl (xd rfl rfl ⟨(by show (0:Int)<2;decide),rfl,xe rfl (O7 (λ_=>?_) (λ_=>N _ _ ⟨j,rfl,O,D,by lia,U,λk h=>by have:=lt k h;lia⟩))⟩);refine xe rfl ⟨.inl ⟨rfl,_,SqL.of D⟩,xe rfl ⟨l,xd rfl rfl ⟨D,by rw [Yac,Yac];lia,?_⟩⟩⟩;refine N _ _ ⟨j++[i],rfl,O.put hl,by rw [Gc,Yas,Yas];rfl,by rw [Yak,Ybc];lia,Yca.mpr ⟨U,by simp,λa ha b hb=>?_⟩,λk h=>?_⟩
    ·rw [Yai.mp hb];exact lt a ha
    ·rcases Yaj.mp h with h | h
     ·have:=lt k h
      lia
     ·rw [Yai.mp h]
      lia
   case snd=>
    rintro σ' H' ⟨L,rfl,s3,e3,aa,ab,ac⟩;refine xe rfl (xd rfl rfl ⟨⟨by decide,GH⟩,?_⟩);exact ⟨L,_,xe rfl ⟨s3,e3,aa,ab,ac⟩⟩
  ·rintro σ H2 ⟨j,r,v3,rfl,O,D,rl,U,lt⟩;exact xe rfl (q l j H2 O hl D U lt)
noncomputable def shn (ps:LI)(k:Int):Int:=if k<2 then 0 else ps.getD (k-2).toNat 0
noncomputable def Ji (ps j:LI)(i:Nat)(r:Tri):Bool:=!(decide (r.2.1≠0) && decide (shn ps r.2.1<ps.getD i 0)) && decide (ps.getD i 0<=j.getD r.1.toNat 0+shn ps r.2.2)
theorem YB {k:Int}(h0:0<=k)(h1:k<ps.length+2):atI (([0,0]++ps).map V.int) k=some (.int (shn ps k)):=by
 rw [U6 h0 (by simp;lia)];unfold shn;by_cases h:k<2
 ·rw [if_pos h];have:k=0\/k=1:=by lia
  rcases this with rfl | rfl <;> rfl
 ·rw [if_neg h];obtain ⟨j,q⟩:∃j:Nat,k.toNat=j+2:=⟨k.toNat-2,by lia⟩;have e:(k-2).toNat=j:=by lia
  rw [q,e]
  rfl
noncomputable def Zgr:Sp:=λvs H Q _=>∃(j nd q:AD)(ps qs:LI)(i:Nat)(r:Tri),vs=[.ref j,.int ((i:Int)+2),.ref nd,.ref q]/\H j=some (.lst (([0,0]++ps).map V.int))/\H nd=some (.tup [.int r.1,.int r.2.1,.int r.2.2])/\H q=some (.lst (qs.map V.int))/\i<ps.length/\(0<=r.1/\r.1<qs.length)/\(0<=r.2.1/\r.2.1<ps.length+2)/\(0<=r.2.2/\r.2.2<ps.length+2)/\Q (.bl (Ji ps qs i r)) H
theorem scIsr:Gn ["shown", "number", "node", "prices", "road", "low", "high"] ["shown", "number", "node", "prices"] (Gf Zg2):=⟨rfl,rfl,rfl,by decide +kernel,rfl,by decide +kernel,by decide +kernel⟩
theorem Zgs (F:Fun K "is_right" "is_right" Zg2 f fd):GE P w K mg base CX0 1 f fd ["shown", "number", "node", "prices"] Zgr:=by
 refine F.ok scIsr (λvs H Q E h=>?_) (λaa A N s H vs Q E hr h=>?_)
 ·obtain ⟨_,_,_,_,_,_,_,rfl,_⟩:=h
  rfl
 ·obtain ⟨j,nd,U,ps,qs,i,r,rfl,es,en,ep,hi,h1,h2,Y,q⟩:=h;refine ⟨_,Gb (Om (pv 2) (VR K (n:=3) rfl (Gi (gNm 4 scIsr.nd) (Gi (gNm 5 scIsr.nd) (Gi (gNm 6 scIsr.nd) GN)))))
    (Gb (GX (PW.pt (Zz (gCm Ze7 (pv 5) Gd) (Xe (gCm ZbJ (gIx (Uy K) (pv 0) (pv 1)) (gIx (Uy K) (pv 0) (pv 5)))))) (Gh (Gr JI)) Gp)
    (Gh (Gr (gCe Ze8 (gIx (Uy K) (pv 0) (pv 1)) (Gk GP (gIx (Uy K) (pv 3) (pv 4)) (gIx (Uy K) (pv 0) (pv 6))))))),?_⟩
  refine lT3 ?_;intro Z R3 R2;have me:shn ps ((i:Int)+2)=ps.getD i 0:=by
   unfold shn;rw [if_neg (by lia),show ((i:Int)+2-2).toNat=i by lia]
  have at1:=YB (ps:=ps) (k:=(i:Int)+2) (by lia) (by lia);rw [me] at at1;have O:=YB h2.1 h2.2;have B:=YB Y.1 Y.2;refine xe rfl ⟨nd,xe rfl ⟨SqT.of en,rfl,_,xe rfl ⟨_,xe rfl (xd rfl rfl ?_)⟩⟩⟩;refine xe rfl ⟨rfl,xe rfl ?_⟩;by_cases D:r.2.1=0
  ·refine O7 (λc=>?_) (λ_=>?_)
   ·exact absurd c (by rw [D];decide)
   ·refine OA ?_;refine xe rfl (xe rfl ⟨j,_,xd rfl rfl ⟨SqL.of es,at1,xe rfl (xe rfl ⟨U,_,xd rfl rfl ⟨SqL.of ep,U6 h1.1 h1.2,xe rfl (xe rfl ⟨j,_,xd rfl rfl ⟨SqL.of es,B,xd rfl rfl (xd rfl rfl ?_)⟩⟩)⟩⟩)⟩⟩);have:Ji ps qs i r=decide (ps.getD i 0<=qs.getD r.1.toNat 0+shn ps r.2.2):=by simp [Ji,D]
    show Q (.bl (decide (ps.getD i 0<=qs.getD r.1.toNat 0+shn ps r.2.2))) H;rw [<-this];exact q
  ·refine O7 (λ_=>?_) (λc=>?_)
   ·refine xe rfl (xe rfl ⟨j,_,xd rfl rfl ⟨SqL.of es,at1,xe rfl (xe rfl ⟨j,_,xd rfl rfl ⟨SqL.of es,O,xd rfl rfl (xe rfl ?_)⟩⟩)⟩⟩);by_cases L:shn ps r.2.1<ps.getD i 0
    ·rw [Yay L];refine Ob ?_;have:Ji ps qs i r=false:=by simp only [Ji,Yay D,Yay L];rfl
     rw [<-this];exact q
    ·rw [Ybp L];refine OA ?_;refine xe rfl (xe rfl ⟨j,_,xd rfl rfl ⟨SqL.of es,at1,xe rfl (xe rfl ⟨U,_,xd rfl rfl ⟨SqL.of ep,U6 h1.1 h1.2,xe rfl (xe rfl ⟨j,_,xd rfl rfl ⟨SqL.of es,B,xd rfl rfl (xd rfl rfl ?_)⟩⟩)⟩⟩)⟩⟩);have:Ji ps qs i r=decide (ps.getD i 0<=qs.getD r.1.toNat 0+shn ps r.2.2):=by simp only [Ji,Yay D,Ybp L];rfl
     show Q (.bl (decide (ps.getD i 0<=qs.getD r.1.toNat 0+shn ps r.2.2))) H;rw [<-this];exact q
   ·exact absurd (by simpa using D) c
noncomputable def ZcI:Sp:=λvs H Q _=>∃(c:Int)(k:Nat),vs=[.int c,.int (k:Int)]/\k<=1000/\∀z:Int,0<=z->z<268435446->Q (.int z) H
theorem scStr:Gn ["cell", "k", "one"] ["cell", "k"] (Gf ZeW):=⟨rfl,rfl,rfl,by decide +kernel,rfl,by decide +kernel,by decide +kernel⟩
theorem Zgt (F:Fun K "_law_stir" "_law_stir" ZeW f fd):GE P w K mg base CX0 1 f fd ["cell", "k"] ZcI:=by
 refine F.ok scStr (λvs H Q E h=>?_) (λB A j s H vs Q E U h=>?_)
 ·obtain ⟨_,_,rfl,_⟩:=h
  rfl
 ·obtain ⟨c,k,rfl,Y,q⟩:=h;refine ⟨_,Gb (gSt 2 scStr.nd (Gk GS (Gk JV (Gk GP (Gk GP (Gk GS (pv 0) Gd) (Gk JV Gd (pv 1))) Gd) Gd) Gd))
    (Gb (gSt 2 scStr.nd (Gk GS (Gk JV (pv 2) (pv 2)) Gd))
    (Gh (Gr (Gk Gz (Gk GS (Gk JV (Gk GP (pv 2) (Gk JV Gd (pv 1))) Gd) Gd) Gd)))),?_⟩
  refine lT3 ?_;intro Z R3 R2;have a0:0<=c % 2147483629:=Ycj _ (by decide);have a1:c % 2147483629<2147483629:=Yco _ (by decide);refine xe rfl (xd rfl rfl ⟨(by show (0:Int)<2147483629;decide),xe rfl (xd rfl rfl ⟨.inl ⟨by lia,by lia⟩,xd rfl rfl (xd rfl rfl (xd rfl rfl ⟨.inl ⟨by lia,by lia⟩,xd rfl rfl ⟨(by show (0:Int)<2147483647;decide),?_⟩⟩))⟩)⟩);have D:0<=(c % 2147483629+9973 * (k:Int)+5) * 48271 % 2147483647:=Ycj _ (by decide);have L:(c % 2147483629+9973 * (k:Int)+5) * 48271 % 2147483647<2147483647:=Yco _ (by decide);dsimp only [Gq];generalize (c % 2147483629+9973 * (k:Int)+5) * 48271 % 2147483647=m at D L ⊢;refine xe rfl (xe rfl (xd rfl rfl ⟨.inl ⟨by lia,by lia⟩,xd rfl rfl ⟨(by show (0:Int)<2147483587;decide),?_⟩⟩));have N:0<=m * m % 2147483587:=Ycj _ (by decide);have O:m * m % 2147483587<2147483587:=Yco _ (by decide);dsimp only [Gq];generalize m * m % 2147483587=n at N O ⊢;refine xe rfl (xe rfl (xd rfl rfl ⟨.inl ⟨by lia,by lia⟩,xd rfl rfl (xd rfl rfl ⟨.inl ⟨by lia,by lia⟩,xd rfl rfl ⟨(by show (0:Int)<2147483563;decide),xd rfl rfl ⟨⟨by decide,GH⟩,?_⟩⟩⟩)⟩));have e0:0<=(n+7919 * (k:Int)) * 16807 % 2147483563:=Ycj _ (by decide);have e1:(n+7919 * (k:Int)) * 16807 % 2147483563<2147483563:=Yco _ (by decide);exact q _ (by lia) (by lia)
noncomputable def Zgu:Sp:=λvs H Q _=>∃(c:Int)(m:Nat),vs=[.int c,.int (m:Int)]/\m<=100/\∀(l:AD)(ps:LI)(H':Hp),Same H H'->H l=none->H' l=some (.lst (ps.map V.int))->ps.length=m->Q (.ref l) H'
theorem scPrc:Gn ["cell", "many", "base", "left", "prices", "k", "number"] ["cell", "many"] (Gf Zg6):=⟨rfl,rfl,rfl,by decide +kernel,rfl,by decide +kernel,by decide +kernel⟩
theorem Zgv (F:Fun K "_law_prices" "_law_prices" Zg6 f fd)(ab:Fun K "_law_stir" "_law_stir" ZeW U B)(ac:Binds K B ["cell", "k"] [])(ad:mg "_law_stir" = some (.ref U))(ae:GE P w K mg base CX0 1 U B ["cell", "k"] ZcI)(D:mg "range" = none):GE P w K mg base CX0 2 f fd ["cell", "many"] Zgu:=by
 refine F.ok scPrc (λvs H Q E h=>?_) (λag A af s H vs Q E hr h=>?_)
 ·obtain ⟨_,_,rfl,_⟩:=h
  rfl
 ·obtain ⟨c,m,rfl,hm,q⟩:=h;have ah:=Yav.symm;refine ⟨_,Gb (gSt 2 scPrc.nd (gIx (Uy K) (GD (Ga Gd (Ga Gd (Ga (Gk JU (Gk JV Gd (Gk XM Gd Gd)) Gd) Ge)))) (Gk GS (Gk Gz (pv 0) Gd) Gd)))
    (Gb (gSt 3 scPrc.nd (Gk Gz (pv 0) Gd))
    (Gb (gSt 4 scPrc.nd (GD Ge))
    (Gb (JL Ycu rfl (JZ rfl D (Ga (pv 1) Ge)) (gNm 5 scPrc.nd)
    (Gb (gSt 6 scPrc.nd (pv 3))
    (Gb (GX (gCm OC (Gk GS (pv 0) Gd) Gd) (Gh (gSt 6 scPrc.nd (Gk XM (gCa ae ad ab.kp ac Gu (Ga (pv 0) (Ga (pv 5) Ge))) Gd))) Gp)
    (Gb (G9 (kBm K Ych Ydb Ydc GB (pv 4) (Ga (Gk JU (Gk GS (pv 6) (pv 2)) (Gk Gz (pv 2) Gd)) Ge)))
    (Gh (gSt 3 scPrc.nd (Gk Gz (pv 3) (pv 2))))))))
    (Gh (Gr (pv 4)))))),?_⟩
  refine lT5 ?_;intro Z R5 R4 R3 R2;refine Go (λL H'=>∃b:Int,L=[some (.int c),some (.int (m:Int)),some (.int b),none,none,none,none]/\Same H H'/\0<b/\Lt2 9000 b) ?N ?f1
  case f1=>
   intro O;refine ⟨_,_,rfl,rfl,⟨by decide,by decide,by decide⟩,_,_,rfl,rfl,.inl ⟨by decide,by decide⟩,_,_,rfl,rfl,(by show 3<=sizeLine;decide),λp hp=>⟨_,rfl,_,_,rfl,rfl,⟨by decide,GH⟩,_,_,rfl,rfl,(by show (0:Int)<3;decide),p,[.int 7,.int 2001,.int (2 * 10 ^ (30:Int).toNat-1)],c / 2 % 3,?_⟩⟩;have N:Same H (upd H p (.lst [.int 7,.int 2001,.int (2 * 10 ^ (30:Int).toNat-1)])):=Same.new hp;have j0:0<=c / 2 % 3:=Ycj _ (by decide);have j1:c / 2 % 3<3:=Yco _ (by decide);have j:c / 2 % 3=0\/c / 2 % 3=1\/c / 2 % 3=2:=by lia
   rcases j with h | h | h
   ·exact ⟨.int 7,rfl,rfl,SqL.of Gc,by rw [h];exact GC (j:=0) rfl,O _ _ ⟨_,rfl,N,by decide,GH⟩⟩
   ·exact ⟨.int 2001,rfl,rfl,SqL.of Gc,by rw [h];exact GC (j:=1) rfl,O _ _ ⟨_,rfl,N,by decide,GH⟩⟩
   ·exact ⟨.int (2 * 10 ^ (30:Int).toNat-1),rfl,rfl,SqL.of Gc,by rw [h];exact GC (j:=2) rfl,O _ _ ⟨_,rfl,N,by decide +kernel,GH⟩⟩
  rintro L H1 ⟨b,rfl,N,b0,b1⟩;refine xe rfl (xd rfl rfl ⟨⟨by decide,GH⟩,?_⟩);dsimp only [Gq];refine ⟨Yat _,λl hl=>?_⟩;have el:upd H1 l (.lst []) l=some (.lst (([]:LI).map V.int)):=Gc;have s2:=N.put (o:=.lst []) (N.free hl);have aa:H l=none:=N.free hl;generalize upd H1 l (.lst [])=H2 at el s2 ⊢;dsimp only [Gq];refine xe rfl (xe rfl ⟨by lia,by lia,?_⟩);rw [Ydw]
  let Pv:FI:=λi σ H'=>∃(ps:LI)(lf:Int)(v5 v6:Option V),σ=[some (.int c),some (.int (m:Int)),some (.int b),some (.int lf),some (.ref l),v5,v6]/\Same H H'/\H' l=some (.lst (ps.map V.int))/\ps.length=i
  refine OB (lo:=0) (n:=m) Pv ⟨[],_,none,none,rfl,s2,el,rfl⟩ ?_ ?_
  ·rintro i σ H3 hi ⟨ps,lf,v5,v6,rfl,s3,e3,Y⟩;rw [Int.zero_add];dsimp only [Gq];refine Go (λL H'=>∃n:Int,L=[some (.int c),some (.int (m:Int)),some (.int b),some (.int lf),some (.ref l),some (.int (i:Int)),some (.int n)]/\H3=H') ?s2 ?f2
   case f2=>exact λO=>⟨_,rfl,O _ _ ⟨lf,rfl,rfl⟩⟩
   rintro L H' ⟨n0,rfl,rfl⟩;refine Go (λL H'=>∃n:Int,L=[some (.int c),some (.int (m:Int)),some (.int b),some (.int lf),some (.ref l),some (.int (i:Int)),some (.int n)]/\H3=H') ?s3 ?f3
   case f3=>
    intro O;refine xe rfl (xd rfl rfl ⟨(by show (0:Int)<2;decide),rfl,xe rfl (O7 (λ_=>?_) (λ_=>O _ _ ⟨n0,rfl,rfl⟩))⟩);refine ⟨_,rfl,_,rfl,c,i,rfl,by lia,λz z0 z1=>⟨_,_,rfl,rfl,⟨by decide,by decide,?_⟩,O _ _ ⟨_,rfl,rfl⟩⟩⟩;have e:(2:Nat) ^ 64=18446744073709551616:=by decide
    rw [e]
    lia
   rintro L H' ⟨n,rfl,rfl⟩;refine xe rfl ⟨.inl ⟨rfl,_,SqL.of e3⟩,xe rfl (xe rfl (xd rfl rfl ⟨b0,xe rfl (xd rfl rfl ⟨⟨by decide,GH⟩,xd rfl rfl ⟨l,xd rfl rfl ⟨e3,by rw [Yac];lia,?_⟩⟩⟩)⟩))⟩;dsimp only [JJ];refine xe rfl (xe rfl (xd rfl rfl ⟨⟨b0,b1⟩,?_⟩));exact ⟨ps++[n % b-b / 2],_,_,xe rfl ⟨s3.put aa,by rw [Gc,Yas];rfl,by rw [Yak,Ybc,Y]⟩⟩
  ·rintro σ H3 ⟨ps,lf,v5,v6,rfl,s3,e3,Y⟩;exact xe rfl (q l ps H3 s3 aa e3 Y)
noncomputable def JR (ts:List Tri)(root:Int)(qs ps:LI)(j:Int):Bool:=!decide (root=0) && decide (ps.length=ts.length) && ((List.range ts.length).all λi=>Ji ps qs i (ts.getD i (0,0,0))) && decide (shn ps root=j)
noncomputable def ZcJ:Sp:=λvs H Q _=>∃(tp l j q:AD)(root price:Int)(xs:List V)(ts:List Tri)(qs ps:LI),vs=[.ref tp,.ref j,.ref q,.int price]/\TabAt H tp l root xs ts/\H j=some (.lst (qs.map V.int))/\H q=some (.lst (ps.map V.int))/\ps.length<=1000/\(0<=root/\root<ts.length+2)/\(∀r∈ts,(0<=r.1/\r.1<qs.length)/\(0<=r.2.1/\r.2.1<ts.length+2)/\(0<=r.2.2/\r.2.2<ts.length+2))/\∀H',Same H H'->Q (.bl (JR ts root qs ps price)) H'
theorem scPsh:Gn ["table", "prices", "paper", "price", "root", "nodes", "shown"] ["table", "prices", "paper", "price"] (Gf ZeT):=⟨rfl,rfl,rfl,by decide +kernel,rfl,by decide +kernel,by decide +kernel⟩
theorem Zgw (F:Fun K "paper_shows" "paper_shows" ZeT f fd)(ae:Fun K "is_right" "is_right" Zg2 O B)(af:Binds K B ["shown", "number", "node", "prices"] [])(ag:mg "is_right" = some (.ref O))(ah:GE P w K mg base CX0 1 O B ["shown", "number", "node", "prices"] Zgr)(N:mg "len" = none)(aa:mg "all" = none)(U:mg "enumerate" = none):GE P w K mg base CX0 2 f fd ["table", "prices", "paper", "price"] ZcJ:=by
 refine F.ok scPsh (λvs H Q E h=>?_) (λao A ai s H vs Q E hr h=>?_)
 ·obtain ⟨_,_,_,_,_,_,_,_,_,_,rfl,_⟩:=h
  rfl
 ·obtain ⟨tp,l,pr,pa,root,price,xs,ts,qs,ps,rfl,W,aj,ab,ap,ak,al,q⟩:=h;have aq:=Yav.symm;have Y:=W.t.len;have no:∀H',Same H H'->JR ts root qs ps price=false->Q (.bl false) H':=λH' s z=>by have:=q H' s;rwa [z] at this
  refine ⟨_,Gb (Om (pv 0) (VR K (n:=2) rfl (Gi (gNm 4 scPsh.nd) (Gi (gNm 5 scPsh.nd) GN))))
    (Gb (GX (PW.pt (ZbF (gCm OC (pv 4) Gd) (XH (gCm Ze7 (gB1 (VQ K) N Ybx (pv 2)) (gB1 (VQ K) N Ybx (pv 5)))))) (Gh (Gr JI)) Gp)
    (Gb (gSt 6 scPsh.nd (Gk ZY (GD (Ga Gd (Ga Gd Ge))) (pv 2)))
    (Gb (GX (XI (Vi (gB1 (Ziw K rfl) aa ZbV (Jw (own:=["number", "node"]) rfl (gSc [("prices", 1),("shown", 6)]) (ZfO K rfl U (Ga (pv 5) Ge)) (λ_ _ _ _=>VR K (n:=2) rfl (Gi (gNm 0 (show List.Nodup (["number", "node", "prices", "shown"]:List Str) by decide +kernel)) (Gi (gNm 1 (show List.Nodup (["number", "node", "prices", "shown"]:List Str) by decide +kernel)) GN))) (λ_ _ _ _=>Gy) (λ_ _ _ _=>gCa ah ag ae.kp af Gu (Ga (pv 3) (Ga (pv 0) (Ga (pv 1) (Ga (pv 2) Ge))))))))) (Gh (Gr JI)) Gp)
    (Gh (Gr (gCe OC (gIx (Uy K) (pv 6) (pv 4)) (pv 3))))))),?_⟩
  refine lT5 ?_;intro Z R5 R4 R3 R2;refine ⟨_,rfl,tp,_,rfl,SqT.of W.w,rfl,_,_,rfl,_,_,rfl,rfl,?_⟩;refine ⟨_,rfl,rfl,_,rfl,?_⟩;by_cases c1:root=0
  ·exact O7 (λ_=>Ob (no H (Same.refl _) (by simp [JR,c1]))) (λc=>absurd (Yay (by rw [c1])) c)
  refine O7 (λc=>absurd (V.int.inj (Ybt c)) c1) (λ_=>?_);refine ⟨_,rfl,pa,_,rfl,.inl (SqL.of ab),_,rfl,l,_,rfl,.inl (SqL.of W.l),rfl,_,rfl,?_⟩;by_cases c2:ps.length=ts.length;rotate_left
  ·exact O7 (λ_=>no H (Same.refl _) (by simp [JR,c2])) (λc=>absurd (by
    rw [Yac,Y];have:V.int (ps.length:Int)≠V.int (ts.length:Int):=λz=>c2 (by have:=V.int.inj z;lia);rw [Ybp this]
    rfl) c)
  refine O7 (λc=>absurd c (by rw [Yac,Y,c2];simp)) (λ_=>?_);dsimp only [JJ];refine ⟨Jb,λp hp=>⟨_,rfl,p,pa,_,_,rfl,rfl,Gc,Same.new hp _ _ ab,(by rw [Yac];show 2+ps.length<=_;lia),λsh am=>?_⟩⟩;have s1:Same H (upd H p (.lst [.int 0,.int 0])):=Same.new hp;have s2:=s1.put (o:=.lst ([.int 0,.int 0]++ps.map V.int)) (s1.free am);have es:upd (upd H p (.lst [.int 0,.int 0])) sh (.lst ([.int 0,.int 0]++ps.map V.int)) sh=some (.lst (([0,0]++ps).map V.int)):=Gc;generalize upd (upd H p (.lst [.int 0,.int 0])) sh (.lst ([.int 0,.int 0]++ps.map V.int))=H2 at s2 es ⊢;dsimp only [Gq];have W2:=W.same s2;refine ⟨_,rfl,l,xs,rfl,SqL.of W2.l,λD hD=>?_⟩
  let Pv:CI:=λi ys H'=>∃bs:List Bool,ys=bs.map V.bl/\Same H2 H'/\H' D=some (.lst ys)/\bs=(List.range i).map λj=>Ji ps qs j (ts.getD j (0,0,0))
  refine Zs (K:=K) (a:=l) (xs:=xs) Pv ⟨[],rfl,Same.new hD,Gc,rfl⟩ (by rintro i ys H' _ ⟨_,_,s,_⟩;exact SqL.of (s _ _ W2.l)) ?_ ?_
  ·rintro i x ys H3 T ac ⟨bs,rfl,s3,eD,L⟩ hT;have hi:i<xs.length:=(Yao.mp ac).1;obtain ⟨t,r,ex,et,er⟩:=W2.t.get ac;subst ex;have an:ts.getD i (0,0,0)=r:=by rw [Ybv,er];rfl
   obtain ⟨r1,r2,r3⟩:=al r (Ybf er);have s4:Same H2 (upd H3 T (.tup [.int ((i:Nat)+2),.ref t])):=s3.put (s3.free hT);have ad:upd H3 T (.tup [.int ((i:Nat)+2),.ref t]) D=some (.lst (bs.map V.bl)):=Gm eD (Gg eD hT);refine ⟨T,_,rfl,SqT.of Gc,rfl,_,_,rfl,_,_,rfl,rfl,⟨rfl,rfl,trivial⟩,?_⟩;generalize upd H3 T (.tup [.int ((i:Nat)+2),.ref t])=H4 at s4 ad ⊢;unfold XQ;refine Ob ?_;refine ⟨_,rfl,_,rfl,_,rfl,_,rfl,sh,t,pr,ps,qs,i,r,rfl,s4 _ _ es,s4 _ _ et,s4 _ _ (s2 _ _ aj),by lia,r1,by lia,by lia,?_⟩;have ar:bs.length=i:=by rw [L,Yac,Ydo]
   refine ⟨ad,by rw [Yac];lia,bs++[Ji ps qs i r],by rw [Yas];rfl,s4.put hD,Gc,?_⟩;rw [L,List.range_succ,Yas,<-an]
   rfl
  ·rintro ys H3 ⟨bs,rfl,s3,eD,L⟩;refine ⟨D,bs,rfl,SqL.of eD,_,rfl,?_⟩;have eb:bs.all id=((List.range ts.length).all λi=>Ji ps qs i (ts.getD i (0,0,0))):=by rw [L,Y,List.all_map];rfl
   rw [eb];by_cases c3:((List.range ts.length).all λi=>Ji ps qs i (ts.getD i (0,0,0)))=true
   ·rw [c3];refine OA ?_;dsimp only [JJ];refine ⟨_,rfl,_,rfl,sh,_,_,_,rfl,rfl,SqL.of (s3 _ _ es),YB ak.1 (by lia),_,rfl,rfl,?_⟩;have e:JR ts root qs ps price=decide (V.int (shn ps root)=V.int price):=by
     unfold JR;rw [c3,Ybp c1,Yay c2];by_cases h:shn ps root=price <;> simp [h]
    have:=q H3 (s2.trans s3)
    rwa [e] at this
   ·rw [Bool.not_eq_true] at c3;rw [c3];refine Ob ?_;exact no H3 (s2.trans s3) (by unfold JR;rw [c3,Bool.and_false,Bool.false_and])
noncomputable def Lz (H:Hp)(zs:List (AD×LI)):Prop:=∀z∈zs,H z.1=some (.lst (z.2.map V.int))
theorem Lz.same (h:Lz H zs)(s:Same H H'):Lz H' zs:=λz j=>s _ _ (h z j)
noncomputable def U9 (j:List (LI)):List PyData:=j.map λl=>PyData.list (l.map PyData.int)
theorem Zdw:∀j:List (LI),PyData.canLayAll0 (U9 j)=true
 | []=>by simp [U9,PyData.canLayAll0]
 | l::j=>by
  have ih:=Zdw j;unfold U9 at ih ⊢;rw [Yaq];simp [PyData.canLayAll0,PyData.canLay0,OF l,ih]
theorem YC:∀j:List (LI),PyData.depthAll (U9 j)<=2
 | []=>by simp [U9,PyData.depthAll]
 | l::j=>by
  have ih:=YC j;have:=Jt l;unfold U9 at ih ⊢;rw [Yaq];simp only [PyData.depthAll,PyData.depth]
  lia
theorem W7 (j:List (LI)):SeqAt.shaped (.list (U9 j))=true:=by
 unfold SeqAt.shaped;rw [Ybz];refine ⟨by simp only [PyData.canLay0];exact Zdw j,Yay ?_⟩;have:=YC j;simp only [PyData.depth]
 lia
theorem XC {K:FG}{H:Hp}:∀{zs:List (AD×LI)},Lz H zs->DatVs K H (zs.map λz=>V.ref z.1) (U9 (zs.map (·.2)))
 | [],_=>.nil
 | z::zs,h=>.cons (.lst (SqL.of (h z (by simp))) (GV z.2)) (XC (zs:=zs) λy hy=>h y (by simp [hy]))
theorem Zbp:∀a b:List (LI),PyData.eqvAll (U9 a) (U9 b)=decide (a=b)
 | [],[]=>by simp [U9,PyData.eqvAll]
 | [],_::_=>by simp [U9,PyData.eqvAll]
 | _::_,[]=>by simp [U9,PyData.eqvAll]
 | x::a,y::b=>by
  have ih:=Zbp a b;have h:=OG x y;unfold U9 at ih ⊢;rw [Yaq,Yaq];simp only [PyData.eqvAll,h,ih];by_cases j:x=y <;> by_cases q:a=b <;> simp [j,q]
theorem ZhY (a b:List (LI)):PyData.eqv (.list (U9 a)) (.list (U9 b))=decide (a=b):=by
 simp only [PyData.eqv,Zbp]
structure RS (s:LI):Prop where
 up:s.Pairwise (· < ·)
 rg:∀x∈s,0<=x/\x<30
noncomputable abbrev RF (zs:List (AD×LI)):List V:=zs.map λz=>V.ref z.1
theorem Ws {rs:List Nat}(D:m<=30)(j:rs.Pairwise (· < ·))(lt:∀k∈rs,k<m):RS (rs.map λk:Nat=>(k:Int)):=by
 refine ⟨Ybs.mpr (j.imp λh=>by lia),λx q=>?_⟩;obtain ⟨k,B,rfl⟩:=Yal.mp q;have:=lt k B
 lia
theorem ZcK (q:List (LI)):∀e∈U9 q,SeqAt.shaped e=true:=λe j=>by
 unfold U9 at j;obtain ⟨l,_,rfl⟩:=Yal.mp j;exact JT l
theorem ZeH (j:List (LI))(b:LI):(U9 j).any (λe=>PyData.eqv e (.list (b.map PyData.int)))=decide (b∈j):=by
 unfold U9;rw [List.any_map]
 induction j with
 | nil=>rfl
 | cons l j ih=>
  rw [List.any_cons,ih];show (PyData.eqv (.list (l.map PyData.int)) (.list (b.map PyData.int)) || _)=_;rw [OG];by_cases h1:l=b
  ·simp [h1]
  ·have q:¬ b=l:=λz=>h1 z.symm;simp [h1,q]
structure Drw (H H':Hp)(dl:AD)(zs:List (AD×LI))(n:Nat):Prop where
 s:Same H H'
 fr:H dl=none
 e:H' dl=some (.lst (RF zs))
 lz:Lz H' zs
 nz:∀z∈zs,z.1≠dl/\H z.1=none
 len:zs.length<=n
 rs:∀z∈zs,RS z.2
theorem Drw.new (s:Same H H')(h:H' q=none):Drw H (upd H' q (.lst [])) q [] 0:=⟨s.put (s.free h),s.free h,Gc,(λz j=>by cases j),(λz j=>by cases j),Yaf _,λz j=>by cases j⟩
theorem Drw.grow (d:Drw H N L zs n)(Y:Same N O)(j:N q=none)(U:O q=some (.lst (r.map V.int)))(R:RS r):Drw H (upd O L (.lst (RF zs++[.ref q]))) L (zs++[(q,r)]) (n+1):=by
 have B:q≠L:=λz=>by rw [z,d.e] at j;cases j
 refine ⟨(d.s.trans Y).put d.fr,d.fr,by rw [Gc,RF,RF,Yas];rfl,λz D=>?_,λz D=>?_,by have:=d.len;rw [Yak,Ybc];lia,λz D=>?_⟩
 ·rcases Yaj.mp D with h | h
  ·exact Gm (Y _ _ (d.lz z h)) (d.nz z h).1
  ·rw [Yai.mp h];exact Gm U B
 ·rcases Yaj.mp D with h | h
  ·exact d.nz z h
  ·rw [Yai.mp h];exact ⟨B,d.s.free j⟩
 ·rcases Yaj.mp D with h | h
  ·exact d.rs z h
  ·rw [Yai.mp h];exact R
theorem ZeI (F:Fam)(s:LI):lF (F++[s])=lF F+s.length:=by
 unfold lF;rw [Yas,List.sum_append];simp
theorem ZeJ (h:F.Perm G):lF F=lF G:=(h.map List.length).sum_nat
noncomputable def Zgx (K:FG):Sp:=λvs H Q _=>∃(a:AD)(ns:LI)(st:Nat),vs=[.ref a,.int (st:Int)]/\SqL K H a (ns.map V.int)/\ns.length<=63/\st<=63 /\
 ∀(l:AD)(zs:List (AD×LI))(H':Hp),Same H H'->H l=none->H' l=some (.lst (RF zs))->Lz H' zs->(∀z∈zs,z.1≠l/\H z.1=none)->zs.length<=300->(∀z∈zs,RS z.2)->Lx (zs.map (·.2))->lF (zs.map (·.2))<=240->Q (.ref l) H'
theorem scFmy:Gn ["script", "start", "cell", "width", "k", "drawn", "sets", "room", "one"] ["script", "start"] (Gf ZfX):=⟨rfl,rfl,rfl,by decide +kernel,rfl,by decide +kernel,by decide +kernel⟩
theorem Zgy (F:Fun K "_law_family" "_law_family" ZfX f fd)(FA:Fun K "_law_cell_at" "_law_cell_at" ZeV fA as)(bA:Binds K as ["script", "k"] [])(mA:mg "_law_cell_at" = some (.ref fA))(GA:GE P w K mg base CX0 1 fA as ["script", "k"] (ZcD K))(ah:Fun K "_law_bits" "_law_bits" ZfW aq ac)(ai:Binds K ac ["number", "width"] [])(aj:mg "_law_bits" = some (.ref aq))(ak:GE P w K mg base CX0 1 aq ac ["number", "width"] ZeG)(ay:Fun K "_law_stir" "_law_stir" ZeW ar ad)(az:Binds K ad ["cell", "k"] [])(a1:mg "_law_stir" = some (.ref ar))(a2:GE P w K mg base CX0 1 ar ad ["cell", "k"] ZcI)(L:mg "range" = none)(ae:mg "len" = none)(a3:mg "min" = none)(a4:mg "sorted" = none):GE P w K mg base CX0 2 f fd ["script", "start"] (Zgx K):=by
 refine F.ok scFmy (λvs H Q E h=>?_) (λaB A aC s H vs Q E hr h=>?_)
 ·obtain ⟨_,_,_,rfl,_⟩:=h
  rfl
 ·obtain ⟨a,ns,st,rfl,hS,aJ,aK,q⟩:=h;have aL:=Yav.symm;have hu:=hr.units;have a5:(A.deeper (PyProof.Rows.envOfC "_law_family" (Gf ZfX) s.heap.objs.size f aB)).units+65<cLine:=by have:=hr.un;lia
  refine ⟨_,Gb (gSt 2 scFmy.nd (gCa GA mA FA.kp bA Gu (Ga (pv 0) (Ga Gd Ge))))
    (Gb (gSt 3 scFmy.nd (Gk GP Gd (Gk GS (pv 2) Gd)))
    (Gb (Jx (i:=5) scFmy.nd rfl (Or.inl rfl) (own:=["k"]) rfl (gSc [("cell", 2),("width", 3)]) (JZ rfl L (Ga (Gk JV (Gk GS (Gk Gz (pv 2) Gd) Gd) Gd) Ge)) (λ_ _ _ _=>gNm 0 (show List.Nodup (["k", "cell", "width"]:List Str) by decide +kernel)) (λ_ _ _ _=>Gy) (λ_ _ _ _=>gCa ak aj ah.kp ai Gu (Ga (gCa a2 a1 ay.kp az Gu (Ga (pv 1) (Ga (pv 0) Ge))) (Ga (pv 2) Ge))))
    (Gb (GX (gCm OC (Gk GS (Gk Gz (pv 2) Gd) Gd) Gd) (Gh (Jx (i:=5) scFmy.nd rfl (Or.inl rfl) (own:=["k"]) rfl (gSc [("cell", 2)]) (JZ rfl L (Ga (Gk XM Gd Gd) Ge)) (λ_ _ _ _=>gNm 0 (show List.Nodup (["k", "cell"]:List Str) by decide +kernel)) (λ_ _ _ _=>Gy) (λ_ _ _ _=>gCa ak aj ah.kp ai Gu (Ga (Gk JV (pv 0) (Gk GP Gd (Gk GS (Gk Gz (pv 1) Gd) Gd))) (Ga Gd Ge))))) Gp)
    (Gb (JL Ycu rfl (Wx rfl L (Ga (pv 1) (Ga (G7 (J0 rfl) rfl a3 Od (Ga (gB1 (VQ K) ae Ybx (pv 0)) (Ga Gd Ge))) Ge))) (gNm 4 scFmy.nd)
    (Gh (GX (gCm OC (Gk GS (Gk Gz (pv 2) Gd) Gd) Gd) (Gh (G9 (kBm K Ych Ydb Ydc GB (pv 5) (Ga (gCa ak aj ah.kp ai Gu (Ga (Gk GS (gIx (Uy K) (pv 0) (pv 4)) Gd) (Ga (pv 3) Ge))) Ge)))) (Gh (G9 (kBm K Ych Ydb Ydc GB (pv 5) (Ga (gCa ak aj ah.kp ai Gu (Ga (gCa a2 a1 ay.kp az Gu (Ga (gIx (Uy K) (pv 0) (pv 4)) (Ga (pv 4) Ge))) (Ga (pv 3) Ge))) Ge)))))))
    (Gb (gSt 6 scFmy.nd (GD Ge))
    (Gb (gSt 7 scFmy.nd Gd)
    (Gb (JL Ycu rfl (Ou K (pv 5)) (gNm 8 scFmy.nd)
    (Gh (GX (PW.pt (Zz (gCm Ze8 (gB1 (VQ K) ae Ybx (pv 8)) (pv 7)) (Xe (ZK (ZdT K a5) (pv 8) (pv 6) (by with_unfolding_all rfl))))) (Gb (G9 (kBm K Ych Ydb Ydc GB (pv 6) (Ga (pv 8) Ge)))
    (Gh (gSt 7 scFmy.nd (Gk JU (pv 7) (gB1 (VQ K) ae Ybx (pv 8)))))) Gp)))
    (Gh (Gr (gB1 (Zeg K hu) a4 Yfw (pv 6))))))))))),?_⟩
  refine lT9 ?_;intro Z R9 R8 R7 R6 R5 R4 R3 R2;refine xe rfl ⟨a,ns,0,rfl,hS,λc=>?_⟩;dsimp only [Gq];have w0:0<=c % 30:=Ycj _ (by decide);have w1:c % 30<30:=Yco _ (by decide);obtain ⟨m,hm⟩:∃m:Nat,1+c % 30=(m:Int):=⟨(1+c % 30).toNat,by lia⟩;have af:m<=30:=by lia
  refine xe rfl (xd rfl rfl ⟨(by show (0:Int)<30;decide),xd rfl rfl ?_⟩);dsimp only [Gq];rw [hm];refine Go (λσ' H'=>∃(N:AD)(zs:List (AD×LI)),σ'=[some (.ref a),some (.int (st:Int)),some (.int c),some (.int (m:Int)),none,some (.ref N),none,none,none]/\Drw H H' N zs 128) ?s1 ?f1
  case f1=>
   intro hk;have n0:0<=c / 30 % 4:=Ycj _ (by decide);have n1:c / 30 % 4<4:=Yco _ (by decide);obtain ⟨n,hn⟩:∃n:Nat,c / 30 % 4 * 3=(n:Int):=⟨(c / 30 % 4 * 3).toNat,by lia⟩;refine xe rfl (xd rfl rfl ⟨⟨by decide,GH⟩,xd rfl rfl ⟨(by show (0:Int)<4;decide),xd rfl rfl ⟨.inl ⟨by lia,by lia⟩,xe rfl ⟨by lia,by lia,λD hD=>?_⟩⟩⟩⟩);rw [hn,Ydw]
   let Pv:CI:=λj ys H'=>∃zs:List (AD×LI),ys=RF zs/\Drw H H' D zs j
   refine O8 (lo:=0) (n:=n) Pv ⟨[],rfl,Drw.new (Same.refl _) hD⟩ ?_ ?_
   ·rintro j ys H2 hj ⟨zs,rfl,d⟩;rw [Int.zero_add];refine ⟨by first | exact ⟨rfl,rfl,trivial⟩ | exact ⟨rfl,trivial⟩,?_⟩;unfold XQ;refine Ob ?_;refine ⟨_,rfl,_,rfl,c,j,rfl,by lia,λz z0 z1=>⟨_,rfl,z,m,rfl,by lia,λrl rs H4 Y aa ab pw lt=>?_⟩⟩;exact ⟨Y _ _ d.e,by have:=d.len;rw [RF,Yac];lia,_,by rw [RF,RF,Yas];rfl,d.grow Y aa ab (Ws af pw lt)⟩
   ·rintro ys H2 ⟨zs,rfl,d⟩;exact hk _ _ ⟨D,zs,rfl,d.s,d.fr,d.e,d.lz,d.nz,by have:=d.len;lia,d.rs⟩
  rintro σ' H1 ⟨aD,au,rfl,d1⟩;refine Go (λσ' H'=>∃(N:AD)(zs:List (AD×LI)),σ'=[some (.ref a),some (.int (st:Int)),some (.int c),some (.int (m:Int)),none,some (.ref N),none,none,none]/\Drw H H' N zs 128) ?s2 ?f2
  case f2=>
   intro hk;refine xe rfl (xd rfl rfl ⟨⟨by decide,GH⟩,xd rfl rfl ⟨(by show (0:Int)<8;decide),rfl,xe rfl (O7 (λ_=>?_) (λ_=>hk _ _ ⟨aD,au,rfl,d1⟩))⟩⟩);refine xd rfl rfl ⟨⟨by decide,by decide,by decide⟩,xe rfl ⟨(by decide),(by decide),λD hD=>?_⟩⟩;have e7:((2:Int) ^ (7:Int).toNat).toNat=128:=by decide
   rw [e7];have n0:0<=c / 960 % 3:=Ycj _ (by decide);have n1:c / 960 % 3<3:=Yco _ (by decide)
   let Pv:CI:=λj ys H'=>∃zs:List (AD×LI),ys=RF zs/\Drw H H' D zs j
   refine O8 (lo:=0) (n:=128) Pv ⟨[],rfl,Drw.new d1.s hD⟩ ?_ ?_
   ·rintro j ys H2 hj ⟨zs,rfl,d⟩;rw [Int.zero_add];refine ⟨by first | exact ⟨rfl,rfl,trivial⟩ | exact ⟨rfl,trivial⟩,?_⟩;unfold XQ;refine Ob ?_;refine xe rfl (xe rfl (xd rfl rfl ⟨⟨by decide,GH⟩,xd rfl rfl ⟨(by show (0:Int)<3;decide),xd rfl rfl (xd rfl rfl ⟨.inl ⟨by lia,by lia⟩,_,9,rfl,by lia,λrl rs H4 Y aa ab pw lt=>?_⟩)⟩⟩));exact ⟨Y _ _ d.e,by have:=d.len;rw [RF,Yac];lia,_,by rw [RF,RF,Yas];rfl,d.grow Y aa ab (Ws (by lia) pw lt)⟩
   ·rintro ys H2 ⟨zs,rfl,d⟩;exact hk _ _ ⟨D,zs,rfl,d⟩
  clear d1;rintro σ' H1 ⟨N,au,rfl,d1⟩;refine Go (λσ' H'=>∃(zs:List (AD×LI))(v4:Option V),σ'=[some (.ref a),some (.int (st:Int)),some (.int c),some (.int (m:Int)),v4,some (.ref N),none,none,none]/\Drw H H' N zs 200) ?s3 ?f3
  case f3=>
   intro hk;have aE:=d1.s.seq hS;refine xe rfl (xe rfl ⟨a,xe rfl ⟨.inl aE,_,xe rfl ⟨_,xe rfl ⟨⟨by lia,by lia,?_,?_⟩,?_⟩⟩⟩⟩)
   ·rw [Yac];split <;> lia
   ·rw [Yac];split <;> lia
   rw [Yac];obtain ⟨n,hn⟩:∃n:Nat,((if (200:Int)<(ns.length:Int) then 200 else (ns.length:Int))-(st:Int)).toNat=n:=⟨_,rfl⟩;have aI:n<=63/\(0<n->st+n<=ns.length):=by
    rw [if_neg (by lia)] at hn
    lia
   rw [hn]
   let Pv:FI:=λi σ H'=>∃(zs:List (AD×LI))(v4:Option V),σ=[some (.ref a),some (.int (st:Int)),some (.int c),some (.int (m:Int)),v4,some (.ref N),none,none,none]/\Drw H H' N zs (128+i)
   refine OB (lo:=(st:Int)) (n:=n) Pv ⟨au,none,rfl,d1⟩ ?_ ?_
   ·rintro i σ H2 hi ⟨zs,v4,rfl,d⟩;dsimp only [Gq];have a6:=d.s.seq hS;have a7:atI (ns.map V.int) ((st:Int)+(i:Int))=some (.int (ns.getD (st+i) 0)):=by
     have:=U6 (ns:=ns) (i:=(st:Int)+(i:Int)) (by lia) (by lia)
     rwa [show ((st:Int)+(i:Int)).toNat=st+i by lia] at this
    have a8:=d.len;refine xe rfl (xd rfl rfl ⟨⟨by decide,GH⟩,xd rfl rfl ⟨(by show (0:Int)<2;decide),rfl,xe rfl (O7 (λ_=>?_) (λ_=>?_))⟩⟩)
    ·refine xe rfl ⟨.inl ⟨rfl,_,SqL.of d.e⟩,xe rfl (xe rfl ⟨a,_,xd rfl rfl ⟨a6,a7,xd rfl rfl ⟨(by show (0:Int)<1073741824;decide),xe rfl ⟨_,m,rfl,by lia,λrl rs H4 Y aa ab pw lt=>?_⟩⟩⟩⟩)⟩;refine ⟨N,xd rfl rfl ⟨Y _ _ d.e,by rw [RF,Yac];lia,?_⟩⟩;exact ⟨_,xe rfl (d.grow Y aa ab (Ws af pw lt))⟩
    ·refine ⟨_,rfl,.inl ⟨rfl,_,SqL.of d.e⟩,_,rfl,_,rfl,a,_,_,_,rfl,rfl,a6,a7,_,rfl,_,st+i,rfl,by lia,λz z0 z1=>⟨_,rfl,z,m,rfl,by lia,λrl rs H4 Y aa ab pw lt=>?_⟩⟩;refine ⟨N,xd rfl rfl ⟨Y _ _ d.e,by rw [RF,Yac];lia,?_⟩⟩;exact ⟨_,xe rfl (d.grow Y aa ab (Ws af pw lt))⟩
   ·rintro σ H2 ⟨zs,v4,rfl,d⟩;exact hk _ _ ⟨zs,v4,rfl,d.s,d.fr,d.e,d.lz,d.nz,by have:=d.len;lia,d.rs⟩
  clear d1;rintro σ' H1 ⟨zs,v4,rfl,d⟩;have a8:=d.len;refine ⟨Yat _,λO al=>?_⟩;have s1:Same H1 (upd H1 O (.lst [])):=Same.new al;have es:upd H1 O (.lst []) O=some (.lst (RF [])):=Gc;have ed:=s1 _ _ d.e;have am:=d.lz.same s1;have aF:N≠O:=Gg d.e al;have an:∀z∈zs,z.1≠O:=λz U=>Gg (d.lz z U) al;have a9:H O=none:=d.s.free al;generalize upd H1 O (.lst [])=H2 at s1 es ed am ⊢;have S2:=d.s.trans s1;dsimp only [Gq];refine Go (λσ' H'=>σ'=[some (.ref a),some (.int (st:Int)),some (.int c),some (.int (m:Int)),v4,some (.ref N),some (.ref O),some (.int 240),none]/\H2=H') ?Y ?f4
  case f4=>exact λhk=>hk _ _ ⟨rfl,rfl⟩
  rintro σ' H' ⟨rfl,rfl⟩;refine Go (λσ' H'=>∃(B:List (AD×LI))(r:Int)(v8:Option V),σ'=[some (.ref a),some (.int (st:Int)),some (.int c),some (.int (m:Int)),v4,some (.ref N),some (.ref O),some (.int r),v8]/\(∀b o,b≠O->H2 b=some o->H' b=some o)/\H' O=some (.lst (RF B))/\(∀z∈B,z∈zs)/\(B.map (·.2)).Nodup/\(lF (B.map (·.2)):Int)+r=240/\0<=r/\B.length<=200) ?s5 ?f5
  case f5=>
   intro hk;refine xe rfl ⟨N,rfl,⟨_,SqL.of ed⟩,?_⟩
   let Pv:FI:=λi σ H'=>∃(B:List (AD×LI))(r:Int)(v8:Option V),σ=[some (.ref a),some (.int (st:Int)),some (.int c),some (.int (m:Int)),v4,some (.ref N),some (.ref O),some (.int r),v8]/\(∀b o,b≠O->H2 b=some o->H' b=some o)/\H' O=some (.lst (RF B))/\(∀z∈B,z∈zs)/\(B.map (·.2)).Nodup/\(lF (B.map (·.2)):Int)+r=240/\0<=r/\B.length<=i
   refine J9 (K:=K) (a:=N) (xs:=RF zs) Pv
    ⟨[],240,none,rfl,λ_ _ _ e=>e,es,(λz U=>by cases U),Yee,rfl,by decide,Yaf _⟩ (by rintro i σ H' _ ⟨_,_,_,_,k,_⟩;exact SqL.of (k _ _ aF ed)) ?_ ?_
   ·rintro i x σ H3 aA ⟨B,r,v8,rfl,k3,e3,sub,nd,ag,r0,av⟩;rw [RF,Yaz] at aA;obtain ⟨z,U,rfl⟩:=Ybw.mp aA;have ao:=Ybf U;have hi:i<zs.length:=(Yao.mp U).1;have ez:=k3 _ _ (an z ao) (am z ao);have lw:Lz H3 B:=λu hu=>k3 _ _ (an u (sub u hu)) (am u (sub u hu));dsimp only [Gq];refine xe rfl ⟨z.1,xe rfl ⟨.inl (SqL.of ez),xe rfl (xd rfl rfl (xe rfl ?_))⟩⟩;by_cases c1:(z.2.length:Int)<=r;rotate_left
    ·refine O7 (λcc=>absurd (Ybt cc) (by rw [Yac];exact c1)) (λ_=>OA ?_);exact ⟨B,r,xe rfl ⟨k3,e3,sub,nd,ag,r0,by lia⟩⟩
    refine O7 (λ_=>?_) (λcc=>absurd (Yay (by rw [Yac];exact c1)) cc);refine xe rfl (xe rfl ⟨O,_,.list (z.2.map PyData.int),U9 (B.map (·.2)),rfl,.inl (SqL.of e3),.lst (SqL.of ez) (GV _),XC lw,JT _,ZcK _,xe rfl ?_⟩);rw [ZeH];refine O7 (λc2=>?_) (λ_=>⟨B,r,_,rfl,k3,e3,sub,nd,ag,r0,by lia⟩);have c2:z.2 ∉ B.map (·.2):=λaG=>by rw [Yay aG] at c2;cases c2
    refine xe rfl ⟨.inl ⟨rfl,_,SqL.of e3⟩,xe rfl ⟨O,xd rfl rfl ⟨e3,by rw [RF,Yac];lia,?_⟩⟩⟩;dsimp only [JJ];have aH:upd H3 O (.lst (RF B++[.ref z.1])) z.1=some (.lst (z.2.map V.int)):=Gm ez (an z ao);refine xe rfl (xe rfl ⟨z.1,xe rfl ⟨.inl (SqL.of aH),xd rfl rfl ?_⟩⟩);rw [Yac];refine ⟨B++[z],_,xe rfl ⟨λb o hb e=>Gm (k3 b o hb e) hb,by rw [Gc,RF,RF,Yas];rfl,λu hu=>?_,?_,?_,by lia,by rw [Yak,Ybc];lia⟩⟩
    ·rcases Yaj.mp hu with h | h
     ·exact sub u h
     ·rw [Yai.mp h];exact ao
    ·rw [Yas];refine Ycl.mpr ⟨nd,by simp,λp hp q hq=>?_⟩;rw [show q=z.2 by simpa using hq];exact λe=>c2 (e▸hp)
    ·rw [Yas];show (lF (B.map (·.2)++[z.2]):Int)+(r-(z.2.length:Int))=240;rw [ZeI]
     lia
   ·rintro σ H3 ⟨B,r,v8,rfl,k3,e3,sub,nd,ag,r0,av⟩;rw [RF,Yac] at av;exact hk _ _ ⟨B,r,v8,rfl,k3,e3,sub,nd,ag,r0,by lia⟩
  rintro σ' H3 ⟨B,r,v8,rfl,k3,e3,sub,nd,ag,r0,av⟩;have lw:Lz H3 B:=λu hu=>k3 _ _ (an u (sub u hu)) (am u (sub u hu));have S3:Same H H3:=λb o e=>k3 b o (Gg e a9) (S2 b o e);refine xe rfl ⟨O,B,rfl,SqL.of e3,λz U=>SqL.of (lw z U),λl2 aw ax pm so=>?_⟩;have Y:Same H3 (upd H3 l2 (.lst (RF aw))):=Same.new ax;have ap:∀z∈aw,z∈B:=λz U=>pm.mem_iff.mp U;have lp:=ZeJ (pm.map (·.2));refine q l2 aw _ (S3.trans Y) (S3.free ax) Gc (λz U=>Y _ _ (lw z (ap z U))) (λz U=>⟨Gg (lw z (ap z U)) ax,(d.nz z (sub z (ap z U))).2⟩) (by rw [pm.length_eq];lia) (λz U=>d.rs z (sub z (ap z U))) (VG ((pm.map (·.2)).nodup_iff.mpr nd) so) ?_;rw [lp]
  lia
inductive Sts (ts:List Tri):Int->List (LI)->Prop
 | zero:Sts ts 0 []
 | one:Sts ts 1 [[]]
 | node {c:Int} {r:Tri} {A B:List (LI)}:Nd ts c r->Sts ts r.2.1 A->Sts ts r.2.2 B->Sts ts c (A++B.map (r.1::·))
theorem Sts.ex {ts:List Tri}(T:TabOk ts):∀(m:Nat){c lo:Int},At ts c lo->30-lo<=(m:Int)->∃L,Sts ts c L
 | 0,c,lo,a,hm=>by
  rcases a with rfl | rfl | ⟨r,n,g⟩
  ·exact ⟨_,.zero⟩
  ·exact ⟨_,.one⟩
  ·have:=(T.nd n).1
   lia
 | m+1,c,lo,a,hm=>by
  rcases a with rfl | rfl | ⟨r,n,g⟩
  ·exact ⟨_,.zero⟩
  ·exact ⟨_,.one⟩
  ·obtain ⟨A,j⟩:=Sts.ex T m (T.nd n).2.1 (by lia);obtain ⟨B,q⟩:=Sts.ex T m (T.nd n).2.2 (by lia);exact ⟨_,.node n j q⟩
theorem Sts.of (T:TabOk ts)(a:At ts c lo):∃L,Sts ts c L:=Sts.ex T (30-lo).toNat a (by lia)
theorem Sts.has (h:Sts ts c L):∀s,s∈L↔Has ts c s:=by
 induction h with
 | zero=>exact λs=>⟨λh=>(by cases h),λh=>absurd h Has.zero⟩
 | one=>exact λs=>by rw [Has.at1];simp
 | @node c r A B n hA hB iA iB=>
  intro s;rw [Yaj,Yal];cases s with
  | nil=>
   rw [Has.nil n,<-iA];exact ⟨λh=>h.elim id λ⟨_,_,e⟩=>(by cases e),.inl⟩
  | cons x s=>
   rw [Has.cons n,<-iA,<-iB];constructor
   ·rintro (h | ⟨y,j,e⟩)
    ·exact .inl h
    ·cases e;exact .inr ⟨rfl,j⟩
   ·rintro (h | ⟨rfl,h⟩)
    ·exact .inl h
    ·exact .inr ⟨s,h,rfl⟩
theorem Sts.short (T:TabOk ts)(h:Sts ts c L):∀{lo:Int},At ts c lo->lo<30->∀s∈L,(s.length:Int)<=29-lo:=by
 induction h with
 | zero=>exact λ_ _ s j=>by cases j
 | one=>
  intro lo _ D s j;rw [Yai.mp j];show (0:Int)<=29-lo
  lia
 | @node c r A B n hA hB iA iB=>
  intro lo a D s j;obtain ⟨r',N,g⟩:=a.nd (by have:=n.1;lia);cases n.one N;have q:=(T.nd n).1;rcases Yaj.mp j with h | h
  ·have:=iA (T.nd n).2.1 q.2 s h
   lia
  ·obtain ⟨y,O,rfl⟩:=Yal.mp h;have:=iB (T.nd n).2.2 q.2 y O;rw [Ybm]
   push_cast
   lia
theorem Has.short (T:TabOk ts)(a:At ts c (-1))(h:Has ts c s):s.length<=30:=by
 obtain ⟨L,j⟩:=Sts.of T a;have:=j.short T a (by decide) s ((j.has s).mpr h)
 lia
structure Fall (ts:List Tri)(os:LI):Prop where
 al:∀c r,Nd ts c r->c∈os
 nd:∀c∈os,∃r,Nd ts c r
 so:os.Pairwise λc d=>∀r q,Nd ts c r->Nd ts d q->q.1<=r.1
 ln:os.length<=ts.length
theorem Fall.before (F:Fall ts B)(hi:B[i]?=some c)(n:Nd ts c r)(D:Nd ts c' r')(g:r.1<r'.1):c'∈B.take i:=by
 obtain ⟨L,e⟩:=Yao.mp hi;obtain ⟨j,N,q⟩:=Yck (F.al c' r' D);rcases Yfg j i with h | h | h
 ·exact List.mem_take_iff_getElem.mpr ⟨j,by lia,q⟩
 ·subst h;rw [e] at q;subst q;rw [n.one D] at g
  lia
 ·have:=Yef.mp F.so i j L N h r r' (e▸n) (q▸D)
  lia
theorem Fall.len (F:Fall ts j){i:Nat}(hi:j[i]?=some c):∃r,Nd ts c r:=F.nd c (Ybf hi)
theorem fall_of {ps:List (Int×Int)}(pm:ps.Perm ((ts.map (·.1)).zip (upI 2 ts.length)))(U:ps.Pairwise λp q=>q.1<=p.1):Fall ts (ps.map Prod.snd):=by
 have B:∀p,p∈(ts.map (·.1)).zip (upI 2 ts.length)↔∃r,Nd ts p.2 r/\r.1=p.1:=by
  intro p;constructor
  ·intro h;obtain ⟨i,hi⟩:=Yfm.mp h;obtain ⟨h1,h2⟩:=List.getElem?_zip_eq_some.mp hi;rw [Yaz] at h1;cases ht:ts[i]? with
   | none=>rw [ht] at h1;cases h1
   | some r=>
    rw [ht] at h1;injection h1 with h1
    have j:i<ts.length:=(Yao.mp ht).1;have D:p.2=2+(i:Int):=by
     unfold upI at h2;simp [j] at h2
     lia
    refine ⟨r,⟨by lia,?_⟩,h1⟩;rw [D,show (2+(i:Int)-2).toNat=i by lia];exact ht
  ·rintro ⟨r,n,e⟩;have j:(p.2-2).toNat<ts.length:=(Yao.mp n.2).1;have O:=n.1;refine Yfm.mpr ⟨(p.2-2).toNat,List.getElem?_zip_eq_some.mpr ⟨?_,?_⟩⟩
   ·rw [Yaz,n.2];exact Ybh some e
   ·unfold upI;simp [j]
    lia
 refine ⟨λc r n=>?_,λc Y=>?_,?_,by rw [Yac,pm.length_eq,List.length_zip,Yac];lia⟩
 ·exact Yal.mpr ⟨(r.1,c),pm.mem_iff.mpr ((B _).mpr ⟨r,n,rfl⟩),rfl⟩
 ·obtain ⟨p,L,rfl⟩:=Yal.mp Y;obtain ⟨r,n,_⟩:=(B p).mp (pm.mem_iff.mp L);exact ⟨r,n⟩
 ·rw [Ybs];refine U.imp_of_mem λ{p q} L Z N r r' n n'=>?_;obtain ⟨r1,O,e1⟩:=(B p).mp (pm.mem_iff.mp L);obtain ⟨r2,n2,D⟩:=(B q).mp (pm.mem_iff.mp Z);rw [n.one O,n'.one n2,e1,D];exact N
noncomputable def lq:Str:=Str.ofString "from_below.<locals>.<lambda>"
noncomputable abbrev LS (tb:AD)(H:Hp):Prop:=LamSt tb 24 48 lq H
theorem W8 {H:Hp}:∀{xs:List V}{ts:List Tri},Trs H xs ts->∃us:List (AD×Int×List V),xs=us.map (λu=>V.ref u.1)/\us.map (·.2.1)=ts.map (·.1)/\us.length=ts.length/\∀u∈us,H u.1=some (.tup (V.int u.2.1::u.2.2))
 | _,_,.nil=>⟨[],rfl,rfl,rfl,λu j=>by cases j⟩
 | _,_,.cons (p:=p) (a:=a) (b:=b) (c:=c) e r=>by
  obtain ⟨us,h1,h2,h3,h4⟩:=W8 r;refine ⟨(p,a,[.int b,.int c])::us,by rw [h1];rfl,by simp [h2],by simp [h3],λu j=>?_⟩;rcases Yam.mp j with rfl | j
  ·exact e
  ·exact h4 u j
noncomputable def Zgz (tb:AD):Sp:=λvs H Q _=>∃(l:AD)(xs:List V)(ts:List Tri),vs=[.ref l]/\H l=some (.lst xs)/\Trs H xs ts/\ts.length<=900/\LS tb H /\
 ∀(a:AD)(os:LI)(H':Hp),SameL tb H H'->LS tb H'->H a=none->H' a=some (.lst (os.map V.int))->Fall ts os->Q (.ref a) H'
theorem ZhZ:Gn ["nodes"] ["nodes"] (Gf Zg3):=⟨rfl,rfl,rfl,by decide +kernel,rfl,by decide +kernel,by decide +kernel⟩
theorem ZgA (F:Fun K "from_below" "from_below" Zg3 f fd)(hc:fd.code=.ref c)(hC:W.CodeHd base c tb)(ad:base.BuiltinsAt mg tb)(L:mg "sorted" = none)(B:mg "range" = none)(N:mg "len" = none) :
  GE P w K mg base CX0 1 f fd ["nodes"] (Zgz tb):=by
 refine F.okC hc ZhZ (λvs H Q E h=>?_) (λA ae s H vs Q E hr h=>?_)
 ·obtain ⟨_,_,_,rfl,_⟩:=h
  rfl
 ·obtain ⟨l,xs,ts,rfl,el,tr,ao,st,q⟩:=h;have ap:=Yav.symm;have jJ:=hr.depth;refine ⟨_,Gh (Gr (VC (ZaN (K:=K) (j:=0) (x:=Str.ofString "number") (y:=Str.ofString "nodes") (cc:=s.heap.objs.size+1) (qual:=Str.ofString "from_below.<locals>.<lambda>") (params:={ posonlyargs:=[],args:=[{ arg := "number", annotation:=none,pos:=⟨24,55,24,61⟩:PySem.Arg }],vararg:=none,kwonlyargs:=[],kw_defaults:=[],kwarg:=none,defaults:=[]:PySem.Arguments }) (pm:=(mg "__name__").getD .none) (scope:={ kind:=PySem.ScopeKind.function,names:=[(PySem.Str.ofString "number", PySem.NameKind.local),(PySem.Str.ofString "nodes", PySem.NameKind.free)],isGenerator:=false,isCoroutine:=false,more:=[]:PySem.Scope }) (p1:=⟨24,63,24,68⟩) (p2:=⟨24,69,24,75⟩) (p3:=⟨24,78,24,79⟩) (p4:=⟨24,69,24,79⟩) (p5:=⟨24,63,24,80⟩) (p6:=⟨24,81,24,82⟩) (p7:=⟨24,63,24,83⟩) (d1:=0) (d2:=0) rfl rfl jJ rfl (Or.inr (Or.inl rfl)) rfl rfl rfl rfl rfl (λ_ _ _=>rfl) rfl rfl (by decide +kernel) (by decide) (by decide) (by decide)) rfl L Yfw (Ga (Zd6 rfl B (Ga Gd (Ga (Gk GP (gB1 (VQ K) N Ybx (pv 0)) Gd) Ge))) Ge) (VM (Zdj (qual:=Str.ofString "from_below.<locals>.<lambda>") (clos:=[(Str.ofString "nodes", s.heap.objs.size+1)]) rfl rfl hC ad rfl) (VM JI Zc5)))),?_⟩;have af:=tr.len;refine xe rfl ⟨l,xs,rfl,.inl (SqL.of el),xd rfl rfl ⟨_,xe rfl (λr0 ag=>?_)⟩⟩;obtain ⟨H1,q_,O,D⟩:=nwU (o:=.rng 2 ((xs.length:Int)+2)) ag;rw [q_];have U:LS tb H1:=st.same O;obtain ⟨ps,eP⟩:=U.tbl;obtain ⟨us,ah,ai,aq,aj⟩:=W8 (tr.same O);refine ⟨U,λfl c' ak H2 Y on ar al=>?_⟩;have am:H2 r0=some (.rng 2 ((xs.length:Int)+2)):=Y r0 _ (λz=>by rw [z,eP] at D;cases D) D;obtain ⟨Z,oc,aa,ab⟩:=on;refine ⟨r0,fl,c',l,oc,ak,xs.length,us,rfl,rfl,am,by lia,al,aa,ab,rfl,SqL.of (by rw [<-ah];exact Y.lst eP (O _ _ el)),by lia,λu hu=>SqT.of (Y.tup eP (aj u hu)),λa os ha pm so=>?_⟩;have an:LS tb H2:=.inr ⟨c',Z,oc,aa,ab⟩;rw [ai,af] at pm;have ac:H1 a=none:=Y.free eP ⟨_,Z⟩ ha;exact q a _ _ ((SameL.of O).trans (Y.put ac)) (an.same (Same.new ha)) (O.free ac) Gc (fall_of pm so)
end
theorem LamSt.keep (h:LamSt P j col qual H)(k:∀b o,b≠d->H b=some o->H' b=some o)(q:H d=some (.dK B)):LamSt P j col qual H':=by
 rcases h with h | ⟨c,h1,D,h2,L⟩
 ·exact .inl (k _ _ (λz=>by rw [z,q] at h;cases h) h)
 ·exact .inr ⟨c,k _ _ (λz=>by rw [z,q] at h1;cases h1) h1,D,k _ _ (λz=>by rw [z,q] at h2;cases h2) h2,L⟩
noncomputable def cst (qs:LI)(s:LI):Int:=(s.map λr=>qs.getD r.toNat 0).sum
theorem Jq (qs:LI)(r:Int)(s:LI):cst qs (r::s)=cst qs s+qs.getD r.toNat 0:=by
 unfold cst;rw [Yaq,List.sum_cons,Int.add_comm]
noncomputable abbrev PS:=Int×LI
noncomputable abbrev StP (l:List PS):Prop:=l.Pairwise λa b=>JQ a b=true
structure Best (qs:LI)(S:LI->Prop)(k:Nat)(l:List PS):Prop where
 so:StP l
 of:∀x∈l,S x.2/\x.1=cst qs x.2
 le:l.length<=k
 all:∀s,S s->(cst qs s,s)∈l\/(l.length=k/\∀x∈l,JQ x (cst qs s,s)=true)
theorem StP.nd (h:StP l):l.Nodup:=h.imp λ{a b} z e=>by rw [e,Ox] at z;cases z
theorem Zbq (h:JQ a b=true)(h':JQ b a=true):False:=by
 have:=Za6 h h';rw [Ox] at this;cases this
theorem YD:∀{F G:List PS},StP F->StP G->(∀s,s∈F↔s∈G)->F=G
 | [],[],_,_,_=>rfl
 | [],b::G,_,_,h=>absurd ((h b).mpr (Ybg ..)) (by simp)
 | a::F,[],_,_,h=>absurd ((h a).mp (Ybg ..)) (by simp)
 | a::F,b::G,hF,hG,h=>by
  obtain ⟨f1,f2⟩:=Ydy.mp hF;obtain ⟨B,D⟩:=Ydy.mp hG;have e:a=b:=by
   rcases Yam.mp ((h a).mp (Ybg ..)) with e | e
   ·exact e
   ·rcases Yam.mp ((h b).mpr (Ybg ..)) with q | q
    ·exact q.symm
    ·exact (Zbq (B a e) (f1 b q)).elim
  subst e;rw [YD f2 D λs=>?_];have L:s∈F->s≠a:=λj z=>by have:=f1 s j;rw [z,Ox] at this;cases this
  have N:s∈G->s≠a:=λj z=>by have:=B s j;rw [z,Ox] at this;cases this
  exact ⟨λj=>(Yam.mp ((h s).mp (Ybe _ j))).resolve_left (L j),λj=>(Yam.mp ((h s).mpr (Ybe _ j))).resolve_left (N j)⟩
section
variable {qs:LI}{S:LI->Prop}{k:Nat}{l l':List PS}
theorem Best.sub (B:Best qs S k l)(D:Best qs S k l'):∀x∈l,x∈l':=λx L=>by
 obtain ⟨U,Y⟩:=B.of x L;have ex:(cst qs x.2,x.2)=x:=Prod.ext Y.symm rfl;rcases D.all _ U with h | ⟨hl,ha⟩
 ·rwa [ex] at h
 ·rw [ex] at ha;have sub:∀y∈l',y∈l:=λy j=>by
   obtain ⟨Z,hd⟩:=D.of y j;have N:(cst qs y.2,y.2)=y:=Prod.ext hd.symm rfl;rcases B.all _ Z with h | ⟨_,O⟩
   ·rwa [N] at h
   ·rw [N] at O;exact (Zbq (O x L) (ha y j)).elim
  by_cases q:x∈l'
  ·exact q
  ·have:=Ycp (l₁:=x::l') (l₂:=l) (List.nodup_cons.mpr ⟨q,D.so.nd⟩) λy j=>by
    rcases Yam.mp j with rfl | j
    ·exact L
    ·exact sub y j
   have:=B.le;rw [Ybm] at *
   lia
theorem Best.one (B:Best qs S k l)(j:Best qs S k l'):l=l':=YD B.so j.so λs=>⟨B.sub j s,j.sub B s⟩
theorem Zbr (h:JQ a b=false)(j:a≠b):JQ b a=true:=by
 cases e:JQ b a with
 | true=>rfl
 | false=>exact absurd (Xz h e) j
theorem Zbs {L A:List PS}(U:StP L)(sub:∀a∈A,a∈L)(nd:A.Nodup)(hk:k<=A.length)(O:∀a∈A,JQ a x=true):∀y∈L.take k,JQ y x=true:=λy Y=>by
 obtain ⟨i,hi,rfl⟩:=List.mem_take_iff_getElem.mp Y;cases e:JQ L[i] x with
 | true=>rfl
 | false=>
  exfalso;have B:∀a∈A,a∈L.take i:=λa ha=>by
   have q:JQ a L[i]=true:=by
    cases e2:JQ a L[i] with
    | true=>rfl
    | false=>
     exfalso;by_cases D:a=L[i]
     ·rw [<-D,O a ha] at e;cases e
     ·have:=Za6 (Zbr e2 D) (O a ha);rw [this] at e;cases e
   obtain ⟨j,Z,N⟩:=Yck (sub a ha);have aa:j<i:=by
    rcases Yfg j i with h | h | h
    ·exact h
    ·subst h;rw [N,Ox] at q;cases q
    ·have:=Yef.mp U i j (by lia) Z h;rw [N] at this;exact (Zbq this q).elim
   exact List.mem_take_iff_getElem.mpr ⟨j,by lia,N⟩
  have:=Ycp nd B;rw [Ybo] at this
  lia
theorem Zbt (q:StP L)(B:x∈L):x∈L.take k\/((L.take k).length=k/\∀y∈L.take k,JQ y x=true):=by
 obtain ⟨j,D,rfl⟩:=Yck B;by_cases h:j<k
 ·exact .inl (List.mem_take_iff_getElem.mpr ⟨j,by lia,rfl⟩)
 ·refine .inr ⟨by rw [Ybo];lia,λy N=>?_⟩;obtain ⟨i,hi,rfl⟩:=List.mem_take_iff_getElem.mp N;exact Yef.mp q i j (by lia) D (by lia)
theorem ZgB (nd:L.Nodup)(j:L.Pairwise λa b=>JQ b a=false):StP L:=by
 refine (List.Pairwise.and nd j).imp λ{a b} ⟨h1,h2⟩=>?_;cases h:JQ a b with
 | true=>rfl
 | false=>exact absurd (Xz h h2) h1
noncomputable def XD (qs:LI)(r:Int)(x:PS):PS:=(x.1+qs.getD r.toNat 0,r::x.2)
theorem Zdx (r:Int):JQ (XD qs r x) (XD qs r y)=JQ x y:=by
 have j:decide (x.1+qs.getD r.toNat 0<y.1+qs.getD r.toNat 0)=decide (x.1<y.1):=decide_eq_decide.mpr (by lia);have q:decide (x.1+qs.getD r.toNat 0=y.1+qs.getD r.toNat 0)=decide (x.1=y.1):=decide_eq_decide.mpr (by lia);simp only [JQ,XD,j,q];simp [GL]
theorem Best.node {Z S1:LI->Prop}{r:Int}{O q L:List PS}(hS:∀s,S s↔Z s\/∃t,s=r::t/\S1 t)(aa:∀s t,Z s->s≠r::t)(j:Best qs Z k O)(U:Best qs S1 k q)(pm:L.Perm (O++q.map (XD qs r)))(so:L.Pairwise λa b=>JQ b a=false):Best qs S k (L.take k):=by
 have B:StP (q.map (XD qs r)):=by
  rw [StP,Ybs];exact U.so.imp λ{a b} h=>by rw [Zdx];exact h
 have nd:(O++q.map (XD qs r)).Nodup:=Ycl.mpr ⟨j.so.nd,B.nd,λa ha b hb e=>by
  obtain ⟨y,_,rfl⟩:=Yal.mp hb;exact aa a.2 y.2 (j.of a ha).1 (by rw [e];rfl)⟩
 have D:StP L:=ZgB (pm.nodup_iff.mpr nd) so;have i0:∀x∈O,x∈L:=λx N=>pm.mem_iff.mpr (Ydr _ N);have i1:∀x∈q.map (XD qs r),x∈L:=λx N=>pm.mem_iff.mpr (Yby _ N);have qV:=pm.length_eq;rw [Yak,Yac] at qV;refine ⟨D.sublist (List.take_sublist ..),λx N=>?_,by rw [Ybo];lia,λs hs=>?_⟩
 ·rcases Yaj.mp (pm.mem_iff.mp (Yfu N)) with h | h
  ·exact ⟨(hS _).mpr (.inl (j.of x h).1),(j.of x h).2⟩
  ·obtain ⟨y,Y,rfl⟩:=Yal.mp h;refine ⟨(hS _).mpr (.inr ⟨y.2,rfl,(U.of y Y).1⟩),?_⟩;show y.1+qs.getD r.toNat 0=cst qs (r::y.2);rw [Jq,(U.of y Y).2]
 ·rcases (hS s).mp hs with h | ⟨t,rfl,h⟩
  ·rcases j.all s h with h | ⟨h1,h2⟩
   ·exact Zbt D (i0 _ h)
   ·exact .inr ⟨by rw [Ybo];lia,Zbs D i0 j.so.nd (by lia) h2⟩
  ·have e:(cst qs (r::t),r::t)=XD qs r (cst qs t,t):=by rw [Jq];rfl
   rw [e];rcases U.all t h with h | ⟨h1,h2⟩
   ·exact Zbt D (i1 _ (Yal.mpr ⟨_,h,rfl⟩))
   ·refine .inr ⟨by rw [Ybo];lia,Zbs D i1 B.nd (by rw [Yac];lia) λa ha=>?_⟩;obtain ⟨y,Y,rfl⟩:=Yal.mp ha;rw [Zdx];exact h2 y Y
end
noncomputable abbrev RP (zs:List PL):List V:=zs.map λz=>V.ref z.1
noncomputable abbrev vP (zs:List PL):List PS:=zs.map (·.2.2)
noncomputable def PLs (H:Hp)(zs:List PL):Prop:=∀z∈zs,H z.1=some (.tup [.int z.2.2.1,.ref z.2.1])/\H z.2.1=some (.lst (z.2.2.2.map V.int))
theorem PLs.same (h:PLs H zs)(s:Same H H'):PLs H' zs:=λz j=>⟨s _ _ (h z j).1,s _ _ (h z j).2⟩
theorem ZcL (xs:List V)(k:Nat):VN xs none (some (k:Int))=xs.take k:=by
 unfold VN;rw [HT.sIx_nat];show (xs.drop 0).take _=_;rw [List.drop_zero];show xs.take (min k xs.length-0)=xs.take k;rw [Nat.sub_zero];rcases Nat.le_total k xs.length with h | h
 ·rw [Yey h]
 ·rw [Nat.min_eq_right h,Ycd,Yfl h]
theorem ZeK (L:List PL)(k:Nat):(RP L).take k=RP (L.take k):=List.map_take.symm
structure Got (H0 H:Hp)(qs:LI)(ts:List Tri)(k:Nat)(c:Int)(v:V)(l:AD)(zs:List PL):Prop where
 v:v=.ref l
 e:H l=some (.lst (RP zs))
 pl:PLs H zs
 of:∀z∈zs,Has ts c z.2.2.2/\z.2.2.1=cst qs z.2.2.2
 ln:zs.length<=101
 fr:H0 l=none/\∀z∈zs,H0 z.1=none/\H0 z.2.1=none
 best:1<=k->Best qs (Has ts c) k (vP zs)
noncomputable def GotV (H0 H:Hp)(qs:LI)(ts:List Tri)(k:Nat)(c:Int)(v:V):Prop:=∃l zs,Got H0 H qs ts k c v l zs
theorem GotV.kp (g:GotV H0 H qs ts k c v)(j:∀a xs,H a=some (.lst xs)->H' a=some (.lst xs))(B:∀a xs,H a=some (.tup xs)->H' a=some (.tup xs)):GotV H0 H' qs ts k c v:=by
 obtain ⟨l,zs,g⟩:=g;exact ⟨l,zs,g.v,j _ _ g.e,λz q=>⟨B _ _ (g.pl z q).1,j _ _ (g.pl z q).2⟩,g.of,g.ln,g.fr,g.best⟩
structure DcOk (R:Int->V->Prop)(kvs:List (Key×V))(dn:LI):Prop where
 z:∃v,JC kvs (.inl 0)=some v/\R 0 v
 o:∃v,JC kvs (.inl 1)=some v/\R 1 v
 c:∀c∈dn,∃v,JC kvs (.inl c)=some v/\R c v
theorem DcOk.mono (D:DcOk R kvs j)(h:∀c v,R c v->R' c v):DcOk R' kvs j:=by
 obtain ⟨⟨q,B,L⟩,⟨N,O,U⟩,c⟩:=D;exact ⟨⟨q,B,h _ _ L⟩,⟨N,O,h _ _ U⟩,λd Y=>by obtain ⟨v,e,r⟩:=c d Y;exact ⟨v,e,h _ _ r⟩⟩
theorem DcOk.get {c c':Int}(D:DcOk R kvs (j.take i))(F:Fall ts j)(hi:j[i]?=some c)(n:Nd ts c r)(a:At ts c' r.1):∃v,JC kvs (.inl c')=some v/\R c' v:=by
 rcases a with rfl | rfl | ⟨r',q,g⟩
 ·exact D.z
 ·exact D.o
 ·exact D.c c' (F.before hi n q g)
theorem DcOk.fin {c lo:Int}(D:DcOk R kvs j)(F:Fall ts j)(a:At ts c lo):∃v,JC kvs (.inl c)=some v/\R c v:=by
 rcases a with rfl | rfl | ⟨r',q,g⟩
 ·exact D.z
 ·exact D.o
 ·exact D.c c (F.al c r' q)
theorem DcOk.snoc {j:LI}{c:Int}(D:DcOk R kvs (j.take i))(q:∀c v,R c v->R' c v)(hi:j[i]?=some c)(h2:2<=c)(L:R' c v):DcOk R' (JD kvs (.inl c) v) (j.take (i+1)):=by
 refine ⟨?_,?_,λd B=>?_⟩
 ·rw [GY,if_neg (by intro z;injection z with z;lia)];exact (D.mono q).z
 ·rw [GY,if_neg (by intro z;injection z with z;lia)];exact (D.mono q).o
 ·rw [GY];by_cases e:d=c
  ·subst e;rw [if_pos rfl];exact ⟨v,rfl,L⟩
  ·rw [if_neg (by intro z;injection z with z;exact e z)];rw [Ycf,hi] at B;rcases Yaj.mp B with h | h
   ·exact (D.mono q).c d h
   ·exact absurd (by simpa using h) e
theorem Zbu (qs:LI)(ts:List Tri)(k:Nat):Best qs (Has ts 0) k []:=⟨.nil,(λx j=>by cases j),Yat _,λs q=>absurd q Has.zero⟩
theorem ZcM (qs:LI)(ts:List Tri)(j:1<=k):Best qs (Has ts 1) k [(0,[])]:=⟨by simp [StP],λx q=>by rw [Yai.mp q];exact ⟨.one,rfl⟩,j,λs B=>.inl (by rw [Has.at1.mp B];exact Yai.mpr rfl)⟩
theorem Wt (n:Nd ts c r)(s:LI):Has ts c s↔Has ts r.2.1 s\/∃t,s=r.1::t/\Has ts r.2.2 t:=by
 cases s with
 | nil=>
  rw [Has.nil n];exact ⟨.inl,λh=>h.elim id λ⟨_,e,_⟩=>by cases e⟩
 | cons x s=>
  rw [Has.cons n];constructor
  ·rintro (h | ⟨rfl,h⟩)
   ·exact .inl h
   ·exact .inr ⟨s,rfl,h⟩
  ·rintro (h | ⟨t,e,h⟩)
   ·exact .inl h
   ·cases e;exact .inr ⟨rfl,h⟩
theorem ZeL (T:TabOk ts)(n:Nd ts c r)(s t:LI)(h:Has ts r.2.1 s):s≠r.1::t:=λe=>by
 have:=h.gt T (T.nd n).2.1 e
 lia
theorem ZcN (T:TabOk ts)(n:Nd ts c r)(hk:k<=100)(D:Got H0 H qs ts k r.2.1 v0 l0 U)(Z:Got H0 H qs ts k r.2.2 v1 l1 Y)(ec:vP q=(vP Y).map (XD qs r.1))(pc:PLs H q)(fc:∀z∈q,H0 z.1=none/\H0 z.2.1=none)(pm:L.Perm (U++q))(so:(vP L).Pairwise λa b=>JQ b a=false)(hl:H0 l=none)(e:H l=some (.lst (RP (L.take k)))):Got H0 H qs ts k c (.ref l) l (L.take k):=by
 have mem:∀z∈L.take k,z∈U\/z∈q:=λz j=>Yaj.mp (pm.mem_iff.mp (Yfu j));refine ⟨rfl,e,λz j=>?_,λz j=>?_,by rw [Ybo];lia,⟨hl,λz j=>?_⟩,λh1=>?_⟩
 ·rcases mem z j with h | h
  ·exact D.pl z h
  ·exact pc z h
 ·rcases mem z j with h | h
  ·exact ⟨(Wt n _).mpr (.inl (D.of z h).1),(D.of z h).2⟩
  ·have hm:z.2.2∈(vP Y).map (XD qs r.1):=by rw [<-ec];exact Yal.mpr ⟨z,h,rfl⟩
   obtain ⟨y,hy,ey⟩:=Yal.mp hm;obtain ⟨N,O,rfl⟩:=Yal.mp hy;rw [<-ey];refine ⟨(Wt n _).mpr (.inr ⟨N.2.2.2,rfl,(Z.of N O).1⟩),?_⟩;show N.2.2.1+qs.getD r.1.toNat 0=cst qs (r.1::N.2.2.2);rw [Jq,(Z.of N O).2]
 ·rcases mem z j with h | h
  ·exact D.fr.2 z h
  ·exact fc z h
 ·have B:=Best.node (L:=vP L) (Wt n) (ZeL T n) (D.best h1) (Z.best h1) (by rw [<-ec];have:=pm.map (·.2.2);rwa [Yas] at this) so
  rwa [<-List.map_take] at B
theorem W9 (T:TabOk ts)(a:At ts c lo)(h0:-1<=lo)(h:Has ts c s):s.length<=30:=Has.short T (by
 rcases a with rfl | rfl | ⟨r,n,g⟩
 ·exact .inl rfl
 ·exact .inr (.inl rfl)
 ·exact .inr (.inr ⟨r,n,by lia⟩)) h
theorem YE:1<=sizeLine:=by decide
theorem ZcO (qs:LI)(ts:List Tri)(k:Nat)(q:∀d kvs H',Same H H'->H d=none->H' d=some (.dK kvs)->DcOk (GotV H H' qs ts k) kvs []->kvs.length<=2->Q (.ref d) H'):Zfv [(tC (V.int 0),Zfd ZP),(tC (V.int 1),Zfd (UJ (Zhp (UJ (tC (V.int 0)) (UJ (Zfd ZP) ZP))) ZP))] σ H Q:=by
 intro d hd;have s0:Same H (upd H d (.dK [])):=Same.new hd;have e0:upd H d (.dK []) d=some (.dK []):=Gc;refine ⟨Yat _,λa0 B=>?_⟩;generalize upd H d (.dK [])=H1 at s0 e0 B ⊢;obtain ⟨H2,D,s1,e1⟩:=nwU (o:=.lst []) B;rw [D];refine ⟨Yat _,λa1 N=>?_⟩;obtain ⟨H3,D,s2,e2⟩:=nwU (o:=.lst []) N;rw [D];refine ⟨Jb,λt1 O=>?_⟩;obtain ⟨H4,D,Z,e3⟩:=nwU (o:=.tup [.int 0,.ref a1]) O;rw [D];refine ⟨YE,λa2 U=>?_⟩;obtain ⟨H5,D,Y,e4⟩:=nwU (o:=.lst [.ref t1]) U;rw [D];have S1:=s0.trans s1;have S2:=S1.trans s2;have S3:=S2.trans Z;have ed:H5 d=some (.dK []):=Y _ _ (Z _ _ (s2 _ _ (s1 _ _ e0)));refine ⟨ed,[(.inl 0,.ref a0),(.inl 1,.ref a2)],rfl,(by show 2<=15;decide),?_⟩;have nd:∀{a:AD}{o:HO},H5 a=some o->(∀L,o≠.dK L)->a≠d:=λe hn z=>by rw [z,ed] at e;exact hn _ (Ybl e).symm
 have k5:∀{a:AD}{o:HO},H5 a=some o->(∀L,o≠.dK L)->upd H5 d (.dK (G4 [] [(.inl 0,.ref a0),(.inl 1,.ref a2)])) a=some o:=λe hn=>Gm e (nd e hn);have f0:=k5 (Y _ _ (Z _ _ (s2 _ _ e1))) (λL z=>by cases z);have f1:=k5 (Y _ _ (Z _ _ e2)) (λL z=>by cases z);have f2:=k5 (Y _ _ e3) (λL z=>by cases z);have f3:=k5 e4 (λL z=>by cases z);refine q d _ _ ((S3.trans Y).put hd) hd Gc ⟨⟨.ref a0,rfl,a0,[],rfl,f0,(λz j=>by cases j),(λz j=>by cases j),Yat _,⟨s0.free B,(λz j=>by cases j)⟩,λ_=>Zbu qs ts k⟩,⟨.ref a2,rfl,a2,[(t1,a1,(0,[]))],rfl,f3,(λz j=>by rw [Yai.mp j];exact ⟨f2,f1⟩),(λz j=>by rw [Yai.mp j];exact ⟨.one,rfl⟩),(by show 1<=101;decide),⟨S3.free U,(λz j=>by rw [Yai.mp j];exact ⟨S2.free O,S1.free N⟩)⟩,λh1=>ZcM qs ts h1⟩,(λc hc=>by cases hc)⟩ (Yaf 2)
theorem chosen (T:TabOk ts)(n:Nd ts c r)(ag:r.1<(qs.length:Int))(G1:Got H0 B qs ts k r.2.2 (.ref l1) l1 O)(aa:B pr=some (.lst (qs.map V.int)))(hD:B D=none)(fin:∀q H',Same B H'->H' D=some (.lst (RP q))->PLs H' q->(∀z∈q,B z.1=none/\B z.2.1=none)->vP q=(vP O).map (XD qs r.1)->R H') :
  ∃W:Nat->Nat->List V->Hp->Prop,(∃m,W 0 m [] (upd B D (.lst [])))/\Jv (Itl K l1) D (ZgT K 2 (ZD (Gq 0) (ZD (Gq 1) Zhh))) XQ (Zhp (UJ (tOp (rI0 λi j=>V.int (i+j)) (Zt 0) (tOp (Zhu K) (Zt 2) (Zt 3))) (UJ (tOp Zhx (Zfd (UJ (Zt 3) ZP)) (Zt 1)) ZP))) [none,none,some (.ref pr),some (.int r.1)] W R:=by
 have ak:=Yav.symm;have ah:=(T.nd n).1
 let Pv:CI:=λj ys H'=>∃q:List PL,ys=RP q/\Same B H'/\H' D=some (.lst ys)/\PLs H' q/\(∀z∈q,(B z.1=none/\B z.2.1=none)/\z.1≠D/\z.2.1≠D)/\vP q=((vP O).take j).map (XD qs r.1)
 refine J2 (K:=K) (a:=l1) (xs:=RP O) Pv ⟨[],rfl,Same.new hD,Gc,(λz L=>by cases L),(λz L=>by cases L),rfl⟩ (by rintro j ys H' _ ⟨_,_,s,_⟩;exact SqL.of (s _ _ G1.e)) ?_ ?_
 ·rintro j y ys H4 ab ⟨q,rfl,N,eD,pc,nc,ec⟩;rw [RP,Yaz] at ab;obtain ⟨z,L,rfl⟩:=Ybw.mp ab;have ac:=Ybf L;have hj:j<O.length:=(Yao.mp L).1;have aj:=W9 T (T.nd n).2.2 (by lia) (G1.of z ac).1;have al:=G1.ln;have am:q.length=j:=by
   have:=Ybh List.length ec;rw [Yac,Yac,Ybo,Yac] at this
   lia
  have tk:(vP O).take (j+1)=(vP O).take j++[z.2.2]:=by rw [Ycf,Yaz,L];rfl
  obtain ⟨p1,p2⟩:=G1.pl z ac;refine ⟨z.1,xe rfl ⟨SqT.of (N _ _ p1),rfl,_,xe rfl (xd rfl rfl ⟨⟨rfl,rfl,trivial⟩,?_⟩)⟩⟩;unfold XQ;refine Ob ?_;refine xe rfl (xe rfl (xe rfl ⟨pr,_,xd rfl rfl ⟨SqL.of (N _ _ aa),U6 ah.1 ag,xd rfl rfl (xe rfl ⟨YE,λq1 ai=>?_⟩)⟩⟩));obtain ⟨H5,q_,s5,e5⟩:=nwU (o:=.lst [.int r.1]) ai;rw [q_];refine xe rfl ⟨q1,z.2.1,xd rfl rfl ⟨e5,s5 _ _ (N _ _ p2),(by rw [Yac];show 1+z.2.2.2.length<=_;lia),λU Y=>?_⟩⟩;obtain ⟨H6,q_,s6,e6⟩:=nwU (o:=.lst ([.int r.1]++z.2.2.2.map V.int)) Y;have e6:H6 U=some (.lst ((r.1::z.2.2.2).map V.int)):=e6;rw [q_];refine ⟨Jb,λq3 Z=>?_⟩;have s7:Same H6 (upd H6 q3 (.tup [.int (z.2.2.1+qs.getD r.1.toNat 0),.ref U])):=Same.new Z;have e7:upd H6 q3 (.tup [.int (z.2.2.1+qs.getD r.1.toNat 0),.ref U]) q3=some (.tup [.int (z.2.2.1+qs.getD r.1.toNat 0),.ref U]):=Gc;have S5:=N.trans s5;have S6:=s5.trans s6;have S7:=S6.trans s7;have ad:=S7 _ _ eD;have ae:U≠D:=Ne.symm (Gg (s5 _ _ eD) Y);have af:q3≠D:=Ne.symm (Gg (S6 _ _ eD) Z);generalize upd H6 q3 (.tup [.int (z.2.2.1+qs.getD r.1.toNat 0),.ref U])=H7 at s7 e7 S7 ad ⊢;refine ⟨ad,by rw [RP,Yac];lia,q++[(q3,U,XD qs r.1 z.2.2)],by rw [RP,RP,Yas];rfl,(N.trans S7).put hD,Gc,λu hu=>?_,λu hu=>?_,by rw [vP,Yas,<-vP,ec,tk,Yas];rfl⟩
  ·rcases Yaj.mp hu with h | h
   ·exact ⟨Gm (S7 _ _ (pc u h).1) (nc u h).2.1,Gm (S7 _ _ (pc u h).2) (nc u h).2.2⟩
   ·rw [Yai.mp h];exact ⟨Gm e7 af,Gm (s7 _ _ e6) ae⟩
  ·rcases Yaj.mp hu with h | h
   ·exact nc u h
   ·rw [Yai.mp h];exact ⟨⟨(N.trans S6).free Z,S5.free Y⟩,af,ae⟩
 ·rintro ys H4 ⟨q,rfl,N,eD,pc,nc,ec⟩;rw [RP,Yac,<-Yac (f:=λz:PL=>z.2.2),Ycd] at ec;exact fin q H4 N eD pc (λz L=>(nc z L).1) ec
theorem Zbv (T:TabOk ts)(n:Nd ts c r)(hk:k<=100)(D:Got H0 N qs ts k r.2.1 (.ref l0) l0 O)(U:Got H0 N qs ts k r.2.2 (.ref l1) l1 z1)(s4:Same N B)(ad:B cl=some (.lst (RP j)))(pc:PLs B j)(nc:∀z∈j,N z.1=none/\N z.2.1=none)(ec:vP j=(vP z1).map (XD qs r.1))(ae:B d=some (.dK kvs))(g0:JC kvs (.inl r.2.1)=some (.ref l0))(Y:∀{b:AD},N b=none->H0 b=none)(ha:σ[a]?=some (some (.ref d)))(hb:σ[b]?=some (some (.int r.2.1)))(he:σ[e]?=some (some (.ref cl)))(h2:σ[2]?=some (some (.int (k:Int))))(fin:∀q zs H7,Same N H7->Got H0 H7 qs ts k c (.ref q) q zs->Q (.ref q) H7) :
  tSl (Zhv K) (tCB (Za7 K) (UJ (tOp Zhx (ZdW (Zt a) (Zt b)) (Zt e)) ZP)) Xf (Zff (Zt 2)) σ B Q:=by
 have aj:=Yav.symm;have ak:j.length=z1.length:=by
  have:=Ybh List.length ec
  rwa [Yac,Yac,Yac] at this
 have al:=D.ln;have am:=U.ln;refine ⟨_,ha,_,hb,d,xe rfl ⟨g0▸DGet.k (k:=.inl r.2.1) ae,_,he,l0,cl,xd rfl rfl ⟨s4 _ _ D.e,ad,(by rw [RP,RP,Yac,Yac];lia),λp hp=>?_⟩⟩⟩;have s5:Same B (upd B p (.lst (RP O++RP j))):=Same.new hp;have e5:upd B p (.lst (RP O++RP j)) p=some (.lst (RP (O++j))):=by rw [Gc,RP,RP,RP,Yas]
 generalize upd B p (.lst (RP O++RP j))=H5 at s5 e5 ⊢;have S5:=s4.trans s5;have aa:PLs H5 (O++j):=λz Z=>by
  rcases Yaj.mp Z with h | h
  ·exact D.pl.same S5 z h
  ·exact pc.same s5 z h
 refine ⟨p,O++j,rfl,SqL.of e5,λz Z=>⟨SqT.of (aa z Z).1,SqL.of (aa z Z).2⟩,λaf L ag pm so=>?_⟩;obtain ⟨H6,q_,s6,e6⟩:=nwU (o:=.lst (RP L)) ag;rw [q_];refine ⟨_,h2,xe rfl ⟨af,xe rfl ⟨SqL.of e6,λq ab=>?_⟩⟩⟩;rw [ZcL,ZeK];obtain ⟨H7,q_,s7,e7⟩:=nwU (o:=.lst (RP (L.take k))) ab;have ac:N q=none:=(S5.trans s6).free ab;rw [q_];have S7:=(S5.trans s6).trans s7;have ah:Got H0 H7 qs ts k r.2.1 (.ref l0) l0 O:=⟨rfl,S7 _ _ D.e,D.pl.same S7,D.of,D.ln,D.fr,D.best⟩;have ai:Got H0 H7 qs ts k r.2.2 (.ref l1) l1 z1:=⟨rfl,S7 _ _ U.e,U.pl.same S7,U.of,U.ln,U.fr,U.best⟩;exact fin _ _ _ S7 (ZcN T n hk ah ai ec (pc.same ((s5.trans s6).trans s7)) (λz Z=>⟨Y (nc z Z).1,Y (nc z Z).2⟩) pm so (Y ac) e7)
theorem ZgC {L:LI}(D:DcOk (GotV H0 N qs ts k) kvs (L.take i))(O:Same N q)(B:q d=some (.dK kvs))(U:L[i]?=some c)(h2:2<=c)(G:Got H0 q qs ts k c (.ref j) j zs):DcOk (GotV H0 (upd q d (.dK (JD kvs (.inl c) (.ref j)))) qs ts k) (JD kvs (.inl c) (.ref j)) (L.take (i+1)):=by
 have kp:∀{c' v},GotV H0 q qs ts k c' v->GotV H0 (upd q d (.dK (JD kvs (.inl c) (.ref j)))) qs ts k c' v:=λg=>g.kp (λb ys e=>Gm e (λz=>by rw [z,B] at e;cases e)) (λb ys e=>Gm e (λz=>by rw [z,B] at e;cases e));exact D.snoc (λc' v g=>kp (g.kp (λb ys e=>O _ _ e) (λb ys e=>O _ _ e))) U h2 (kp ⟨_,_,G⟩)
section
variable {P:PP}{w:Ab}{K:FG}{mg:Str->Option Aa}{base:Heap}
noncomputable def ZeM (tb:AD):Sp:=λvs H Q _=>∃(l j:AD)(xs:List V)(ts:List Tri)(qs:LI)(k:Nat),vs=[.ref l,.ref j,.int (k:Int)]/\H l=some (.lst xs)/\Trs H xs ts/\TabOk ts/\ts.length<=900/\H j=some (.lst (qs.map V.int))/\(∀r∈ts,r.1<(qs.length:Int))/\k<=100/\LS tb H /\
 ∀(d:AD)(kvs:List (Key×V))(os:LI)(H':Hp),SameL tb H H'->LS tb H'->H' d=some (.dK kvs)->DcOk (GotV H H' qs ts k) kvs os->Fall ts os->Q (.ref d) H'
theorem scChb:Gn ["nodes", "prices", "k", "cheapest", "number", "road", "low", "high", "chosen"] ["nodes", "prices", "k"] (Gf Zev):=⟨rfl,rfl,rfl,by decide +kernel,rfl,by decide +kernel,by decide +kernel⟩
theorem ZgD (F:Fun K "cheapest_below" "cheapest_below" Zev f fd)(aq:Fun K "from_below" "from_below" Zg3 aa B)(ar:Binds K B ["nodes"] [])(as:mg "from_below" = some (.ref aa))(au:GE P w K mg base CX0 1 aa B ["nodes"] (Zgz tb))(ad:mg "sorted" = none) :
  GE P w K mg base CX0 2 f fd ["nodes", "prices", "k"] (ZeM tb):=by
 refine F.ok scChb (λvs H Q E h=>?_) (λae A av s H vs Q E hr h=>?_)
 ·obtain ⟨_,_,_,_,_,_,rfl,_⟩:=h
  rfl
 ·obtain ⟨l,pr,xs,ts,qs,k,rfl,el,tr,T,af,aw,ax,hk,st,q⟩:=h;have aB:=Yav.symm;have ab:(A.deeper (PyProof.Rows.envOfC "cheapest_below" (Gf Zev) s.heap.objs.size f ae)).units+1<cLine:=by have:=hr.un;lia
  have ag:(A.deeper (PyProof.Rows.envOfC "cheapest_below" (Gf Zev) s.heap.objs.size f ae)).units+71<cLine:=by have:=hr.un;lia
  refine ⟨_,@Gb _ _ _ _ _ (@Zc2 _ _ 3 _ _ _ _ scChb.nd rfl (Or.inl rfl) (@VU _ _ _ _ _ (JF Gd (GD Ge) (JF Gd (GD (Ga (GT (Ga Gd (Ga (GD Ge) Ge))) Ge)) VT)) rfl rfl (by decide) (by decide)) rfl (by first | exact .inl rfl | exact .inr rfl))
    (Gb (JL Ycu rfl (Ou K (gCa au as aq.kp ar Gu (Ga (pv 0) Ge))) (gNm 4 scChb.nd)
    (Gb (Om (gIx (Uy K) (pv 0) (Gk JU (pv 4) Gd)) (VR K (n:=3) rfl (Gi (gNm 5 scChb.nd) (Gi (gNm 6 scChb.nd) (Gi (gNm 7 scChb.nd) GN)))))
    (Gb (Jx (i:=8) scChb.nd rfl (Or.inl rfl) (own:=["price", "roads"]) rfl (gSc [("prices", 1),("road", 5)]) (Ou K (gDg ab (pv 3) (pv 7))) (λ_ _ _ _=>VR K (n:=2) rfl (Gi (gNm 0 (show List.Nodup (["price", "roads", "prices", "road"]:List Str) by decide +kernel)) (Gi (gNm 1 (show List.Nodup (["price", "roads", "prices", "road"]:List Str) by decide +kernel)) GN))) (λ_ _ _ _=>Gy) (λ_ _ _ _=>GT (Ga (Gk GP (pv 0) (gIx (Uy K) (pv 2) (pv 3))) (Ga (Gk ZY (GD (Ga (pv 3) Ge)) (pv 1)) Ge))))
    (Gh (Ua ab (pv 3) (pv 4) (JE (kSl K) (gB1 (Zep K ag) ad Yfw (Gk ZY (gDg ab (pv 3) (pv 6)) (pv 8))) JS (J1 (pv 2))) rfl)))))
    (Gh (Gr (pv 3)))),?_⟩
  refine lT3 ?_;intro Z R3 R2;refine Go (λσ' H'=>∃(d:AD)(kvs:List (Key×V)),σ'=[some (.ref l),some (.ref pr),some (.int (k:Int)),some (.ref d),none,none,none,none,none]/\Same H H'/\H d=none/\H' d=some (.dK kvs)/\DcOk (GotV H H' qs ts k) kvs []/\kvs.length<=2) ?N ?f1
  case f1=>
   exact λac=>ZcO qs ts k λd kvs H' h1 h2 h3 h4 h5=>ac _ _ ⟨d,kvs,rfl,h1,h2,h3,h4,h5⟩
  rintro σ' H1 ⟨d,ah,rfl,N,hd,ed,D0,ai⟩;have aj:LS tb H1:=st.same N;obtain ⟨ps,eP⟩:=aj.tbl;have aC:=tr.len;refine xe rfl ⟨l,xs,ts,rfl,N _ _ el,tr.same N,af,aj,λa os H2 U ak ha ea fa=>?_⟩;have al:H2 l=some (.lst xs):=U.lst eP (N _ _ el);have ay:Trs H2 xs ts:=Trs.sameL U eP (tr.same N);have L:=U.dK eP ed;have Y:H2 pr=some (.lst (qs.map V.int)):=U.lst eP (N _ _ aw);have D2:DcOk (GotV H H2 qs ts k) ah []:=D0.mono λc v g=>g.kp (λb ys e=>U.lst eP e) (λb ys e=>U.tup eP e);have nl:∀{b:AD}{ys:List V},H2 b=some (.lst ys)->b≠d:=λe z=>by rw [z,L] at e;cases e
  have nt:∀{b:AD}{ys:List V},H2 b=some (.tup ys)->b≠d:=λe z=>by rw [z,L] at e;cases e
  refine ⟨a,rfl,⟨_,SqL.of ea⟩,?_⟩
  let Pv:FI:=λi σ H'=>∃(kvs:List (Key×V))(v4 v5 v6 v7 v8:Option V),σ=[some (.ref l),some (.ref pr),some (.int (k:Int)),some (.ref d),v4,v5,v6,v7,v8]/\(∀b o,b≠d->H2 b=some o->H' b=some o)/\H' d=some (.dK kvs)/\DcOk (GotV H H' qs ts k) kvs (os.take i)/\kvs.length<=2+i
  refine J9 (K:=K) (a:=a) (xs:=os.map V.int) Pv
   ⟨ah,none,none,none,none,none,rfl,λ_ _ _ e=>e,L,by rw [List.take_zero];exact D2,ai⟩ (by rintro i σ H' _ ⟨_,_,_,_,_,_,_,kk,_⟩;exact SqL.of (kk _ _ (nl ea) ea)) ?_ ?_
  ·rintro i x σ H3 az ⟨kvs,v4,v5,v6,v7,v8,rfl,O,j,D,a1⟩;obtain ⟨c,rfl,hc⟩:=Jp az;obtain ⟨r,n⟩:=fa.len hc;obtain ⟨t,a2,a3⟩:=U3 (ay.keep λp ys e=>O _ _ (nt e) e) n;obtain ⟨v0,g0,l0,z0,G0⟩:=D.get fa hc n (T.nd n).2.1;obtain ⟨v1,g1,l1,z1,G1⟩:=D.get fa hc n (T.nd n).2.2;have a4:=G0.v;have a5:=G1.v;subst a4 a5;have aD:os.length<=900:=Ybq fa.ln af;have hi:i<os.length:=(Yao.mp hc).1;have aE:=(T.nd n).1;have a6:=ax r (Ybf n.2);have am:H3 pr=some (.lst (qs.map V.int)):=O _ _ (nl Y) Y;dsimp only [Gq];refine xe rfl (xe rfl (xd rfl rfl ⟨l,_,xd rfl rfl ⟨SqL.of (O _ _ (nl al) al),a2,t,xe rfl ⟨SqT.of a3,rfl,_,xe rfl ⟨_,xe rfl (xd rfl rfl ?_)⟩⟩⟩⟩));dsimp only;refine Go (λσ' H'=>∃(cl:AD)(zc:List PL),σ'=[some (.ref l),some (.ref pr),some (.int (k:Int)),some (.ref d),some (.int c),some (.int r.1),some (.int r.2.1),some (.int r.2.2),some (.ref cl)]/\Same H3 H'/\H' cl=some (.lst (RP zc))/\PLs H' zc/\(∀z∈zc,H3 z.1=none/\H3 z.2.1=none)/\vP zc=(vP z1).map (XD qs r.1)) ?s2 ?f2
   case f2=>
    intro ac;refine xe rfl (xe rfl ⟨d,xe rfl ⟨g1▸DGet.k (k:=.inl r.2.2) j,l1,rfl,⟨_,SqL.of G1.e⟩,λD' hD=>?_⟩⟩);exact chosen T n a6 G1 am hD λzc H' h1 h2 h3 h4 h5=>ac _ _ ⟨D',zc,rfl,h1,h2,h3,h4,h5⟩
   rintro σ' H4 ⟨cl,zc,rfl,s4,a7,pc,nc,ec⟩;have a8:∀{b:AD},H3 b=none->H b=none:=λ{b} e=>by
    cases eb:H b with
    | none=>rfl
    | some o=>
     have h1:=N _ _ eb;by_cases an:b=d
     ·rw [an,j] at e;cases e
     ·by_cases ao:b=tb
      ·obtain ⟨aF,e2⟩:=ak.tbl;rw [ao,O _ _ (λz=>by rw [z,L] at e2;cases e2) e2] at e;cases e
      ·rw [O _ _ an (U _ _ ao h1)] at e;cases e
   refine Zbv T n hk G0 G1 s4 a7 pc nc ec (s4 _ _ j) g0 a8 rfl rfl rfl rfl λa9 aG H7 S7 G=>?_;have ap:=S7 _ _ j;refine xe rfl (xe rfl ⟨d,xe rfl ⟨DPut.k (k:=.inl c) ap (by lia),?_⟩⟩);have aA:=GW kvs (Sum.inl c:Key) (.ref a9);refine ⟨_,_,_,_,_,xe rfl ⟨λb o hb e=>Gm (S7 _ _ (O b o hb e)) hb,Gc,ZgC D S7 ap hc n.1 G,Ybq aA (by lia)⟩⟩
  ·rintro σ H3 ⟨kvs,v4,v5,v6,v7,v8,rfl,O,j,D,a1⟩;rw [Yac,Ycd] at D;exact xe rfl (q d kvs os H3 (λb o hb e=>O b o (λz=>by rw [z,hd] at e;cases e) (U b o hb (N b o e))) (LamSt.keep ak O L) j D fa)
noncomputable def ToldG (H:Hp)(Q:VK):Prop:=∀(p l:AD)(root:Int)(xs:List V)(us:List Tri)(H':Hp),Same H H'->H p=none->H l=none->TabAt H' p l root xs us->TabOk us->At us root (-1)->us.length<=60->(∀r∈us,r.2.2≠0)->root≠0->Q (.ref p) H'
theorem ToldG.same (h:ToldG H Q)(s:Same H H1):ToldG H1 Q:=λp l root xs us H' s' j q W T a n z r=>h p l root xs us H' (s.trans s') (s.free j) (s.free q) W T a n z r
noncomputable def Xa (rs:LI)(k:Nat):Tri:=(rs.getD k 0,if k+1=rs.length then 1 else (k:Int)+3,if k+1=rs.length then 1 else (k:Int)+3)
theorem ZeN {rs:LI}(D:rs.Pairwise (· < ·))(rg:∀x∈rs,0<=x/\x<30):TabOk ((List.range rs.length).map (Xa rs)):=λi r h=>by
 rw [Yaz] at h;obtain ⟨j,L,rfl⟩:=Ybw.mp h;obtain ⟨hi,q⟩:=Yao.mp L;rw [Ydo] at hi;rw [List.getElem_range] at q;subst q;have g:∀k,k<rs.length->rs.getD k 0=rs[k]!/\rs[k]?=some (rs.getD k 0):=λk B=>by
  constructor
  ·simp [Ybv,B]
  ·simp [Ybv,B]
 have a:At ((List.range rs.length).map (Xa rs)) (Xa rs i).2.1 (Xa rs i).1:=by
  show At _ (if i+1=rs.length then 1 else (i:Int)+3) (rs.getD i 0);by_cases c:i+1=rs.length
  ·rw [if_pos c];exact .inr (.inl rfl)
  ·rw [if_neg c];refine .inr (.inr ⟨Xa rs (i+1),⟨by lia,?_⟩,?_⟩)
   ·rw [show ((i:Int)+3-2).toNat=i+1 by lia,Yaz,List.getElem?_range (by lia)];rfl
   ·show rs.getD i 0<rs.getD (i+1) 0;have h1:=(g i (by lia)).2;have h2:=(g (i+1) (by lia)).2;obtain ⟨N,O⟩:=Yao.mp h1;obtain ⟨U,Y⟩:=Yao.mp h2;rw [<-O,<-Y];exact Yef.mp D i (i+1) N U (by lia)
 exact ⟨rg _ (Ybf (g i hi).2),a,a⟩
theorem Zbw (T:TabOk ks)(L:Said ks fs us fs.length)(N:us.length=fs.length)(hz:∀r∈ks,r.2.2≠0):∀r∈us,r.2.2≠0:=λq O=>by
 obtain ⟨j,U,rfl⟩:=Yck O;have B:j<fs.length:=by lia
 obtain ⟨r,a,b,n,ha,D,e⟩:=L j fs[j] B (Yba B);rw [(Yao.mp e).2];show b≠0;have h0:=hz r (Ybf n.2);have N:=(T.nd n).2.2.lt.1;by_cases c:1<r.2.2
 ·have:=(ON D c).1
  lia
 ·have:r.2.2=1:=by lia
  rw [this,OO] at D;have:=Ybl D
  lia
noncomputable def ZgE:Sp:=λvs H Q _=>∃(j:AD)(rs:LI),vs=[.ref j]/\H j=some (.lst (rs.map V.int))/\rs.Pairwise (· < ·)/\(∀x∈rs,0<=x/\x<30)/\rs.length<=30/\rs≠[]/\ToldG H Q
theorem scAll:Gn ["roads", "nodes", "k", "below"] ["roads"] (Gf Zg7):=⟨rfl,rfl,rfl,by decide +kernel,rfl,by decide +kernel,by decide +kernel⟩
theorem ZgF (F:Fun K "_law_all_sets" "_law_all_sets" Zg7 f fd)(j:mg "range" = none)(B:mg "len" = none):GE P w K mg base CX0 1 f fd ["roads"] ZgE:=by
 refine F.ok scAll (λvs H Q E h=>?_) (λae A aa s H vs Q E hr h=>?_)
 ·obtain ⟨_,_,rfl,_⟩:=h
  rfl
 ·obtain ⟨U,rs,rfl,L,pw,rg,af,ab,q⟩:=h;have ag:=Yav.symm;refine ⟨_,Gb (gSt 1 scAll.nd (GD Ge))
    (Gb (JL Ycu rfl (JZ rfl j (Ga (gB1 (VQ K) B Ybx (pv 0)) Ge)) (gNm 2 scAll.nd)
    (Gb (gSt 3 scAll.nd (Gk GP (pv 2) Gd))
    (Gb (GX (gCm OC (pv 2) (Gk JU (gB1 (VQ K) B Ybx (pv 0)) Gd)) (Gh (gSt 3 scAll.nd Gd)) Gp)
    (Gh (G9 (kBm K Ych Ydb Ydc GB (pv 1) (Ga (GT (Ga (gIx (Uy K) (pv 0) (pv 2)) (Ga (pv 3) (Ga (pv 3) Ge)))) Ge)))))))
    (Gh (Gr (GT (Ga Gd (Ga (pv 1) Ge)))))),?_⟩
  refine lT3 ?_;intro Z R3 R2;refine ⟨Yat _,λnl N=>?_⟩;obtain ⟨H1,q_,s1,ac⟩:=nwU (o:=.lst []) N;rw [q_];dsimp only [Gq];refine xe rfl ⟨U,xe rfl ⟨.inl (SqL.of (s1 _ _ L)),xe rfl ⟨by lia,by rw [Yac];lia,?_⟩⟩⟩;rw [Yac,Ydw]
  let Pv:FI:=λi σ H'=>∃(xs:List V)(v2 v3:Option V),σ=[some (.ref U),some (.ref nl),v2,v3]/\Same H H'/\H' nl=some (.lst xs)/\Trs H' xs ((List.range i).map (Xa rs))
  refine OB (lo:=0) (n:=rs.length) Pv ⟨[],none,none,rfl,s1,ac,.nil⟩ ?_ ?_
  ·rintro i σ H2 hi ⟨xs,v2,v3,rfl,O,el,tr⟩;rw [Int.zero_add];dsimp only [Gq];have ad:=tr.len;rw [Yac,Ydo] at ad;refine xe rfl (xd rfl rfl ?_);dsimp only [Gq];refine Go (λσ' H'=>σ'=[some (.ref U),some (.ref nl),some (.int (i:Int)),some (.int (Xa rs i).2.1)]/\H2=H') ?s1 ?f1
   case f1=>
    intro hk;refine xe rfl (xe rfl ⟨U,xe rfl ⟨.inl (SqL.of (O _ _ L)),xd rfl rfl ⟨rfl,xe rfl ?_⟩⟩⟩);rw [Yac];by_cases c:i+1=rs.length
    ·refine O7 (λ_=>hk _ _ ⟨by show _=[_,_,_,some (V.int (if i+1=rs.length then 1 else (i:Int)+3))];rw [if_pos c];rfl,rfl⟩) (λz=>absurd (Yay (by show V.int (i:Int)=V.int ((rs.length:Int)-1);rw [show (rs.length:Int)-1=(i:Int) by lia])) z)
    ·refine O7 (λz=>absurd (V.int.inj (Ybt z)) (by lia)) (λ_=>hk _ _ ⟨by show _=[_,_,_,some (V.int (if i+1=rs.length then 1 else (i:Int)+3))];rw [if_neg c];rfl,rfl⟩)
   rintro σ' H' ⟨rfl,rfl⟩;refine xe rfl ⟨.inl ⟨rfl,_,SqL.of el⟩,xe rfl (xe rfl ⟨U,_,xd rfl rfl ⟨SqL.of (O _ _ L),U6 (i:=(i:Int)) (by lia) (by lia),xe rfl (xe rfl ⟨(by show 3<=sizeLine;decide),λt ht=>?_⟩)⟩⟩)⟩;have D:Same H2 (upd H2 t (.tup [.int (rs.getD i 0),.int (Xa rs i).2.1,.int (Xa rs i).2.1])):=Same.new ht;have et:upd H2 t (.tup [.int (rs.getD i 0),.int (Xa rs i).2.1,.int (Xa rs i).2.1]) t=some (.tup [.int (rs.getD i 0),.int (Xa rs i).2.1,.int (Xa rs i).2.1]):=Gc;rw [Ydw];generalize upd H2 t (.tup [.int (rs.getD i 0),.int (Xa rs i).2.1,.int (Xa rs i).2.1])=H3 at D et ⊢;have Y:=D _ _ el;refine ⟨nl,xd rfl rfl ⟨Y,by lia,?_⟩⟩;have t4:=G8 (o:=.lst (xs++[.ref t])) Y;refine ⟨xs++[.ref t],_,xe rfl ⟨(O.trans D).put N,Gc,?_⟩⟩;rw [List.range_succ,Yas];exact ((tr.same D).keep t4).snoc (t4 _ _ et)
  ·rintro σ H2 ⟨xs,v2,v3,rfl,O,el,tr⟩;refine xe rfl ⟨Jb,λp hp=>?_⟩;have D:Same H2 (upd H2 p (.tup [.int 2,.ref nl])):=Same.new hp;have T:=ZeN pw rg;have h0:0<rs.length:=List.length_pos_iff.mpr ab;refine q p nl 2 xs _ _ (O.trans D) (O.free hp) N ⟨Gc,D _ _ el,tr.same D⟩ T (.inr (.inr ⟨Xa rs 0,⟨by decide,?_⟩,?_⟩)) (by rw [Yac,Ydo];lia) (λr hr=>?_) (by decide)
   ·rw [Yaz,List.getElem?_range (by simpa using h0)];rfl
   ·have:=(T 0 (Xa rs 0) (by rw [Yaz,List.getElem?_range h0];rfl)).1.1
    lia
   ·obtain ⟨k,_,rfl⟩:=Yal.mp hr;show (if k+1=rs.length then (1:Int) else (k:Int)+3)≠0;split <;> lia
noncomputable def ZgG (K:FG):Sp:=λvs H Q _=>∃(a:AD)(ns:LI)(st:Nat),vs=[.ref a,.int (st:Int)]/\SqL K H a (ns.map V.int)/\ToldG H Q
theorem scGrt:Gn ["script", "start", "head", "cell", "number", "roads", "nodes", "a", "b", "road", "some", "draw", "at", "other"] ["script", "start"] (Gf Zg8):=⟨rfl,rfl,rfl,by decide +kernel,rfl,by decide +kernel,by decide +kernel⟩
structure Smo (H:Hp)(sm:AD)(ws:List (AD×Int×Int))(ts:List Tri)(road:Int):Prop where
 e:H sm=some (.lst (ws.map λw=>V.ref w.1))
 w:∀w∈ws,H w.1=some (.tup [.int w.2.1,.int w.2.2])/\At ts w.2.1 road/\At ts w.2.2 road/\w.2.2≠0
 n:ws.length=2\/ws.length=4
theorem Smo.same (h:Smo H q B ts j)(s:Same H H'):Smo H' q B ts j:=⟨s _ _ h.e,λw D=>⟨s _ _ (h.w w D).1,(h.w w D).2⟩,h.n⟩
theorem Smo.get (h:Smo H D q ts j)(h0:0<=i)(h1:i<(q.length:Int)):∃(t:AD)(x y:Int),atI (q.map λw=>V.ref w.1) i=some (.ref t)/\H t=some (.tup [.int x,.int y])/\At ts x j/\At ts y j/\y≠0:=by
 obtain ⟨k,rfl⟩:=Int.eq_ofNat_of_zero_le h0;have B:k<q.length:=by lia
 have L:=List.getElem_mem B;exact ⟨q[k].1,q[k].2.1,q[k].2.2,GC (by rw [Yaz,Yba B];rfl),h.w _ L⟩
theorem ZgH (F:Fun K "_law_great_table" "_law_great_table" Zg8 f fd)(FA:Fun K "_law_cell_at" "_law_cell_at" ZeV fA aC)(bA:Binds K aC ["script", "k"] [])(mA:mg "_law_cell_at" = some (.ref fA))(GA:GE P w K mg base CX0 1 fA aC ["script", "k"] (ZcD K))(bd:Fun K "_law_bits" "_law_bits" ZfW a9 ag)(be:Binds K ag ["number", "width"] [])(bf:mg "_law_bits" = some (.ref a9))(bg:GE P w K mg base CX0 1 a9 ag ["number", "width"] ZeG)(aO:Fun K "_law_stir" "_law_stir" ZeW aA ah)(aP:Binds K ah ["cell", "k"] [])(aQ:mg "_law_stir" = some (.ref aA))(aR:GE P w K mg base CX0 1 aA ah ["cell", "k"] ZcI)(bh:Fun K "_law_all_sets" "_law_all_sets" Zg7 aB aj)(bj:Binds K aj ["roads"] [])(bl:mg "_law_all_sets" = some (.ref aB))(bm:GE P w K mg base CX0 1 aB aj ["roads"] ZgE)(FO:Fun K "_law_in_order" "_law_in_order" ZfY fO aD)(bO:Binds K aD ["root", "nodes"] [])(mO:mg "_law_in_order" = some (.ref fO))(GO:GE P w K mg base CX0 1 fO aD ["root", "nodes"] ZeB)(ab:mg "len" = none):GE P w K mg base CX0 2 f fd ["script", "start"] (ZgG K):=by
 refine F.ok scGrt (λvs H Q E h=>?_) (λbB A bn s H vs Q E hr h=>?_)
 ·obtain ⟨_,_,_,rfl,_⟩:=h
  rfl
 ·obtain ⟨a,ns,st,rfl,hS,q⟩:=h;have bC:=Yav.symm;have hu:=hr.units;refine ⟨_,Gb (gSt 2 scGrt.nd (gCa GA mA FA.kp bA Gu (Ga (pv 0) (Ga Gd Ge))))
    (Gb (gSt 3 scGrt.nd (gCa GA mA FA.kp bA Gu (Ga (pv 0) (Ga (pv 1) Ge))))
    (Gb (gSt 4 scGrt.nd (gIx (Uy K) (GD (Ga (Gk GS (pv 3) Gd) (Ga (gCa aR aQ aO.kp aP Gu (Ga (pv 3) (Ga Gd Ge))) Ge))) (Gk GS (Gk Gz (pv 2) Gd) Gd)))
    (Gb (GX (gCm OC (Gk GS (Gk Gz (pv 2) Gd) Gd) Gd) (Gh (gSt 4 scGrt.nd Gd)) Gp)
    (Gb (gSt 5 scGrt.nd (gCa bg bf bd.kp be Gu (Ga (pv 4) (Ga Gd Ge))))
    (Gb (GX (gCm (Zfo K hu) (pv 5) (GD Ge)) (Gh (Gr (GT (Ga Gd (Ga (GD Ge) Ge))))) Gp)
    (Gb (GX (gCm OC (Gk GS (Gk Gz (pv 2) Gd) Gd) Gd) (Gh (Gr (gCa bm bl bh.kp bj Gu (Ga (pv 5) Ge)))) Gp)
    (Gb (gSt 6 scGrt.nd (GD Ge))
    (Gb (Om (GT (Ga Gd (Ga Gd Ge))) (VR K (n:=2) rfl (Gi (gNm 7 scGrt.nd) (Gi (gNm 8 scGrt.nd) GN))))
    (Gb (JL Ycu rfl (Ou K (Zae K (pv 5) JS (Zhl ZdR Gd))) (gNm 9 scGrt.nd)
    (Gb (gSt 10 scGrt.nd (GD (Ga (GT (Ga (pv 7) (Ga (pv 8) Ge))) (Ga (GT (Ga (pv 8) (Ga (pv 7) Ge))) (Ga (GT (Ga (pv 7) (Ga (pv 7) Ge))) (Ga (GT (Ga (pv 8) (Ga (pv 8) Ge))) Ge))))))
    (Gb (GX (gCm OC (pv 7) Gd) (Gh (gSt 10 scGrt.nd (GD (Ga (GT (Ga Gd (Ga Gd Ge))) (Ga (GT (Ga Gd (Ga Gd Ge))) Ge))))) Gp)
    (Gb (gSt 11 scGrt.nd (gCa aR aQ aO.kp aP Gu (Ga (pv 3) (Ga (Gk GP Gd (pv 9)) Ge))))
    (Gb (gSt 12 scGrt.nd (Gk GS (pv 11) (gB1 (VQ K) ab Ybx (pv 10))))
    (Gb (G9 (kBm K Ych Ydb Ydc GB (pv 6) (Ga (Gk ZV (GT (Ga (pv 9) Ge)) (gIx (Uy K) (pv 10) (pv 12))) Ge)))
    (Gb (gSt 13 scGrt.nd (Gk GS (Gk GP (Gk GP (pv 12) Gd) (Gk GS (Gk Gz (pv 11) Gd) (Gk JU (gB1 (VQ K) ab Ybx (pv 10)) Gd))) (gB1 (VQ K) ab Ybx (pv 10))))
    (Gb (G9 (kBm K Ych Ydb Ydc GB (pv 6) (Ga (Gk ZV (GT (Ga (pv 9) Ge)) (gIx (Uy K) (pv 10) (pv 13))) Ge)))
    (Gh (Ze3 (i:=7) (j:=8) rfl scGrt.nd rfl rfl (by decide) rfl rfl (Ga (gB1 (VQ K) ab Ybx (pv 6)) (Ga (Gk GP (gB1 (VQ K) ab Ybx (pv 6)) Gd) Ge)) rfl))))))))))
    (Gh (Gr (gCa GO mO FO.kp bO Gu (Ga (gIx (Uy K) (GD (Ga (pv 7) (Ga (pv 8) Ge))) (Gk GS (Gk Gz (pv 2) Gd) Gd)) (Ga (pv 6) Ge)))))))))))))),?_⟩
  refine Zid ?_;intro Z bD bE R9 R8 R7 R6 R5 R4 R3 R2;refine xe rfl ⟨a,ns,0,rfl,hS,λhd=>?_⟩;dsimp only [Gq];refine xe rfl (xe rfl ⟨a,ns,st,rfl,hS,λc=>?_⟩);dsimp only [Gq];refine Go (λσ' H'=>∃n:Int,σ'=[some (.ref a),some (.int (st:Int)),some (.int hd),some (.int c),some (.int n),none,none,none,none,none,none,none,none,none]/\Same H H') ?s1 ?f1
  case f1=>
   intro hk;refine ⟨_,rfl,_,_,rfl,rfl,(by show (0:Int)<1073741824;decide),_,rfl,c,33,rfl,by decide,λz z0 z1=>⟨Jb,λp hp=>⟨_,rfl,_,_,rfl,rfl,⟨by decide,GH⟩,_,_,rfl,rfl,(by show (0:Int)<2;decide),p,[.int (c % 1073741824),.int z],hd / 960 % 2,?_⟩⟩⟩;have s1:Same H (upd H p (.lst [.int (c % 1073741824),.int z])):=Same.new hp;have j0:0<=hd / 960 % 2:=Ycj _ (by decide);have j1:hd / 960 % 2<2:=Yco _ (by decide);have j:hd / 960 % 2=0\/hd / 960 % 2=1:=by lia
   rcases j with h | h
   ·exact ⟨.int (c % 1073741824),rfl,rfl,SqL.of Gc,by rw [h];exact GC (j:=0) rfl,hk _ _ ⟨_,rfl,s1⟩⟩
   ·exact ⟨.int z,rfl,rfl,SqL.of Gc,by rw [h];exact GC (j:=1) rfl,hk _ _ ⟨_,rfl,s1⟩⟩
  rintro σ' H1 ⟨n1,rfl,s1⟩;refine Go (λσ' H'=>∃n:Int,σ'=[some (.ref a),some (.int (st:Int)),some (.int hd),some (.int c),some (.int n),none,none,none,none,none,none,none,none,none]/\H1=H') ?s2 ?f2
  case f2=>exact λhk=>⟨_,rfl,_,_,rfl,rfl,⟨by decide,GH⟩,_,_,rfl,rfl,(by show (0:Int)<3;decide),rfl,_,rfl,O7 (λ_=>hk _ _ ⟨_,rfl,rfl⟩) (λ_=>hk _ _ ⟨n1,rfl,rfl⟩)⟩
  rintro σ' H' ⟨n,rfl,rfl⟩;refine xe rfl ⟨n,30,rfl,by decide,λrl ak H2 s2 bF au aE aF=>?_⟩;dsimp only [Gq];have pw:(ak.map λk:Nat=>(k:Int)).Pairwise (· < ·):=Ybs.mpr (aE.imp λh=>by lia);have rg:∀x∈ak.map λk:Nat=>(k:Int),0<=x/\x<30:=λx hx=>by
   obtain ⟨k,hk,rfl⟩:=Yal.mp hx;have:=aF k hk
   lia
  have al:(ak.map λk:Nat=>(k:Int)).length<=30:=by
   have:=Ycp (l₁:=ak) (l₂:=List.range 30) (aE.imp λh=>by lia) λk hk=>Yci.mpr (aF k hk);rw [Ydo] at this;rw [Yac];exact this
  clear aE aF;generalize (ak.map λk:Nat=>(k:Int))=rs at au pw rg al;have S2:=s1.trans s2;refine xe rfl ⟨Yat _,λe1 bo=>?_⟩;obtain ⟨H3,L,s3,v3⟩:=nwU (o:=.lst []) bo;rw [L];have S3:=S2.trans s3;refine ⟨.list (rs.map PyData.int),.list (([]:LI).map PyData.int),.lst (SqL.of (s3 _ _ au)) (GV _),.lst (SqL.of v3) .nil,JT _,JT _,xe rfl ?_⟩;rw [OG];by_cases av:rs=[]
  ·rw [Yay av];refine Ob ?_;refine ⟨Yat _,λe2 aS=>⟨Jb,λp hp=>?_⟩⟩;have s4:Same H3 (upd H3 e2 (.lst [])):=Same.new aS;have v4:upd H3 e2 (.lst []) e2=some (.lst []):=Gc;generalize upd H3 e2 (.lst [])=H4 at s4 v4 hp ⊢;have s5:Same H4 (upd H4 p (.tup [.int 1,.ref e2])):=Same.new hp;have S4:=S3.trans s4;exact q p e2 1 [] [] _ (S4.trans s5) (S4.free hp) (S3.free aS) ⟨Gc,s5 _ _ v4,.nil⟩ TabOk.nil (.inr (.inl rfl)) (by decide) (λr hr=>by cases hr) (by decide)
  rw [Ybp av];refine OA ?_;dsimp only [JJ];refine xe rfl (xd rfl rfl ⟨⟨by decide,GH⟩,xd rfl rfl ⟨(by show (0:Int)<2;decide),rfl,xe rfl (O7 (λ_=>?_) (λ_=>?_))⟩⟩)
  ·exact xe rfl ⟨rl,rs,rfl,s3 _ _ au,pw,rg,al,av,q.same S3⟩
  dsimp only [JJ];refine ⟨Yat _,λnl aT=>?_⟩;obtain ⟨H4,L,s4,v4⟩:=nwU (o:=.lst []) aT;have a2:H nl=none:=S3.free aT;rw [L];have S4:=S3.trans s4;dsimp only [Gq];refine ⟨Jb,λt0 bp=>?_⟩;obtain ⟨H5,L,s5,v5⟩:=nwU (o:=.tup [.int 0,.int 1]) bp;rw [L];have S5:=S4.trans s5;refine ⟨t0,xe rfl ⟨SqT.of v5,rfl,_,xe rfl (xd rfl rfl ?_)⟩⟩;dsimp only;have aU:=s5 _ _ (s4 _ _ (s3 _ _ au));refine Go (λσ' H'=>∃(D N:Int)(xs:List V)(ts:List Tri)(v9 ac U Y aa:Option V),σ'=[some (.ref a),some (.int (st:Int)),some (.int hd),some (.int c),some (.int n),some (.ref rl),some (.ref nl),some (.int D),some (.int N),v9,ac,U,Y,aa]/\Same H H'/\H' nl=some (.lst xs)/\Trs H' xs ts/\TabOk ts/\(∀r∈ts,r.2.2≠0)/\ts.length<=60/\2<=ts.length/\D=(ts.length:Int)/\N=(ts.length:Int)+1) ?s3 ?f3
  case f3=>
   intro hk;refine ⟨_,rfl,rl,_,rfl,SqL.of aU,.inl rfl,λrv aV=>⟨rv,rfl,⟨_,SqL.of Gc⟩,?_⟩⟩;have s6:Same H5 (upd H5 rv (.lst (ZgY none (rs.map V.int)))):=Same.new aV;have aG:upd H5 rv (.lst (ZgY none (rs.map V.int))) rv=some (.lst (rs.reverse.map V.int)):=by rw [Gc,List.map_reverse];rfl
   have aW:nl≠rv:=Gg (s5 _ _ v4) aV;have a3:ZgY none (rs.map V.int)=rs.reverse.map V.int:=by rw [List.map_reverse];rfl
   rw [a3];rw [a3] at s6 aG;generalize upd H5 rv (.lst (rs.reverse.map V.int))=H6 at s6 aG ⊢;have bq:rs.reverse.Pairwise (λx y=>y<x):=List.pairwise_reverse.mpr pw
   let Pv:FI:=λi σ H'=>∃(D N:Int)(xs:List V)(ts:List Tri)(v9 ac U Y aa:Option V),σ=[some (.ref a),some (.int (st:Int)),some (.int hd),some (.int c),some (.int n),some (.ref rl),some (.ref nl),some (.int D),some (.int N),v9,ac,U,Y,aa]/\Same H H'/\H' rv=some (.lst (rs.reverse.map V.int))/\H' nl=some (.lst xs)/\Trs H' xs ts/\TabOk ts/\(∀r∈ts,r.2.2≠0)/\ts.length=2 * i/\(∀r∈ts,r.1∈rs.reverse.take i)/\((i=0/\D=0/\N=1)\/(0<i/\D=(ts.length:Int)/\N=(ts.length:Int)+1))
   refine J9 (K:=K) (a:=rv) (xs:=rs.reverse.map V.int) Pv
    ⟨0,1,[],[],none,none,none,none,none,rfl,S5.trans s6,aG,s6 _ _ (s5 _ _ v4),.nil,TabOk.nil,(λr hr=>by cases hr),rfl,(λr hr=>by cases hr),.inl ⟨rfl,rfl,rfl⟩⟩ (by rintro i σ H' _ ⟨_,_,_,_,_,_,_,_,_,_,_,e,_⟩;exact SqL.of e) ?_ ?_
   ·rintro i x σ H7 br ⟨D,N,xs,ts,v9,ac,U,Y,aa,rfl,s7,a4,am,tr,T,hz,aH,aI,aw⟩;obtain ⟨B,rfl,hc⟩:=Jp br;obtain ⟨hi,bt⟩:=Yao.mp hc;have bG:i<rs.length:=by rw [List.length_reverse] at hi;exact hi
    have aJ:0<=B/\B<30:=rg B (List.mem_reverse.mp (Ybf hc));have aK:∀r∈ts,B<r.1:=λr hr=>by
     obtain ⟨j,hj,ej⟩:=List.mem_take_iff_getElem.mp (aI r hr);have:=Yef.mp bq j i (by lia) hi (by lia);rw [ej,bt] at this;exact this
    have bH:=tr.len;have ad:∀x:Int,2<=x->x<(ts.length:Int)+2->At ts x B:=λx h1 h2=>by
     have hk:(x-2).toNat<ts.length:=by lia
     exact .inr (.inr ⟨ts[(x-2).toNat],⟨h1,Yba hk⟩,aK _ (List.getElem_mem hk)⟩)
    dsimp only [Gq];refine Go (λσ' H'=>∃(sm:AD)(O:List (AD×Int×Int)),σ'=[some (.ref a),some (.int (st:Int)),some (.int hd),some (.int c),some (.int n),some (.ref rl),some (.ref nl),some (.int D),some (.int N),some (.int B),some (.ref sm),U,Y,aa]/\Same H7 H'/\H7 sm=none/\(D≠0->Smo H' sm O ts B)) ?t1 ?g1
    case g1=>
     intro ax;refine xe rfl (xe rfl ⟨Jb,λw1 h1=>?_⟩);obtain ⟨Ha,L,u1,x1⟩:=nwU (o:=.tup [.int D,.int N]) h1;rw [L];refine xe rfl (xe rfl ⟨Jb,λw2 h2=>?_⟩);obtain ⟨Hb,L,u2,x2⟩:=nwU (o:=.tup [.int N,.int D]) h2;rw [L];refine xe rfl (xe rfl ⟨Jb,λw3 h3=>?_⟩);obtain ⟨Hc,L,u3,x3⟩:=nwU (o:=.tup [.int D,.int D]) h3;rw [L];refine xe rfl (xe rfl ⟨Jb,λw4 h4=>?_⟩);obtain ⟨Hd,L,u4,x4⟩:=nwU (o:=.tup [.int N,.int N]) h4;rw [L];refine ⟨(by show 4<=sizeLine;decide),λsm an=>?_⟩;obtain ⟨He,L,u5,x5⟩:=nwU (o:=.lst [.ref w1,.ref w2,.ref w3,.ref w4]) an;rw [L];refine ax _ _ ⟨sm,[(w1,D,N),(w2,N,D),(w3,D,D),(w4,N,N)],rfl,u1.trans (u2.trans (u3.trans (u4.trans u5))),(u1.trans (u2.trans (u3.trans u4))).free an,λae=>?_⟩;have b8:0<i/\D=(ts.length:Int)/\N=(ts.length:Int)+1:=aw.resolve_left λz=>ae z.2.1;have A1:=ad D (by lia) (by lia);have A2:=ad N (by lia) (by lia);refine ⟨x5,λw hw=>?_,.inr rfl⟩;simp only [Yam,List.not_mem_nil,or_false] at hw;rcases hw with rfl | rfl | rfl | rfl
     ·exact ⟨u5 _ _ (u4 _ _ (u3 _ _ (u2 _ _ x1))),A1,A2,by lia⟩
     ·exact ⟨u5 _ _ (u4 _ _ (u3 _ _ x2)),A2,A1,by lia⟩
     ·exact ⟨u5 _ _ (u4 _ _ x3),A1,A1,by lia⟩
     ·exact ⟨u5 _ _ x4,A2,A2,by lia⟩
    rintro σ' H8 ⟨bu,bv,rfl,s8,aX,S0⟩;refine Go (λσ' H'=>∃(sm:AD)(O:List (AD×Int×Int)),σ'=[some (.ref a),some (.int (st:Int)),some (.int hd),some (.int c),some (.int n),some (.ref rl),some (.ref nl),some (.int D),some (.int N),some (.int B),some (.ref sm),U,Y,aa]/\Same H7 H'/\H7 sm=none/\Smo H' sm O ts B) ?t2 ?g2
    case g2=>
     intro ax;refine xe rfl ⟨rfl,xe rfl ?_⟩;by_cases ae:D=0;rotate_left
     ·exact O7 (λz=>absurd (V.int.inj (Ybt z)) ae) (λ_=>ax _ _ ⟨bu,bv,rfl,s8,aX,S0 ae⟩)
     refine O7 (λ_=>?_) (λz=>absurd (Yay (by rw [ae])) z);refine ⟨Jb,λw1 h1=>?_⟩;obtain ⟨Ha,L,u1,x1⟩:=nwU (o:=.tup [.int 0,.int 1]) h1;rw [L];refine ⟨Jb,λw2 h2=>?_⟩;obtain ⟨Hb,L,u2,x2⟩:=nwU (o:=.tup [.int 1,.int 1]) h2;rw [L];refine ⟨Jb,λsm an=>?_⟩;have u5:Same Hb (upd Hb sm (.lst [.ref w1,.ref w2])):=Same.new an;refine ax _ _ ⟨sm,[(w1,0,1),(w2,1,1)],rfl,s8.trans (u1.trans (u2.trans u5)),(s8.trans (u1.trans u2)).free an,Gc,λw hw=>?_,.inl rfl⟩;simp only [Yam,List.not_mem_nil,or_false] at hw;rcases hw with rfl | rfl
     ·exact ⟨u5 _ _ (u2 _ _ x1),.inl rfl,.inr (.inl rfl),(by show (1:Int)≠0;decide)⟩
     ·exact ⟨u5 _ _ x2,.inr (.inl rfl),.inr (.inl rfl),(by show (1:Int)≠0;decide)⟩
    clear S0 s8 aX;rintro σ' H8 ⟨sm,O,rfl,s8,bw,S⟩;obtain ⟨rn,bx⟩:=Int.eq_ofNat_of_zero_le aJ.1;refine xe rfl (xe rfl (xd rfl rfl ⟨c,50+rn,(by show [V.int c,V.int (50+B)]=_;rw [bx];rfl),by lia,λdr d0 d1=>?_⟩));dsimp only [Gq];have wl:(0:Int)<(O.length:Int)/\(0:Int)<(O.length:Int)-1/\(O.length:Int)-1<10:=by have:=S.n;lia
    refine xe rfl (xe rfl ⟨sm,xe rfl ⟨.inl (SqL.of S.e),xd rfl rfl ⟨(by show (0:Int)<((O.map λw=>V.ref w.1).length:Int);rw [Yac];exact wl.1),?_⟩⟩⟩);dsimp only [Gq];rw [Yac];have a0:0<=dr % (O.length:Int):=Ycj _ (by lia);have a1:dr % (O.length:Int)<(O.length:Int):=Yco _ wl.1;generalize dr % (O.length:Int)=ai at a0 a1 ⊢;obtain ⟨t1,x1,y1,g1,e1,A1,B1,z1⟩:=S.get a0 a1;refine xe rfl ⟨.inl ⟨rfl,_,SqL.of (s8 _ _ am)⟩,xe rfl ⟨(by show 1<=sizeLine;decide),λp1 bz=>?_⟩⟩;obtain ⟨H9,L,u1,w1⟩:=nwU (o:=.tup [.int B]) bz;rw [L];refine xe rfl (xe rfl ⟨sm,_,xd rfl rfl ⟨SqL.of (u1 _ _ S.e),g1,p1,t1,xd rfl rfl ⟨SqT.of w1,SqT.of (u1 _ _ e1),by simp,(by show 3<=sizeLine;decide),(λz=>by cases z),λ_ p2 b2=>?_⟩⟩⟩);obtain ⟨af,L,u2,w2⟩:=nwU (o:=.tup ([.int B]++[.int x1,.int y1])) b2;have w2:af p2=some (.tup [.int B,.int x1,.int y1]):=w2;rw [L];have U2:=(s8.trans u1).trans u2;have a5:=U2 _ _ am;refine ⟨nl,xd rfl rfl ⟨a5,by lia,?_⟩⟩;dsimp only [JJ];have aL:=G8 (o:=.lst (xs++[.ref p2])) a5;have aM:upd af nl (.lst (xs++[.ref p2])) nl=some (.lst (xs++[.ref p2])):=Gc;have a6:=((tr.same U2).keep aL).snoc (aL _ _ w2);have aY:Same H (upd af nl (.lst (xs++[.ref p2]))):=(s7.trans U2).put a2;have ao:upd af nl (.lst (xs++[.ref p2])) rv=some (.lst (rs.reverse.map V.int)):=Gm (U2 _ _ a4) (Ne.symm aW);have ap:Smo (upd af nl (.lst (xs++[.ref p2]))) sm O ts B:=by
     have ay:=(S.same u1).same u2;exact ⟨Gm ay.e (Ne.symm (Gg am bw)),λw hw=>⟨aL _ _ (ay.w w hw).1,(ay.w w hw).2⟩,ay.n⟩
    generalize upd af nl (.lst (xs++[.ref p2]))=bI at aM a6 aY ao ap ⊢;have f0:0<=dr / 4 % ((O.length:Int)-1):=Ycj _ (by lia);have f1:dr / 4 % ((O.length:Int)-1)<(O.length:Int)-1:=Yco _ wl.2.1;refine xe rfl (xd rfl rfl (xe rfl (xd rfl rfl ⟨⟨by decide,GH⟩,xe rfl ⟨sm,xe rfl ⟨.inl (SqL.of ap.e),xd rfl rfl (xd rfl rfl ⟨(by show (0:Int)<((O.map λw=>V.ref w.1).length:Int)-1;rw [Yac];exact wl.2.1),xd rfl rfl (xe rfl ⟨sm,xe rfl ⟨.inl (SqL.of ap.e),xd rfl rfl ⟨(by show (0:Int)<((O.map λw=>V.ref w.1).length:Int);rw [Yac];exact wl.1),?_⟩⟩⟩)⟩)⟩⟩⟩)));dsimp only [Gq];rw [Yac];have b0:0<=(ai+1+dr / 4 % ((O.length:Int)-1)) % (O.length:Int):=Ycj _ (by lia);have b1:(ai+1+dr / 4 % ((O.length:Int)-1)) % (O.length:Int)<(O.length:Int):=Yco _ wl.1;generalize (ai+1+dr / 4 % ((O.length:Int)-1)) % (O.length:Int)=bi at b0 b1 ⊢;obtain ⟨t2,x2,y2,g2,e2,A2,B2,z2⟩:=ap.get b0 b1;refine xe rfl ⟨.inl ⟨rfl,_,SqL.of aM⟩,xe rfl ⟨(by show 1<=sizeLine;decide),λp3 b3=>?_⟩⟩;obtain ⟨bJ,L,u3,w3⟩:=nwU (o:=.tup [.int B]) b3;rw [L];refine xe rfl (xe rfl ⟨sm,_,xd rfl rfl ⟨SqL.of (u3 _ _ ap.e),g2,p3,t2,xd rfl rfl ⟨SqT.of w3,SqT.of (u3 _ _ e2),by simp,(by show 3<=sizeLine;decide),(λz=>by cases z),λ_ p4 b4=>?_⟩⟩⟩);obtain ⟨aq,L,u4,w4⟩:=nwU (o:=.tup ([.int B]++[.int x2,.int y2])) b4;have w4:aq p4=some (.tup [.int B,.int x2,.int y2]):=w4;rw [L];have U4:=u3.trans u4;have a7:=U4 _ _ aM;refine ⟨nl,xd rfl rfl ⟨a7,by rw [Yak,Ybc];lia,?_⟩⟩;dsimp only [JJ];have aZ:=G8 (o:=.lst (xs++[.ref p2]++[.ref p4])) a7;have az:upd aq nl (.lst (xs++[.ref p2]++[.ref p4])) nl=some (.lst (xs++[.ref p2]++[.ref p4])):=Gc;have a8:=((a6.same U4).keep aZ).snoc (aZ _ _ w4);have ba:Same H (upd aq nl (.lst (xs++[.ref p2]++[.ref p4]))):=(aY.trans U4).put a2;have as:upd aq nl (.lst (xs++[.ref p2]++[.ref p4])) rv=some (.lst (rs.reverse.map V.int)):=Gm (U4 _ _ ao) (Ne.symm aW);generalize upd aq nl (.lst (xs++[.ref p2]++[.ref p4]))=bK at az a8 ba as ⊢;have T1:=TabOk.snoc (r:=(B,x1,y1)) T aJ A1 B1;have T2:=TabOk.snoc (r:=(B,x2,y2)) T1 aJ (A2.app _) (B2.app _);have bb:(xs++[V.ref p2]++[V.ref p4]).length=2 * i+2:=by rw [Yak,Yak,Ybc,Ybc];lia
    refine xe rfl ⟨nl,xe rfl ⟨.inl (SqL.of az),xe rfl ⟨nl,xe rfl ⟨.inl (SqL.of az),xd rfl rfl ⟨_,xe rfl ?_⟩⟩⟩⟩⟩;rw [bb];have aN:(ts++[(B,x1,y1)]++[(B,x2,y2)]).length=2 * i+2:=by rw [Yak,Yak,Ybc,Ybc];lia
    have tk:rs.reverse.take (i+1)=rs.reverse.take i++[B]:=by rw [Ycf,hc];rfl
    refine ⟨_,_,_,_,_,_,_,_,xe rfl ⟨ba,as,az,a8,T2,λr hr=>?_,by rw [aN];lia,λr hr=>?_,.inr ⟨by lia,by rw [aN],by rw [aN]⟩⟩⟩
    ·rcases Yaj.mp hr with h | h
     ·rcases Yaj.mp h with h | h
      ·exact hz r h
      ·rw [Yai.mp h];exact z1
     ·rw [Yai.mp h];exact z2
    ·rw [tk];rcases Yaj.mp hr with h | h
     ·rcases Yaj.mp h with h | h
      ·exact Ydr _ (aI r h)
      ·rw [Yai.mp h];exact Yby _ (by simp)
     ·rw [Yai.mp h];exact Yby _ (by simp)
   ·rintro σ H7 ⟨D,N,xs,ts,v9,ac,U,Y,aa,rfl,s7,a4,am,tr,T,hz,aH,aI,aw⟩;rw [Yac,List.length_reverse] at aH aw;have h0:0<rs.length:=List.length_pos_iff.mpr av;obtain ⟨_,h1,h2⟩:=aw.resolve_left λz=>by lia
    exact hk _ _ ⟨D,N,xs,ts,v9,ac,U,Y,aa,rfl,s7,am,tr,T,hz,by lia,by lia,h1,h2⟩
  rintro σ' H6 ⟨D,N,xs,ts,v9,ac,U,Y,aa,rfl,s6,b5,tr,T,hz,aH,b9,ae,bL⟩;refine ⟨_,rfl,_,rfl,Jb,λp hp=>⟨_,rfl,_,_,rfl,rfl,⟨by decide,GH⟩,_,_,rfl,rfl,(by show (0:Int)<2;decide),p,[.int D,.int N],hd / 11520 % 2,?_⟩⟩;have s7:Same H6 (upd H6 p (.lst [.int D,.int N])):=Same.new hp;have j0:0<=hd / 11520 % 2:=Ycj _ (by decide);have j1:hd / 11520 % 2<2:=Yco _ (by decide);have j:hd / 11520 % 2=0\/hd / 11520 % 2=1:=by lia
  have fin:∀root:Int,2<=root->root<(ts.length:Int)+2->ZeB [.int root,.ref nl] (upd H6 p (.lst [.int D,.int N])) Q (λ_ _ _=>False):=λroot h1 h2=>by
   have hk:(root-2).toNat<ts.length:=by lia
   have ar:At ts root (-1):=.inr (.inr ⟨ts[(root-2).toNat],⟨h1,Yba hk⟩,by have:=(T _ _ (Yba hk)).1.1;lia⟩);refine ⟨nl,root,xs,ts,rfl,s7 _ _ b5,tr.same s7,T,by lia,ar,λpt lt a0 ys us fs H8 s8 b6 b7 W R Fi nd bM Sd bc bN h0=>?_⟩;have S7:=s6.trans s7;refine q pt lt a0 ys us H8 (S7.trans s8) (S7.free b6) (S7.free b7) W (Sd.tab T bc) (Sd.at ar h0) (by lia) (Zbw T Sd bc hz) ?_;have:=(ON h0 (by lia)).1
   lia
  rcases j with h | h
  ·exact ⟨.int D,rfl,rfl,SqL.of Gc,by rw [h];exact GC (j:=0) rfl,xe rfl (fin D (by lia) (by lia))⟩
  ·exact ⟨.int N,rfl,rfl,SqL.of Gc,by rw [h];exact GC (j:=1) rfl,xe rfl (fin N (by lia) (by lia))⟩
end
theorem LamSt.other (h:LamSt P j col qual H)(B:SameL q H H')(e:H q=some (.tbl ps))(n:P≠q):LamSt P j col qual H':=by
 rcases h with h | ⟨c,h1,D,h2,L⟩
 ·exact .inl (B _ _ n h)
 ·exact .inr ⟨c,B _ _ n h1,D,B _ _ (λz=>by rw [z,e] at h2;cases h2) h2,L⟩
structure Env2 (tD tF:AD)(H:Hp):Prop where
 ld:LD tD H
 ls:LS tF H
 ne:tD≠tF
structure Kp (K:FG)(H H':Hp):Prop where
 lst:∀a xs,H a=some (.lst xs)->H' a=some (.lst xs)
 tup:∀a xs,H a=some (.tup xs)->H' a=some (.tup xs)
 sq:∀a xs,SqL K H a xs->SqL K H' a xs
section
variable {K:FG}{H H' H'':Hp}{tD tF:AD}
theorem Kp.same (s:Same H H'):Kp K H H':=⟨λa xs e=>s _ _ e,λa xs e=>s _ _ e,λa xs h=>s.seq h⟩
theorem Kp.trans (k:Kp K H H')(j:Kp K H' H''):Kp K H H'':=⟨λa xs e=>j.lst _ _ (k.lst _ _ e),λa xs e=>j.tup _ _ (k.tup _ _ e),λa xs h=>j.sq _ _ (k.sq _ _ h)⟩
theorem Kp.of (j:SameL P H H')(e:H P=some (.tbl ps)):Kp K H H':=by
 refine ⟨λa xs h=>j.lst e h,λa xs h=>j.tup e h,λa xs h=>?_⟩;rcases h with (h | ⟨o,h⟩) | h
 ·exact .inl (.inl (j.lst e h))
 ·exact .inl (.inr ⟨o,j _ _ (λz=>by rw [z,e] at h;cases h) h⟩)
 ·exact .inr h
theorem Env2.same (E:Env2 tD tF H)(s:Same H H'):Env2 tD tF H':=⟨E.ld.same s,E.ls.same s,E.ne⟩
theorem Env2.stepD (E:Env2 tD tF H)(j:SameL tD H H')(q:LD tD H'):Env2 tD tF H'/\Kp K H H':=by
 obtain ⟨ps,e⟩:=E.ld.tbl;exact ⟨⟨q,LamSt.other E.ls j e (Ne.symm E.ne),E.ne⟩,Kp.of j e⟩
theorem Env2.stepF (E:Env2 tD tF H)(j:SameL tF H H')(q:LS tF H'):Env2 tD tF H'/\Kp K H H':=by
 obtain ⟨ps,e⟩:=E.ls.tbl;exact ⟨⟨LamSt.other E.ld j e E.ne,q,E.ne⟩,Kp.of j e⟩
theorem TabAt.kp {tp l:AD}(W:TabAt H tp l root xs ts)(k:Kp K H H'):TabAt H' tp l root xs ts:=⟨k.tup _ _ W.w,k.lst _ _ W.l,W.t.keep k.tup⟩
end
theorem ZcP (F:Fam):ndB F=Up (pfF F):=by
 unfold ndB Up;cases pfF F <;> rfl
theorem Zbx {zs:List (AD×LI)}(rs:∀z∈zs,RS z.2)(L:Lx (zs.map (·.2)))(Y:lF (zs.map (·.2))<=600):FamOk (zs.map (·.2))/\∃U Un:List Fam,(∀k,Rc pfF (zs.map (·.2)) k->k∈U)/\(∀k,Rc pfF (zs.map (·.2)) k->Up (pfF k)=true->k∈Un)/\U.length<=10000/\Un.length<=600:=by
 have j:∀s∈zs.map (·.2),RS s:=λs q=>by
  obtain ⟨z,N,rfl⟩:=Yal.mp q;exact rs z N
 have B:FamOk (zs.map (·.2)):=⟨L.imp (λ{a b} z e=>by rw [e,Jg] at z;cases z),λs q=>(j s q).up,λs q=>(j s q).rg⟩;have Z:=nodes_le B;have n2:=XB (wF (zs.map (·.2))) (zs.map (·.2));exact ⟨B,Uq (wF (zs.map (·.2))) (zs.map (·.2)),(Uq (wF (zs.map (·.2))) (zs.map (·.2))).filter ndB,λk D=>Zdu B D,λk D O=>Ycg.mpr ⟨Zdu B D,by rw [ZcP];exact O⟩,by lia,by lia⟩
theorem Zby (j:FamOk F):Abv pfF F (-1):=λr a b e=>by
 have:=((Wp j).nd _ _ _ _ .start e).1.1
 lia
theorem TabOk.rg (T:TabOk ts){m:Nat}(B:30<=m):∀r∈ts,(0<=r.1/\r.1<(m:Int))/\(0<=r.2.1/\r.2.1<(ts.length:Int)+2)/\(0<=r.2.2/\r.2.2<(ts.length:Int)+2):=λr j=>by
 obtain ⟨i,hi,rfl⟩:=Yck j;obtain ⟨h1,h2,q⟩:=T i _ (Yba hi);exact ⟨⟨h1.1,by lia⟩,h2.lt,q.lt⟩
noncomputable def MinC (qs:LI)(ts:List Tri)(c m:Int):Prop:=(∃s,Has ts c s/\cst qs s=m)/\∀s,Has ts c s->m<=cst qs s
theorem MinC.one (h:MinC qs ts c m)(h':MinC qs ts c j):m=j:=by
 obtain ⟨⟨s,a,b⟩,k⟩:=h;obtain ⟨⟨s',q,D⟩,B⟩:=h';have:=k s' q;have:=B s a
 lia
theorem Zbz {ts:List Tri}(T:TabOk ts)(hz:∀r∈ts,r.2.2≠0):∀(m:Nat){c lo:Int},At ts c lo->c≠0->30-lo<=(m:Int)->∃s,Has ts c s
 | 0,c,lo,a,h0,hm=>by
  rcases a with rfl | rfl | ⟨r,n,g⟩
  ·exact absurd rfl h0
  ·exact ⟨[],.one⟩
  ·have:=(T.nd n).1
   lia
 | m+1,c,lo,a,h0,hm=>by
  rcases a with rfl | rfl | ⟨r,n,g⟩
  ·exact absurd rfl h0
  ·exact ⟨[],.one⟩
  ·obtain ⟨s,j⟩:=Zbz T hz m (T.nd n).2.2 (hz r (Ybf n.2)) (by lia);exact ⟨r.1::s,.high n j⟩
theorem ZcQ (B:Best qs (Has ts c) 1 l)(h:∃s,Has ts c s):∃x,l=[x]/\Has ts c x.2/\x.1=cst qs x.2/\MinC qs ts c x.1:=by
 obtain ⟨s,j⟩:=h;have q:l.length=1:=by
  have:=B.le;rcases B.all s j with h | h
  ·have:=List.length_pos_of_mem h
   lia
  ·exact h.1
 obtain ⟨x,rfl⟩:=List.length_eq_one_iff.mp q;obtain ⟨h1,h2⟩:=B.of x (Yai.mpr rfl);refine ⟨x,rfl,h1,h2,⟨x.2,h1,h2.symm⟩,λt D=>?_⟩;rcases B.all t D with h | ⟨_,h⟩
 ·rw [<-Yai.mp h];exact Int.le_refl _
 ·rcases plt_iff.mp (h x (Yai.mpr rfl)) with h | h
  ·exact Int.le_of_lt h
  ·exact Int.le_of_eq h.1
theorem ZeO (qs:LI)(ts:List Tri):MinC qs ts 1 0:=⟨⟨[],.one,rfl⟩,λs j=>by rw [Has.at1.mp j];exact Int.le_refl _⟩
structure Papr (qs:LI)(ts:List Tri)(ps:LI):Prop where
 len:ps.length=ts.length
 mn:∀i,i<ts.length->MinC qs ts ((i:Int)+2) (ps.getD i 0)
theorem Papr.shn {qs:LI}{ts:List Tri}{ps:LI}(h:Papr qs ts ps){c:Int}(h0:1<=c)(h1:c<(ts.length:Int)+2):MinC qs ts c (shn ps c):=by
 unfold M.shn;by_cases j:c<2
 ·rw [if_pos j,show c=1 by lia];exact ZeO qs ts
 ·rw [if_neg j];have:=h.mn (c-2).toNat (by lia)
  rwa [show (((c-2).toNat:Nat):Int)+2=c by lia] at this
theorem ZcR (T:TabOk ts)(hz:∀r∈ts,r.2.2≠0)(h:Papr qs ts ps)(h0:root≠0)(O:At ts root (-1))(U:MinC qs ts root j)(q:Int):JR ts root qs ps q=decide (q=j):=by
 have Y:=O.lt;have Z:shn ps root=j:=(h.shn (by lia) Y.2).one U;have all:((List.range ts.length).all λi=>Ji ps qs i (ts.getD i (0,0,0)))=true:=List.all_eq_true.mpr λi hi=>by
  have hi:=Yci.mp hi;have er:ts.getD i (0,0,0)=ts[i]:=by rw [Ybv,Yba hi];rfl
  have n:Nd ts ((i:Int)+2) ts[i]:=⟨by lia,by rw [show ((i:Int)+2-2).toNat=i by lia];exact Yba hi⟩;obtain ⟨_,a1,a2⟩:=T.nd n;have b1:=a1.lt;have b2:=a2.lt;have hh:=hz _ (List.getElem_mem hi);have N:=h.mn i hi;obtain ⟨⟨s2,B,D⟩,_⟩:=h.shn (c:=ts[i].2.2) (by lia) b2.2;have l2:=N.2 _ (Has.high n B);rw [Jq,D] at l2;rw [er];unfold Ji;rw [Yay (p:=ps.getD i 0<=qs.getD ts[i].1.toNat 0+shn ps ts[i].2.2) (by lia),Bool.and_true];by_cases c0:ts[i].2.1=0
  ·simp [c0]
  ·obtain ⟨⟨s1,B,D⟩,_⟩:=h.shn (c:=ts[i].2.1) (by lia) b1.2;have l1:=N.2 _ (Has.low n B);rw [D] at l1;rw [Ybp (p:=shn ps ts[i].2.1<ps.getD i 0) (by lia),Bool.and_false]
   rfl
 unfold JR;rw [all,Ybp h0,Yay h.len,Z];by_cases L:q=j
 ·simp [L]
 ·have:¬ j=q:=λz=>L z.symm;simp [L,this]
section
variable {P:PP}{w:Ab}{K:FG}{mg:Str->Option Aa}{base:Heap}
noncomputable def ZcS (q tb:AD):Sp:=λvs H Q E=>∃(tp l j:AD)(root:Int)(xs:List V)(ts:List Tri)(qs:LI),vs=[.ref tp,.ref j]/\TabAt H tp l root xs ts/\TabOk ts/\ts.length<=900/\H j=some (.lst (qs.map V.int))/\(∀r∈ts,r.1<(qs.length:Int))/\(∀r∈ts,r.2.2≠0)/\LS tb H /\
 (root≠0->∀(a:AD)(ps:LI)(H':Hp),SameL tb H H'->LS tb H'->H a=none->H' a=some (.lst (ps.map V.int))->Papr qs ts ps->Q (.ref a) H')/\(root=0->E (.ref q) none H)
theorem scPpa:Gn ["table", "prices", "root", "nodes", "cheapest"] ["table", "prices"] (Gf Zex):=⟨rfl,rfl,rfl,by decide +kernel,rfl,by decide +kernel,by decide +kernel⟩
theorem ZgI (F:Fun K "price_paper" "price_paper" Zex f fd)(ab:Fun K "cheapest_below" "cheapest_below" Zev N q)(ad:Binds K q ["nodes", "prices", "k"] [])(ae:mg "cheapest_below" = some (.ref N))(af:GE P w K mg base CX0 2 N q ["nodes", "prices", "k"] (ZeM tb))(ag:mg "NoWay" = some (.ref nw))(ah:ExcC K nw)(B:mg "range" = none)(Y:mg "len" = none) :
  GE P w K mg base (CXr P w) 3 f fd ["table", "prices"] (ZcS nw tb):=by
 refine F.okR scPpa (λvs H Q E h=>?_) (λai A aj s H vs Q E hr h=>?_)
 ·obtain ⟨_,_,_,_,_,_,_,rfl,_⟩:=h
  rfl
 ·obtain ⟨tp,l,pr,root,xs,ts,qs,rfl,W,T,ak,al,am,hz,st,q1,q0⟩:=h;have ar:=Yav.symm;have an:(A.deeper (PyProof.Rows.envOfC "price_paper" (Gf Zex) s.heap.objs.size f ai)).units+1<cLine:=by have:=hr.un;lia
  have as:=W.t.len;refine ⟨_,Gb (Om (pv 0) (VR K (n:=2) rfl (Gi (gNm 2 scPpa.nd) (Gi (gNm 3 scPpa.nd) GN))))
    (Gb (GX (gCm OC (pv 2) Gd) (Gh (XT (E:=E) rfl Uj rfl ag ah (Ga Zc1 Ge))) Gp)
    (Gb (gSt 4 scPpa.nd (gCa af ae ab.kp ad Gu (Ga (pv 3) (Ga (pv 1) (Ga Gd Ge)))))
    (Gh (Gr (Jw (own:=["number"]) rfl (gSc [("cheapest", 4)]) (Wx rfl B (Ga Gd (Ga (Gk GP (gB1 (VQ K) Y Ybx (pv 3)) Gd) Ge))) (λ_ _ _ _=>gNm 0 (show List.Nodup (["number", "cheapest"]:List Str) by decide +kernel)) (λ_ _ _ _=>Gy) (λ_ _ _ _=>gIx (Zc8 K) (gIx (Uy K) (gDg an (pv 1) (pv 0)) Gd) Gd)))))),?_⟩
  refine lT4 ?_;intro Z R4 R3 R2;refine ⟨_,rfl,tp,_,rfl,SqT.of W.w,rfl,_,_,rfl,_,_,rfl,rfl,?_⟩;refine ⟨_,rfl,rfl,_,rfl,?_⟩;by_cases c0:root=0
  ·refine O7 (λ_=>?_) (λz=>absurd (Yay (by rw [c0])) z);exact ⟨YE,q0 c0⟩
  refine O7 (λz=>absurd (V.int.inj (Ybt z)) c0) (λ_=>?_);dsimp only [JJ];obtain ⟨au,eP⟩:=st.tbl;refine ⟨_,rfl,_,rfl,l,pr,xs,ts,qs,1,rfl,W.l,W.t,T,ak,al,am,by decide,st,λd kvs os H1 sl aa ed D fa=>?_⟩;have ao:H1 l=some (.lst xs):=sl.lst eP W.l;dsimp only [Gq];refine ⟨_,rfl,l,xs,rfl,.inl (SqL.of ao),_,_,rfl,rfl,_,_,rfl,⟨by decide,by decide,by lia,by lia⟩,λD' hD=>?_⟩;rw [show ((xs.length:Int)+2-2).toNat=ts.length by lia];have ap:H D'=none:=sl.free eP ⟨_,(aa.tbl).choose_spec⟩ hD
  let Pv:CI:=λj ys H'=>∃ps:LI,ys=ps.map V.int/\Same H1 H'/\H' D'=some (.lst ys)/\ps.length=j/\∀i,i<j->MinC qs ts ((i:Int)+2) (ps.getD i 0)
  refine O8 (lo:=2) (n:=ts.length) Pv ⟨[],rfl,Same.new hD,Gc,rfl,λi hi=>absurd hi (Ydf _)⟩ ?_ ?_
  ·rintro j ys H2 hj ⟨ps,rfl,O,eD,L,U⟩;have hN:Nd ts (2+(j:Int)) ts[j]:=⟨by lia,by rw [show (2+(j:Int)-2).toNat=j by lia];exact Yba hj⟩;have ac:At ts (2+(j:Int)) (-1):=.inr (.inr ⟨ts[j],hN,by have:=(T.nd hN).1.1;lia⟩);obtain ⟨v,g,lc,zc,G⟩:=D.fin fa ac;have hv:=G.v;subst hv;obtain ⟨x,ex,av,aw,aq⟩:=ZcQ (G.best (Yaf _)) (Zbz T hz 31 ac (by lia) (by decide));obtain ⟨z,rfl⟩:∃z,zc=[z]:=by
    have:=Ybh List.length ex;rw [Yac] at this;exact List.length_eq_one_iff.mp this
   have ez:z.2.2=x:=by simpa using ex
   subst ez;obtain ⟨p1,p2⟩:=G.pl z (Yai.mpr rfl);refine ⟨by first | exact ⟨rfl,rfl,trivial⟩ | exact ⟨rfl,trivial⟩,?_⟩;unfold XQ;refine Ob ?_;refine ⟨_,rfl,_,rfl,d,_,rfl,g▸DGet.k (k:=.inl (2+(j:Int))) (O _ _ ed),lc,_,_,_,rfl,rfl,SqL.of (O _ _ G.e),GC (j:=0) rfl,z.1,_,_,_,rfl,rfl,SqT.of (O _ _ p1),GC (j:=0) rfl,?_⟩;refine ⟨eD,by rw [Yac];lia,ps++[z.2.2.1],by rw [Yas];rfl,O.put hD,Gc,by rw [Yak,Ybc,L],λi hi=>?_⟩;by_cases e:i=j
   ·subst e;rw [show (ps++[z.2.2.1]).getD i 0=z.2.2.1 by rw [Ybv,Ydv (by lia),L];simp];rw [Int.add_comm];exact aq
   ·rw [show (ps++[z.2.2.1]).getD i 0=ps.getD i 0 by rw [Ybv,Ycx (by lia),Ybv]];exact U i (by lia)
  ·rintro ys H2 ⟨ps,rfl,O,eD,L,U⟩;exact q1 c0 D' ps H2 (sl.trans (.of O)) (aa.same O) ap eD ⟨L,U⟩
theorem best1 :Best qs S 1 [(c,s)]↔S s/\c=cst qs s/\∀t,S t->t=s\/JQ (c,s) (cst qs t,t)=true:=by
 constructor
 ·rintro ⟨_,h1,_,h2⟩;obtain ⟨a,b⟩:=h1 _ (Yai.mpr rfl);refine ⟨a,b,λt j=>?_⟩;rcases h2 t j with h | ⟨_,h⟩
  ·exact .inl (Ybh Prod.snd (Yai.mp h))
  ·exact .inr (h _ (Yai.mpr rfl))
 ·rintro ⟨h1,h2,B⟩;refine ⟨List.pairwise_singleton _ _,λx q=>?_,Yaf _,λt j=>?_⟩
  ·rw [Yai.mp q];exact ⟨h1,h2⟩
  ·rcases B t j with rfl | h
   ·exact .inl (by rw [h2];exact Yai.mpr rfl)
   ·exact .inr ⟨rfl,λx q=>by rw [Yai.mp q];exact h⟩
noncomputable def LpV (H:Hp)(qs:LI)(S:LI->Prop)(v:V):Prop:=(v=.non/\∀s,¬ S s)\/∃T j c s,v=.ref T/\H T=some (.tup [.int c,.ref j])/\H j=some (.lst (s.map V.int))/\s.length<=1000/\Best qs S 1 [(c,s)]
noncomputable def ZcT (tb:AD):Sp:=λvs H Q _=>∃(tp l j:AD)(root:Int)(xs:List V)(ts:List Tri)(qs:LI),vs=[.ref tp,.ref j]/\TabAt H tp l root xs ts/\TabOk ts/\At ts root (-1)/\ts.length<=900/\H j=some (.lst (qs.map V.int))/\(∀r∈ts,r.1<(qs.length:Int))/\LS tb H /\
 ∀(v:V)(H':Hp),SameL tb H H'->LS tb H'->LpV H' qs (Has ts root) v->(∀T q c,v=.ref T->H' T=some (.tup [.int c,.ref q])->H q=none)->Q v H'
theorem scLpr:Gn ["table", "prices", "root", "nodes", "told"] ["table", "prices"] (Gf Zew):=⟨rfl,rfl,rfl,by decide +kernel,rfl,by decide +kernel,by decide +kernel⟩
theorem ZgJ (F:Fun K "least_price" "least_price" Zew f fd)(U:Fun K "cheapest_below" "cheapest_below" Zev N L)(Y:Binds K L ["nodes", "prices", "k"] [])(aa:mg "cheapest_below" = some (.ref N))(ab:GE P w K mg base CX0 2 N L ["nodes", "prices", "k"] (ZeM tb)):GE P w K mg base CX0 3 f fd ["table", "prices"] (ZcT tb):=by
 refine F.ok scLpr (λvs H Q E h=>?_) (λac A ad s H vs Q E hr h=>?_)
 ·obtain ⟨_,_,_,_,_,_,_,rfl,_⟩:=h
  rfl
 ·obtain ⟨tp,l,pr,root,xs,ts,qs,rfl,W,T,ar,ae,af,ag,st,q⟩:=h;have ai:=Yav.symm;have ah:(A.deeper (PyProof.Rows.envOfC "least_price" (Gf Zew) s.heap.objs.size f ac)).units+1<cLine:=by have:=hr.un;lia
  refine ⟨_,Gb (Om (pv 0) (VR K (n:=2) rfl (Gi (gNm 2 scLpr.nd) (Gi (gNm 3 scLpr.nd) GN))))
    (Gb (gSt 4 scLpr.nd (gDg ah (gCa ab aa U.kp Y Gu (Ga (pv 3) (Ga (pv 1) (Ga Gd Ge)))) (pv 2)))
    (Gh (Gr (ZbG (Zig K (pv 4)) (gIx (Uy K) (pv 4) Gd) Zc0)))),?_⟩
  refine lT3 ?_;intro Z R3 R2;refine ⟨_,rfl,tp,_,rfl,SqT.of W.w,rfl,_,_,rfl,_,_,rfl,rfl,?_⟩;refine ⟨_,rfl,_,rfl,l,pr,xs,ts,qs,1,rfl,W.l,W.t,T,ae,af,ag,by decide,st,λd kvs os H1 sl O ed D fa=>?_⟩;obtain ⟨v,g,lc,zc,G⟩:=D.fin fa ar;have hv:=G.v;subst hv;refine ⟨_,rfl,d,_,rfl,g▸DGet.k (k:=.inl root) ed,?_⟩;dsimp only [Gq];have B:=G.best (Yaf _);have aj:=B.le;rcases zc with _ | ⟨z,_ | ⟨z2,zc⟩⟩
  ·refine ⟨_,rfl,false,.inl ⟨_,SqL.of G.e,rfl⟩,?_⟩;refine OA ?_;exact q _ _ sl O (.inl ⟨rfl,λs hs=>by rcases B.all s hs with h | ⟨h,_⟩ <;> cases h⟩) (λ_ _ _ z=>by cases z)
  ·obtain ⟨p1,p2⟩:=G.pl z (Yai.mpr rfl);have hl:=W9 T ar (Int.le_refl _) (G.of z (Yai.mpr rfl)).1;refine ⟨_,rfl,true,.inl ⟨_,SqL.of G.e,rfl⟩,?_⟩;refine Ob ?_;refine ⟨_,rfl,lc,_,_,_,rfl,rfl,SqL.of G.e,GC (j:=0) rfl,?_⟩;refine q _ _ sl O (.inr ⟨z.1,z.2.1,z.2.2.1,z.2.2.2,rfl,p1,p2,by lia,B⟩) λT ls c e1 e2=>?_;cases e1;rw [p1] at e2;cases e2;exact (G.fr.2 z (Yai.mpr rfl)).2
  ·exact absurd B.le (by simp)
end
theorem Va :OpR X (compareOp .IsNot) (λx y H Q=>∃a b,x=.bl a/\y=.bl b/\Q (.bl (a != b)) H):=by
 intro qQ s σ H x y v u Q I j B h;obtain ⟨a,b,rfl,rfl,q⟩:=h;cases j;cases B;exact PyProof.Rows.isnot_bool (Gv I q rfl)
structure PaR (ts:List Tri)(qs ps:LI):Prop where
 len:ps.length=ts.length
 lo:∀i r,ts[i]?=some r->r.2.1≠0->ps.getD i 0<=shn ps r.2.1
 hi:∀i r,ts[i]?=some r->ps.getD i 0<=qs.getD r.1.toNat 0+shn ps r.2.2
theorem shows_iff :JR ts root qs ps j=true↔root≠0/\PaR ts qs ps/\shn ps root=j:=by
 have key:((List.range ts.length).all λi=>Ji ps qs i (ts.getD i (0,0,0)))=true↔∀i r,ts[i]?=some r->Ji ps qs i r=true:=by
  rw [List.all_eq_true];constructor
  ·intro h i r e;have hi:=(Yao.mp e).1;have:=h i (Yci.mpr hi)
   rwa [Ybv,e] at this
  ·intro h i hi;have hi:=Yci.mp hi;rw [Ybv,Yba hi];exact h i _ (Yba hi)
 have one:∀i r,Ji ps qs i r=true↔(r.2.1≠0->ps.getD i 0<=shn ps r.2.1)/\ps.getD i 0<=qs.getD r.1.toNat 0+shn ps r.2.2:=λi r=>by
  unfold Ji;by_cases h:r.2.1=0
  ·simp [h]
  ·simp [h]
 unfold JR;rw [Ybz,Ybz,Ybz,key];constructor
 ·rintro ⟨⟨⟨h1,h2⟩,B⟩,q⟩;exact ⟨by simpa using h1,⟨Ybt h2,λi r e=>((one i r).mp (B i r e)).1,λi r e=>((one i r).mp (B i r e)).2⟩,Ybt q⟩
 ·rintro ⟨h1,h2,q⟩;exact ⟨⟨⟨by simpa using h1,Yay h2.len⟩,λi r e=>(one i r).mpr ⟨h2.lo i r e,h2.hi i r e⟩⟩,Yay q⟩
theorem Jr {f:Int->Int->Int}(h0:f 0 0=0):∀{p q:LI},p.length=q.length->∀i,(List.zipWith f p q).getD i 0=f (p.getD i 0) (q.getD i 0)
 | [],[],_,i=>by simp [h0]
 | [],_::_,h,_=>by cases h
 | _::_,[],h,_=>by cases h
 | a::p,b::q,h,0=>rfl
 | a::p,b::q,h,i+1=>by
  simp only [List.zipWith_cons_cons,List.getD_cons_succ];exact Jr h0 (by simpa using h) i
theorem Oz (h0:f 0 0=0)(j:p.length=q.length)(c:Int):shn (List.zipWith f p q) c=f (shn p c) (shn q c):=by
 unfold shn;split
 ·exact h0.symm
 ·exact Jr h0 j _
theorem OZ (k:Int)(p:LI)(i:Nat):(p.map (k * ·)).getD i 0=k * p.getD i 0:=by
 rw [Ybv,Yaz,Ybv];cases p[i]? <;> simp
theorem XE (k:Int)(p:LI)(c:Int):shn (p.map (k * ·)) c=k * shn p c:=by
 unfold shn;split
 ·simp
 ·exact OZ k p _
section
variable {ts:List Tri}{qs qs' ps ps':LI}
theorem PaR.add (h:PaR ts qs ps)(g:PaR ts qs' ps')(B:qs.length=qs'.length):PaR ts (List.zipWith (·+·) qs qs') (List.zipWith (·+·) ps ps'):=by
 have e:=h.len.trans g.len.symm;refine ⟨by rw [List.length_zipWith,h.len,g.len];simp,λi r j q=>?_,λi r j=>?_⟩
 ·rw [Jr rfl e,Oz rfl e];have:=h.lo i r j q;have:=g.lo i r j q
  lia
 ·rw [Jr rfl e,Oz rfl e,Jr rfl B];have:=h.hi i r j;have:=g.hi i r j
  lia
theorem PaR.mul (h:PaR ts qs ps):PaR ts (qs.map (3 * ·)) (ps.map (3 * ·)):=by
 refine ⟨by rw [Yac,h.len],λi r j q=>?_,λi r j=>?_⟩
 ·rw [OZ,XE];have:=h.lo i r j q
  lia
 ·rw [OZ,XE,OZ];have:=h.hi i r j
  lia
theorem PaR.le (h:PaR ts qs ps)(k:∀i:Nat,qs.getD i 0<=qs'.getD i 0):PaR ts qs' ps:=
 ⟨h.len,h.lo,λi r j=>by have:=h.hi i r j;have:=k r.1.toNat;lia⟩
theorem PaR.two (h0:f 0 0=0)(mono:∀a b c d,a<=c->b<=d->f a b<=f c d)(B:∀a b c,f (c+a) (c+b)=c+f a b)(h:PaR ts qs ps)(g:PaR ts qs ps'):PaR ts qs (List.zipWith f ps ps'):=by
 have e:=h.len.trans g.len.symm;refine ⟨by rw [List.length_zipWith,h.len,g.len];simp,λi r j q=>?_,λi r j=>?_⟩
 ·rw [Jr h0 e,Oz h0 e];exact mono _ _ _ _ (h.lo i r j q) (g.lo i r j q)
 ·rw [Jr h0 e,Oz h0 e,<-B];exact mono _ _ _ _ (h.hi i r j) (g.hi i r j)
theorem YF (h:2<=c):shn ps c=ps.getD (c-2).toNat 0:=if_neg (by lia)
theorem PaR.sound (h:PaR ts qs ps)(j:Has ts c s):shn ps c<=cst qs s:=by
 induction j with
 | one=>exact Int.le_refl _
 | @low c r s n j ih=>
  rw [YF n.1];have:=h.lo _ r n.2 (λz=>by rw [z] at j;exact Has.zero j)
  lia
 | @high c r s n j ih=>
  rw [YF n.1,Jq];have:=h.hi _ r n.2
  lia
theorem Wu (h0:2<=c)(h1:c<(ps.length:Int)+2):shn (ps.map (·+b)) c=shn ps c+b:=by
 rw [YF h0,YF h0];have hi:(c-2).toNat<ps.length:=by lia
 rw [Ybv,Yaz,Yba hi,Ybv,Yba hi]
 rfl
theorem Wv (h:c<2):shn ps c=0:=if_pos h
theorem PaR.down (h:PaR ts qs ps)(T:TabOk ts)(O:0<=b):PaR ts qs (ps.map (·+(0-b))):=by
 have at_:∀i r,ts[i]?=some r->(ps.map (·+(0-b))).getD i 0=ps.getD i 0-b:=λi r j=>by
  have hi:i<ps.length:=by rw [h.len];exact (Yao.mp j).1
  rw [Ybv,Yaz,Yba hi,Ybv,Yba hi];show ps[i]+(0-b)=ps[i]-b
  lia
 have B:∀c,0<=c->c<(ts.length:Int)+2->shn ps c-b<=shn (ps.map (·+(0-b))) c:=λc h0 h1=>by
  by_cases h2:c<2
  ·rw [Wv h2,Wv h2]
   lia
  ·rw [Wu (by lia) (by rw [h.len];exact h1)]
   lia
 have q:∀(i:Nat)(r:Tri),ts[i]?=some r->(0<=r.2.1/\r.2.1<(ts.length:Int)+2)/\(0<=r.2.2/\r.2.2<(ts.length:Int)+2):=λi r j=>by
  have n:Nd ts ((i:Int)+2) r:=⟨by lia,by rw [show ((i:Int)+2-2).toNat=i by lia];exact j⟩;obtain ⟨_,D,L⟩:=T.nd n;have:=D.lt;have:=L.lt
  lia
 refine ⟨by rw [Yac,h.len],λi r j N=>?_,λi r j=>?_⟩
 ·rw [at_ i r j];have:=h.lo i r j N;have:=B _ (q i r j).1.1 (q i r j).1.2
  lia
 ·rw [at_ i r j];have:=h.hi i r j;have:=B _ (q i r j).2.1 (q i r j).2.2
  lia
end
noncomputable abbrev mn2 (a b:Int):Int:=if b<a then b else a
noncomputable abbrev mx2 (a b:Int):Int:=if b > a then b else a
theorem ZcU (j:Nat->List V->Hp->Prop)(h0:j 0 [] (upd H1 D (.lst [])))(Y:∀i zs H,i<=xs.length->j i zs H->SqB t K H a xs/\SqB t K H b ys)(hn:xs.length=ys.length)(Z:∀i x y zs H T,xs[i]?=some x->ys[i]?=some y->j i zs H->H T=none->g (.ref T) σ0 (upd H T (.tup [x,y])) λB H4=>GQ σ0 B/\tc B H4 λb N=>if b=true then te B N λy O=>O D=some (.lst zs)/\zs.length<sizeLine/\j (i+1) (zs++[y]) (upd O D (.lst (zs++[y]))) else j (i+1) zs N)(hd:∀zs H,j xs.length zs H->R H):∃W:Nat->Nat->List V->Hp->Prop,(∃m,W 0 m [] (upd H1 D (.lst [])))/\Jv (Itz t K a b) D g tc te σ0 W R:=by
 refine ⟨λi m zs H=>m=xs.length-i/\i<=xs.length/\j i zs H,⟨_,rfl,Yat _,h0⟩,?_⟩;rintro i m zs H ⟨rfl,hi,p⟩;obtain ⟨L,U⟩:=Y i zs H hi p;by_cases q:i<xs.length
 ·refine .inr ⟨⟨xs,ys,xs[i],ys[i],L,U,by simp [q],by simp⟩,j (i+1),λys' H' p'=>⟨xs.length-(i+1),by lia,rfl,q,p'⟩,λv H' y=>?_⟩;obtain ⟨T,x,y,rfl,hT,rfl,y1,y2⟩:=y;exact Z i x y zs _ T (y1 xs L) (y2 ys U) p hT
 ·have e:i=xs.length:=by lia
  subst e;exact .inl ⟨⟨xs,L,Yaf _⟩,hd zs H p⟩
theorem O0 (Z:p.length=q.length)(hl:p.length<=1000)(ea:H1 a=some (.lst (p.map V.int)))(eb:H1 b=some (.lst (q.map V.int)))(U:H1 D=none)(hk:∀x y,GQ (none::none::σ0) (some (.int x)::some (.int y)::σ0))(N:∀x y H (Q:VK),Q (.int (f x y)) H->te (some (.int x)::some (.int y)::σ0) H Q)(hd:∀H,Same H1 H->H D=some (.lst ((List.zipWith f p q).map V.int))->R H) :
  ∃W:Nat->Nat->List V->Hp->Prop,(∃m,W 0 m [] (upd H1 D (.lst [])))/\Jv (Itz false K a b) D (ZgT K 2 (ZD (Gq 0) (ZD (Gq 1) Zhh))) XQ te (none::none::σ0) W R:=by
 have aa:=Yav.symm
 let Pv:CI:=λj zs H=>zs=((List.zipWith f p q).take j).map V.int/\Same H1 H/\H D=some (.lst zs)
 refine ZcU (xs:=p.map V.int) (ys:=q.map V.int) Pv ⟨rfl,Same.new U,Gc⟩ (by rintro j zs H _ ⟨_,s,_⟩;exact ⟨SqL.of (s _ _ ea),SqL.of (s _ _ eb)⟩) (by rw [Yac,Yac];exact Z) ?_ ?_
 ·rintro j x y zs H T hx hy ⟨rfl,s,L⟩ hT;obtain ⟨n,rfl,B⟩:=Jp hx;obtain ⟨m,rfl,O⟩:=Jp hy;have hj:=(Yao.mp B).1;obtain ⟨H2,q_,Y,eT⟩:=nwU (o:=.tup [.int n,.int m]) hT;rw [q_];refine ⟨T,_,rfl,SqT.of eT,rfl,_,_,rfl,_,_,rfl,rfl,hk n m,?_⟩;unfold XQ;refine Ob ?_;refine N n m H2 _ ⟨Y _ _ L,by rw [Yac,Ybo,List.length_zipWith];lia,?_,(s.trans Y).put U,Gc⟩;rw [Ycf,List.getElem?_zipWith,B,O,Yas]
  rfl
 ·rintro zs H ⟨rfl,s,L⟩;rw [Yac,Yfl (by rw [List.length_zipWith];lia)] at L;exact hd H s L
theorem O3 {p:LI}(hl:p.length<=1000)(U:H1 a=some (.lst (p.map V.int)))(N:H1 D=none)(Y:∀x,GQ (none::σ0) (some (.int x)::σ0))(B:∀x H (Q:VK),Q (.int (f x)) H->te (some (.int x)::σ0) H Q)(Z:∀H,Same H1 H->H D=some (.lst ((p.map f).map V.int))->R H) :
  ∃W:Nat->Nat->List V->Hp->Prop,(∃m,W 0 m [] (upd H1 D (.lst [])))/\Jv (Itl K a) D (Gq 0) XQ te (none::σ0) W R:=by
 have aa:=Yav.symm
 let Pv:CI:=λj ys H'=>ys=((p.take j).map f).map V.int/\Same H1 H'/\H' D=some (.lst ys)
 refine J2 (K:=K) (a:=a) (xs:=p.map V.int) Pv ⟨rfl,Same.new N,Gc⟩ (by rintro j ys H' _ ⟨_,s,_⟩;exact SqL.of (s _ _ U)) ?_ ?_
 ·rintro j y ys H L ⟨rfl,s,q⟩;obtain ⟨n,rfl,O⟩:=Jp L;have hj:=(Yao.mp O).1;refine ⟨Y n,?_⟩;unfold XQ;refine Ob ?_;refine B n H _ ⟨q,by rw [Yac,Yac,Ybo];lia,?_,s.put N,Gc⟩;rw [Ycf,O,Yas,Yas]
  rfl
 ·rintro ys H ⟨rfl,s,q⟩;rw [Yac,Ycd] at q;exact Z H s q
structure T62 (H:Hp)(tp l:AD)(root:Int)(xs:List V)(us:List Tri):Prop where
 W:TabAt H tp l root xs us
 T:TabOk us
 ar:At us root (-1)
 len:us.length<=600
 hz:∀r∈us,r.2.2≠0
 nz:root≠0
section
variable {K:FG}{H H':Hp}{tp l tF:AD}{root:Int}{xs:List V}{us:List Tri}{qs ps:LI}
theorem T62.kp (B:T62 H tp l root xs us)(k:Kp K H H'):T62 H' tp l root xs us:=⟨B.W.kp k,B.T,B.ar,B.len,B.hz,B.nz⟩
theorem O4 (st:LS tF H)(j:SameL tF H H'):Kp K H H':=by
 obtain ⟨ps,e⟩:=st.tbl;exact Kp.of j e
theorem T62.ex (B:T62 H tp l root xs us):∃s,Has us root s:=Zbz B.T B.hz 31 B.ar B.nz (by decide)
theorem T62.rq (B:T62 H tp l root xs us)(q:qs.length=30):∀r∈us,r.1<(qs.length:Int):=λr j=>(TabOk.rg B.T (by lia) r j).1.2
theorem T62.rg (B:T62 H tp l root xs us)(j:qs.length=30):∀r∈us,(0<=r.1/\r.1<qs.length)/\(0<=r.2.1/\r.2.1<us.length+2)/\(0<=r.2.2/\r.2.2<us.length+2):=TabOk.rg B.T (by lia)
theorem T62.pap (B:T62 H tp l root xs us)(h:Papr qs us ps)(j:MinC qs us root m):PaR us qs ps/\shn ps root=m:=
 (shows_iff.mp (by rw [ZcR B.T B.hz h B.nz B.ar j m];exact Yay rfl)).2
theorem LpV.min (h:LpV H qs (Has us root) v)(ex:∃s,Has us root s):∃T j m s,v=.ref T/\H T=some (.tup [.int m,.ref j])/\H j=some (.lst (s.map V.int))/\s.length<=1000/\Best qs (Has us root) 1 [(m,s)]/\MinC qs us root m:=by
 rcases h with ⟨_,n⟩ | ⟨T,j,m,s,e,h1,h2,D,B⟩
 ·obtain ⟨s,L⟩:=ex;exact absurd L (n s)
 ·obtain ⟨N,q,O⟩:=best1.mp B;refine ⟨T,j,m,s,e,h1,h2,D,B,⟨s,N,q.symm⟩,λt U=>?_⟩;rcases O t U with rfl | h
  ·exact Int.le_of_eq q
  ·rcases plt_iff.mp h with h | ⟨h,_⟩
   ·exact Int.le_of_lt h
   ·exact Int.le_of_eq h
end
section
variable {P:PP}{w:Ab}{K:FG}{mg:Str->Option Aa}{base:Heap}
noncomputable def ZgK:Sp:=λvs H Q _=>∃(c:Int)(m:Nat),vs=[.int c,.int (m:Int)]/\m<=100/\∀(l:AD)(ps:LI)(H':Hp),Same H H'->H' l=some (.lst (ps.map V.int))->ps.length=m->Q (.ref l) H'
theorem Zh0:Gn ["cell", "many"] ["cell", "many"] (Gf Zg9):=⟨rfl,rfl,rfl,by decide +kernel,rfl,by decide +kernel,by decide +kernel⟩
theorem ZgL (F:Fun K "_law_third" "_law_third" Zg9 f fd)(L:Fun K "_law_prices" "_law_prices" Zg6 B j)(N:Binds K j ["cell", "many"] [])(O:mg "_law_prices" = some (.ref B))(GPr:GE P w K mg base CX0 2 B j ["cell", "many"] Zgu):GE P w K mg base CX0 3 f fd ["cell", "many"] ZgK:=by
 refine F.ok Zh0 (λvs H Q E h=>?_) (λZ A U s H vs Q E hr h=>?_)
 ·obtain ⟨_,_,rfl,_⟩:=h
  rfl
 ·obtain ⟨c,m,rfl,hm,q⟩:=h;refine ⟨_,Gh (Gr (Jw (own:=["price"]) rfl gSp (Ou K (gCa GPr O L.kp N Gu (Ga (pv 0) (Ga (pv 1) Ge)))) (λ_ _ _ _=>gNm 0 (show List.Nodup (["price"]:List Str) by decide +kernel)) (λ_ _ _ _=>Gy) (λ_ _ _ _=>Gk Gz (pv 0) Gd))),?_⟩;refine ⟨_,rfl,_,rfl,c,m,rfl,hm,λl ps H1 s1 _ Y hl=>⟨l,rfl,⟨_,SqL.of Y⟩,λD hD=>?_⟩⟩;refine O3 (K:=K) (f:=(· / 3)) (σ0:=[]) (by lia) Y hD (λ_=>by simp [GQ]) (λx H Q h=>⟨_,rfl,_,_,rfl,rfl,⟨by decide,GH⟩,h⟩) λH2 s2 e2=>?_;exact q D _ H2 (s1.trans s2) e2 (by rw [Yac,hl])
noncomputable def ZgM (tF:AD):Sp:=λvs H Q _=>∃(tp l j:AD)(root b:Int)(xs:List V)(us:List Tri)(qs:LI),vs=[.ref tp,.ref j,.int b]/\T62 H tp l root xs us/\H j=some (.lst (qs.map V.int))/\qs.length=30/\1<=b/\LS tF H/\∀H',SameL tF H H'->LS tF H'->Q (.bl true) H'
theorem scMov:Gn ["table", "prices", "by", "least", "paper", "down"] ["table", "prices", "by"] (Gf Zhc):=⟨rfl,rfl,rfl,by decide +kernel,rfl,by decide +kernel,by decide +kernel⟩
theorem ZgN (F:Fun K "_law_moved" "_law_moved" Zhc f fd)(aq:Fun K "least_price" "least_price" Zew ac L)(as:Binds K L ["table", "prices"] [])(au:mg "least_price" = some (.ref ac))(av:GE P w K mg base CX0 3 ac L ["table", "prices"] (ZcT tF))(aw:Fun K "price_paper" "price_paper" Zex ad N)(ax:Binds K N ["table", "prices"] [])(ay:mg "price_paper" = some (.ref ad))(az:GE P w K mg base (CXr P w) 3 ad N ["table", "prices"] (ZcS no tF))(ag:Fun K "paper_shows" "paper_shows" ZeT ae O)(ah:Binds K O ["table", "prices", "paper", "price"] [])(ai:mg "paper_shows" = some (.ref ae))(aj:GE P w K mg base CX0 2 ae O ["table", "prices", "paper", "price"] ZcJ)(ak:mg "isinstance" = none)(af:mg "bool" = none):GE P w K mg base CX0 4 f fd ["table", "prices", "by"] (ZgM tF):=by
 refine F.ok scMov (λvs H Q E h=>?_) (λa5 A a1 s H vs Q E hr h=>?_)
 ·obtain ⟨_,_,_,_,_,_,_,_,rfl,_⟩:=h
  rfl
 ·obtain ⟨tp,l,pr,root,b,xs,us,qs,rfl,B,am,hq,hb,st,q⟩:=h;have a6:=Yav.symm;have len:=B.len;have al:=B.ar.lt;refine ⟨_,Gb (gSt 3 scMov.nd (gIx (Zc8 K) (gCa av au aq.kp as Gu (Ga (pv 0) (Ga (pv 1) Ge))) Gd))
    (Gb (gSt 4 scMov.nd (gCa az ay aw.kp ax Xh (Ga (pv 0) (Ga (pv 1) Ge))))
    (Gb (GX (gCm Va (gCa aj ai ag.kp ah Gu (Ga (pv 0) (Ga (pv 1) (Ga (Jw (own:=["number"]) rfl (gSc [("by", 2)]) (Ou K (pv 4)) (λ_ _ _ _=>gNm 0 (show List.Nodup (["number", "by"]:List Str) by decide +kernel)) (λ_ _ _ _=>Gy) (λ_ _ _ _=>Gk GP (pv 0) (pv 1))) (Ga (Gk GP (pv 3) (pv 2)) Ge))))) JI) (Gh (Gr JI)) Gp)
    (Gb (gSt 5 scMov.nd (gCa aj ai ag.kp ah Gu (Ga (pv 0) (Ga (pv 1) (Ga (Jw (own:=["number"]) rfl (gSc [("by", 2)]) (Ou K (pv 4)) (λ_ _ _ _=>gNm 0 (show List.Nodup (["number", "by"]:List Str) by decide +kernel)) (λ_ _ _ _=>Gy) (λ_ _ _ _=>Gk JU (pv 0) (pv 1))) (Ga (Gk JU (pv 3) (pv 2)) Ge))))))
    (Gh (Gr (ZC (G7 (ZgX K) rfl ak Uw (Ga (pv 5) (Ga (XW af Z5) Ge))) (ZB (gCe OC (pv 5) (gCe ZbJ (gIx (Zc8 K) (pv 0) Gd) Gd))))))))),?_⟩
  refine lT5 ?_;intro Z R5 R4 R3 R2;refine ⟨_,rfl,_,rfl,tp,l,pr,root,xs,us,qs,rfl,B.W,B.T,B.ar,by lia,am,B.rq hq,st,λv H1 an ao L1 _=>?_⟩;obtain ⟨T,ls,m,s0,rfl,e1,_,_,_,Y⟩:=L1.min B.ex;refine ⟨T,_,_,_,rfl,rfl,SqT.of e1,GC (j:=0) rfl,?_⟩;have k1:Kp K H H1:=O4 st an;have B1:=B.kp k1;have aa:=k1.lst _ _ am;dsimp only [Gq];refine ⟨_,rfl,_,rfl,tp,l,pr,root,xs,us,qs,rfl,B1.W,B1.T,by lia,aa,B1.rq hq,B1.hz,ao,λ_ pa ps H2 ap a2 _ U a3=>?_,λz=>absurd z B1.nz⟩;obtain ⟨R,eR⟩:=B1.pap a3 Y;have a7:=R.len;have k2:Kp K H1 H2:=O4 ao ap;have B2:=B1.kp k2;have ab:=k2.lst _ _ aa;have a4:=an.trans ap;have up:JR us root qs (ps.map (·+b)) (m+b)=false:=by
   rw [Yed];intro h;obtain ⟨_,R',e'⟩:=shows_iff.mp h;obtain ⟨⟨s1,hs,hc⟩,_⟩:=Y;by_cases h2:2<=root
   ·have:=R'.sound hs;rw [Wu h2 (by rw [R.len];exact al.2),eR,hc] at this
    lia
   ·rw [Wv (by lia)] at e' eR
    lia
  have dn:JR us root qs (ps.map (· - b)) (m-b)=decide (1<root):=by
   have ef:(λx:Int=>x-b)=λx=>x+(0-b):=funext λx=>by lia
   rw [ef];by_cases h2:2<=root
   ·rw [Yay (by lia)];refine shows_iff.mpr ⟨B.nz,R.down B.T (by lia),?_⟩;rw [Wu h2 (by rw [R.len];exact al.2),eR]
    lia
   ·rw [Ybp (by lia),Yed];intro h;obtain ⟨_,_,e'⟩:=shows_iff.mp h;rw [Wv (by lia)] at e' eR
    lia
  dsimp only [Gq];refine ⟨_,rfl,_,rfl,_,rfl,pa,rfl,⟨_,SqL.of U⟩,λD hD=>?_⟩;refine O3 (K:=K) (f:=(·+b)) (σ0:=[some (.int b)]) (by lia) U hD (λ_=>by simp [GQ]) (λx H Q h=>⟨_,rfl,_,rfl,_,_,rfl,rfl,h⟩) λH3 s3 e3=>?_;refine ⟨_,rfl,_,rfl,_,_,rfl,rfl,tp,l,pr,D,root,m+b,xs,us,qs,_,rfl,B2.W.same s3,s3 _ _ ab,e3,by rw [Yac];lia,⟨by lia,al.2⟩,B2.rg hq,λH4 s4=>?_⟩;rw [up];refine ⟨_,_,rfl,rfl,_,rfl,?_⟩;refine OA ?_;dsimp only [JJ];have S4:=s3.trans s4;have B4:=B2.kp (Kp.same (K:=K) S4);refine ⟨_,rfl,_,rfl,_,rfl,pa,rfl,⟨_,SqL.of (S4 _ _ U)⟩,λD hD=>?_⟩;refine O3 (K:=K) (f:=(· - b)) (σ0:=[some (.int b)]) (by lia) (S4 _ _ U) hD (λ_=>by simp [GQ]) (λx H Q h=>⟨_,rfl,_,rfl,_,_,rfl,rfl,h⟩) λH5 s5 e5=>?_;refine ⟨_,rfl,_,rfl,_,_,rfl,rfl,tp,l,pr,D,root,m-b,xs,us,qs,_,rfl,B4.W.same s5,s5 _ _ (S4 _ _ ab),e5,by rw [Yac];lia,⟨by lia,al.2⟩,B4.rg hq,λH6 s6=>?_⟩;rw [dn];have S6:=S4.trans (s5.trans s6);dsimp only [Gq];refine ⟨_,rfl,_,_,true,rfl,⟨_,rfl,?_⟩,.inl ⟨_,.bl _,rfl,Ux⟩⟩;refine Ob ?_;refine ⟨_,rfl,_,rfl,tp,_,_,_,rfl,rfl,SqT.of (B4.W.same (s5.trans s6)).w,GC (j:=0) rfl,_,_,rfl,rfl,rfl,?_⟩;rw [Yay rfl];exact q _ (a4.trans (.of S6)) (a2.same S6)
noncomputable def ZcV (tF:AD):Sp:=λvs H Q _=>∃(tp l j p2:AD)(root:Int)(xs:List V)(us:List Tri)(q1 q2:LI),vs=[.ref tp,.ref j,.ref p2]/\T62 H tp l root xs us/\H j=some (.lst (q1.map V.int))/\q1.length=30/\H p2=some (.lst (q2.map V.int))/\q2.length=30/\LS tF H/\∀H',SameL tF H H'->LS tF H'->Q (.bl true) H'
theorem scAdd:Gn ["table", "ones", "others", "one", "set_of_one", "other", "set_of_other", "both", "paper", "thrice"] ["table", "ones", "others"] (Gf Zha):=⟨rfl,rfl,rfl,by decide +kernel,rfl,by decide +kernel,by decide +kernel⟩
theorem Xb (m:Int)(s:LI):SeqAt.shaped (.tuple [.int m,.list (s.map PyData.int)])=true:=by
 unfold SeqAt.shaped;rw [Ybz];have:=Jt s;refine ⟨by simp [PyData.canLay0,PyData.canLayAll0,OF],Yay ?_⟩;simp only [PyData.depth,PyData.depthAll]
 lia
theorem ZgO (m:Int)(s:LI):PyData.eqv (.tuple [.int m,.list (s.map PyData.int)]) (.tuple [.int m,.list (s.map PyData.int)])=true:=by
 have h1:=OG s s;simp only [PyData.eqv] at h1;simp only [PyData.eqv,PyData.eqvAll,h1];simp
theorem ZcW (B:Best qs S 1 [(m,s)]):Best (qs.map (3 * ·)) S 1 [(3 * m,s)]:=by
 have j:∀t,cst (qs.map (3 * ·)) t=3 * cst qs t:=λt=>by
  induction t with
  | nil=>rfl
  | cons r t ih=>rw [Jq,Jq,ih,OZ];lia
 obtain ⟨h1,h2,q⟩:=best1.mp B;refine best1.mpr ⟨h1,by rw [j,h2],λt D=>(q t D).imp id λh=>?_⟩;rw [j];rcases plt_iff.mp h with h | ⟨h,k⟩
 ·exact plt_iff.mpr (.inl (by simp only at h ⊢;lia))
 ·exact plt_iff.mpr (.inr ⟨by simp only at h ⊢;lia,k⟩)
theorem ZgP (F:Fun K "_law_added" "_law_added" Zha f fd)(ac:Fun K "least_price" "least_price" Zew aw N)(ad:Binds K N ["table", "prices"] [])(ae:mg "least_price" = some (.ref aw))(af:GE P w K mg base CX0 3 aw N ["table", "prices"] (ZcT tF))(az:Fun K "price_paper" "price_paper" Zex ax O)(a1:Binds K O ["table", "prices"] [])(a2:mg "price_paper" = some (.ref ax))(a3:GE P w K mg base (CXr P w) 3 ax O ["table", "prices"] (ZcS no tF))(aK:Fun K "paper_shows" "paper_shows" ZeT ay U)(aL:Binds K U ["table", "prices", "paper", "price"] [])(aM:mg "paper_shows" = some (.ref ay))(aN:GE P w K mg base CX0 2 ay U ["table", "prices", "paper", "price"] ZcJ)(an:mg "zip" = none):GE P w K mg base CX0 4 f fd ["table", "ones", "others"] (ZcV tF):=by
 refine F.ok scAdd (λvs H Q E h=>?_) (λbH A br s H vs Q E hr h=>?_)
 ·obtain ⟨_,_,_,_,_,_,_,_,_,rfl,_⟩:=h
  rfl
 ·obtain ⟨tp,l,p1,p2,root,xs,us,q1,q2,rfl,B,e1,ag,e2,aO,st,q⟩:=h;have bI:=Yav.symm;have hu:=hr.units;have len:=B.len;have al:=B.ar.lt;refine ⟨_,Gb (Om (gCa af ae ac.kp ad Gu (Ga (pv 0) (Ga (pv 1) Ge))) (VR K (n:=2) rfl (Gi (gNm 3 scAdd.nd) (Gi (gNm 4 scAdd.nd) GN))))
    (Gb (Om (gCa af ae ac.kp ad Gu (Ga (pv 0) (Ga (pv 2) Ge))) (VR K (n:=2) rfl (Gi (gNm 5 scAdd.nd) (Gi (gNm 6 scAdd.nd) GN))))
    (Gb (Jx (i:=7) scAdd.nd rfl (Or.inl rfl) (own:=["a", "b"]) rfl gSp (ZfR false K rfl an (Ga (pv 1) (Ga (pv 2) Ge))) (λ_ _ _ _=>VR K (n:=2) rfl (Gi (gNm 0 (show List.Nodup (["a", "b"]:List Str) by decide +kernel)) (Gi (gNm 1 (show List.Nodup (["a", "b"]:List Str) by decide +kernel)) GN))) (λ_ _ _ _=>Gy) (λ_ _ _ _=>Gk GP (pv 0) (pv 1)))
    (Gb (Jx (i:=8) scAdd.nd rfl (Or.inl rfl) (own:=["a", "b"]) rfl gSp (ZfR false K rfl an (Ga (gCa a3 a2 az.kp a1 Xh (Ga (pv 0) (Ga (pv 1) Ge))) (Ga (gCa a3 a2 az.kp a1 Xh (Ga (pv 0) (Ga (pv 2) Ge))) Ge))) (λ_ _ _ _=>VR K (n:=2) rfl (Gi (gNm 0 (show List.Nodup (["a", "b"]:List Str) by decide +kernel)) (Gi (gNm 1 (show List.Nodup (["a", "b"]:List Str) by decide +kernel)) GN))) (λ_ _ _ _=>Gy) (λ_ _ _ _=>Gk GP (pv 0) (pv 1)))
    (Gb (GX (PW.pt (ZbF (gCm Va (gCa aN aM aK.kp aL Gu (Ga (pv 0) (Ga (pv 7) (Ga (pv 8) (Ga (Gk GP (pv 3) (pv 5)) Ge))))) JI) (XH (gCm ZdD (gIx (Zc8 K) (gCa af ae ac.kp ad Gu (Ga (pv 0) (Ga (pv 7) Ge))) Gd) (Gk GP (pv 3) (pv 5)))))) (Gh (Gr JI)) Gp)
    (Gb (Jx (i:=9) scAdd.nd rfl (Or.inl rfl) (own:=["price"]) rfl gSp (Ou K (pv 1)) (λ_ _ _ _=>gNm 0 (show List.Nodup (["price"]:List Str) by decide +kernel)) (λ_ _ _ _=>Gy) (λ_ _ _ _=>Gk JV Gd (pv 0)))
    (Gb (Jx (i:=8) scAdd.nd rfl (Or.inl rfl) (own:=["number"]) rfl gSp (Ou K (gCa a3 a2 az.kp a1 Xh (Ga (pv 0) (Ga (pv 1) Ge)))) (λ_ _ _ _=>gNm 0 (show List.Nodup (["number"]:List Str) by decide +kernel)) (λ_ _ _ _=>Gy) (λ_ _ _ _=>Gk JV Gd (pv 0)))
    (Gh (Gr (ZC (gCe Zdq (gCa aN aM aK.kp aL Gu (Ga (pv 0) (Ga (pv 9) (Ga (pv 8) (Ga (Gk JV Gd (pv 3)) Ge))))) JI) (ZB (gCe (Zfo K hu) (gCa af ae ac.kp ad Gu (Ga (pv 0) (Ga (pv 9) Ge))) (GT (Ga (Gk JV Gd (pv 3)) (Ga (pv 4) Ge)))))))))))))),?_⟩
  refine lT8 ?_;intro Z R8 R7 R6 R5 R4 R3 R2;refine ⟨_,rfl,_,rfl,tp,l,p1,root,xs,us,q1,rfl,B.W,B.T,B.ar,by lia,e1,B.rq ag,st,λv H1 a4 a5 L1 _=>?_⟩;obtain ⟨T1,bt,m1,s1,rfl,t1,bu,bJ,aP,ao⟩:=L1.min B.ex;refine ⟨T1,_,rfl,SqT.of t1,rfl,_,_,rfl,_,_,rfl,rfl,?_⟩;have k1:Kp K H H1:=O4 st a4;have B1:=B.kp k1;refine ⟨_,rfl,_,rfl,tp,l,p2,root,xs,us,q2,rfl,B1.W,B1.T,B1.ar,by lia,k1.lst _ _ e2,B1.rq aO,a5,λv H2 a6 aQ aR _=>?_⟩;obtain ⟨T2,bK,m2,s2,rfl,t2,_,_,_,aS⟩:=aR.min B.ex;refine ⟨T2,_,rfl,SqT.of t2,rfl,_,_,rfl,_,_,rfl,rfl,?_⟩;have k2:Kp K H1 H2:=O4 a5 a6;have B2:=B1.kp k2;have ah:=k2.lst _ _ (k1.lst _ _ e1);have ai:=k2.lst _ _ (k1.lst _ _ e2);have aT:=k2.lst _ _ bu;have aU:=a4.trans a6;clear L1 aR t1 t2 B1 k1 k2 a5 a4 a6;refine ⟨_,rfl,_,rfl,p1,p2,_,_,rfl,SqL.of ah,SqL.of ai,λD hD=>?_⟩;refine O0 (K:=K) (f:=(·+·)) (σ0:=[]) (by lia) (by lia) ah ai hD (λ_ _=>by simp [GQ]) (λx y H Q h=>⟨_,rfl,_,rfl,_,_,rfl,rfl,h⟩) λH3 s3 e3=>?_;have B3:=B2.kp (Kp.same (K:=K) s3);have a7:=s3 _ _ ah;have aV:=s3 _ _ ai;have aW:=s3 _ _ aT;have a8:=aQ.same s3;have aX:=aU.trans (.of s3);have aY:(List.zipWith (·+·) q1 q2).length=30:=by rw [List.length_zipWith];lia
  clear B2 ah ai aT s3 aU aQ;dsimp only [Gq];refine ⟨_,rfl,_,rfl,tp,l,p1,root,xs,us,q1,rfl,B3.W,B3.T,by lia,a7,B3.rq ag,B3.hz,a8,λ_ pa ps H4 a9 aA _ aZ bv=>?_,λz=>absurd z B3.nz⟩;obtain ⟨R1,bw⟩:=B3.pap bv ao;have k4:Kp K H3 H4:=O4 a8 a9;have B4:=B3.kp k4;refine ⟨_,rfl,_,rfl,tp,l,p2,root,xs,us,q2,rfl,B4.W,B4.T,by lia,k4.lst _ _ aV,B4.rq aO,B4.hz,aA,λ_ pb ps' H5 aB ba _ aC bb=>?_,λz=>absurd z B4.nz⟩;obtain ⟨R2,bx⟩:=B4.pap bb aS;have k5:Kp K H4 H5:=O4 aA aB;have Y:=k5.lst _ _ aZ;have bD:=R1.len;have bE:=R2.len;refine ⟨pa,pb,_,_,rfl,SqL.of Y,SqL.of aC,λD2 bz=>?_⟩;refine O0 (K:=K) (f:=(·+·)) (σ0:=[]) (by lia) (by lia) Y aC bz (λ_ _=>by simp [GQ]) (λx y H Q h=>⟨_,rfl,_,rfl,_,_,rfl,rfl,h⟩) λH6 s6 e6=>?_;have k6:Kp K H3 H6:=(k4.trans k5).trans (Kp.same s6);have B6:=B3.kp k6;have aD:=k6.lst _ _ e3;have bc:=k6.lst _ _ a7;have bd:=k6.lst _ _ aW;have aE:=ba.same s6;have be:=aX.trans ((a9.trans aB).trans (.of s6));have bf:=R1.add R2 (by lia);have b0:(List.zipWith (·+·) ps ps').length<=1000:=by rw [List.length_zipWith];lia
  have ap:shn (List.zipWith (·+·) ps ps') root=m1+m2:=by rw [Oz rfl (by lia),bw,bx]
  clear B3 B4 a7 aV aW e3 a8 aA ba k4 k5 k6 s6 a9 aB aZ Y aC aX;dsimp only [Gq];refine ⟨_,rfl,_,rfl,_,rfl,_,rfl,_,rfl,_,_,rfl,rfl,tp,l,D,D2,root,m1+m2,xs,us,_,_,rfl,B6.W,aD,e6,b0,⟨by lia,al.2⟩,B6.rg aY,λH7 s7=>?_⟩;rw [shows_iff.mpr ⟨B6.nz,bf,ap⟩];refine ⟨_,_,rfl,rfl,_,rfl,?_⟩;refine OA ?_;have B7:=B6.kp (Kp.same (K:=K) s7);refine ⟨_,rfl,_,rfl,tp,l,D,root,xs,us,_,rfl,B7.W,B7.T,B7.ar,by lia,s7 _ _ aD,B7.rq aY,aE.same s7,λv H8 aF b3 L8 _=>?_⟩;obtain ⟨T8,bL,m8,s8,rfl,t8,_,_,aa,_⟩:=L8.min B.ex;refine ⟨T8,_,_,_,rfl,rfl,SqT.of t8,GC (j:=0) rfl,_,rfl,_,rfl,_,_,rfl,rfl,_,_,rfl,rfl,_,rfl,?_⟩;have ge:¬ m8<m1+m2:=by
   obtain ⟨b1,b2,_⟩:=best1.mp aa;have:=bf.sound b1;rw [ap,<-b2] at this
   lia
  rw [Ybp ge];refine OA ?_;dsimp only [JJ];have k8:Kp K H6 H8:=(Kp.same s7).trans (O4 (aE.same s7) aF);have B8:=B6.kp k8;have aG:=k8.lst _ _ bc;have b4:=k8.lst _ _ bd;have b5:=be.trans ((SameL.of s7).trans aF);clear B6 B7 aD bc bd aE s7 aF k8 L8 t8 aa be e6;refine ⟨_,rfl,p1,rfl,⟨_,SqL.of aG⟩,λD3 b6=>?_⟩;refine O3 (K:=K) (f:=(3 * ·)) (σ0:=[]) (by lia) aG b6 (λ_=>by simp [GQ]) (λx H Q h=>⟨_,rfl,_,_,rfl,rfl,.inl ⟨by decide,by decide⟩,h⟩) λH9 s9 e9=>?_;have B9:=B8.kp (Kp.same (K:=K) s9);have bg:=b3.same s9;dsimp only [Gq];refine ⟨_,rfl,_,rfl,tp,l,p1,root,xs,us,q1,rfl,B9.W,B9.T,by lia,s9 _ _ aG,B9.rq ag,B9.hz,bg,λ_ pc bM bN aq bh _ bi bj=>⟨pc,rfl,⟨_,SqL.of bi⟩,λD4 b7=>?_⟩,λz=>absurd z B9.nz⟩;obtain ⟨R3,b8⟩:=B9.pap bj ao;have bO:=R3.len;refine O3 (K:=K) (f:=(3 * ·)) (σ0:=[]) (by lia) bi b7 (λ_=>by simp [GQ]) (λx H Q h=>⟨_,rfl,_,_,rfl,rfl,.inl ⟨by decide,by decide⟩,h⟩) λbl aH b9=>?_;have aI:Kp K H9 bl:=(O4 bg aq).trans (Kp.same aH);have aj:=B9.kp aI;have as:=aI.lst _ _ e9;have bm:=aI.lst _ _ (s9 _ _ b4);have au:=bh.same aH;have bn:=b5.trans ((SameL.of s9).trans (aq.trans (.of aH)));have bo:(q1.map (3 * ·)).length=30:=by rw [Yac];exact ag
  dsimp only [Gq];refine ⟨_,rfl,_,rfl,_,rfl,_,rfl,_,_,rfl,rfl,.inl ⟨by decide,by decide⟩,tp,l,D3,D4,root,3 * m1,xs,us,_,_,rfl,aj.W,as,b9,by rw [Yac];lia,⟨by lia,al.2⟩,aj.rg bo,λbP L=>?_⟩;rw [shows_iff.mpr ⟨aj.nz,R3.mul,by rw [XE,b8]⟩];refine ⟨_,_,rfl,rfl,_,rfl,?_⟩;refine Ob ?_;have ak:=aj.kp (Kp.same (K:=K) L);refine ⟨_,rfl,_,rfl,tp,l,D3,root,xs,us,_,rfl,ak.W,ak.T,ak.ar,by lia,L _ _ as,ak.rq bo,au.same L,λv aJ av bp bA _=>?_⟩;obtain ⟨bQ,bF,bR,bS,rfl,bB,bq,bG,am,_⟩:=bA.min B.ex;have:=am.one (ZcW aP);cases this;have bC:Kp K bl aJ:=(Kp.same L).trans (O4 (au.same L) av);refine ⟨_,rfl,_,_,rfl,rfl,.inl ⟨by decide,by decide⟩,_,rfl,Jb,λt ht=>?_⟩;have ab:Same aJ (upd aJ t (.tup [.int (3 * m1),.ref bt])):=Same.new ht;refine ⟨.tuple [.int (3 * m1),.list (s1.map PyData.int)],.tuple [.int (3 * m1),.list (s1.map PyData.int)],.tup (SqT.of (ab _ _ bB)) (.cons (.int _) (.cons (.lst (SqL.of (ab _ _ bq)) (GV _)) .nil)),.tup (SqT.of Gc) (.cons (.int _) (.cons (.lst (SqL.of (ab _ _ (bC.lst _ _ bm))) (GV _)) .nil)),Xb _ _,Xb _ _,?_⟩;rw [ZgO];exact q _ (bn.trans ((SameL.of L).trans (av.trans (.of ab)))) (bp.same ab)
theorem scLes:Gn ["table", "ones", "others", "one", "other", "lesser", "least", "paper", "low", "high"] ["table", "ones", "others"] (Gf Zhb):=⟨rfl,rfl,rfl,by decide +kernel,rfl,by decide +kernel,by decide +kernel⟩
theorem ZcX (a b c d:Int)(h1:a<=c)(h2:b<=d):mn2 a b<=mn2 c d:=by unfold mn2;split <;> split <;> lia
theorem ZcY (a b c d:Int)(h1:a<=c)(h2:b<=d):mx2 a b<=mx2 c d:=by unfold mx2;split <;> split <;> lia
theorem ZeP (a b c:Int):mn2 (c+a) (c+b)=c+mn2 a b:=by unfold mn2;split <;> split <;> lia
theorem ZeQ (a b c:Int):mx2 (c+a) (c+b)=c+mx2 a b:=by unfold mx2;split <;> split <;> lia
theorem ZbA {q j:LI}(h:∀i:Nat,q.getD i 0<=j.getD i 0):∀s,cst q s<=cst j s
 | []=>Int.le_refl _
 | r::s=>by
  rw [Jq,Jq];have:=ZbA h s;have:=h r.toNat
  lia
theorem ZgQ (F:Fun K "_law_lesser" "_law_lesser" Zhb f fd)(a1:Fun K "least_price" "least_price" Zew ax N)(a2:Binds K N ["table", "prices"] [])(a3:mg "least_price" = some (.ref ax))(a4:GE P w K mg base CX0 3 ax N ["table", "prices"] (ZcT tF))(aG:Fun K "price_paper" "price_paper" Zex ay O)(aH:Binds K O ["table", "prices"] [])(aI:mg "price_paper" = some (.ref ay))(aJ:GE P w K mg base (CXr P w) 3 ay O ["table", "prices"] (ZcS no tF))(ae:Fun K "paper_shows" "paper_shows" ZeT az U)(af:Binds K U ["table", "prices", "paper", "price"] [])(ag:mg "paper_shows" = some (.ref az))(ah:GE P w K mg base CX0 2 az U ["table", "prices", "paper", "price"] ZcJ)(Y:mg "zip" = none)(L:mg "min" = none)(aq:mg "max" = none):GE P w K mg base CX0 4 f fd ["table", "ones", "others"] (ZcV tF):=by
 refine F.ok scLes (λvs H Q E h=>?_) (λbn A ba s H vs Q E hr h=>?_)
 ·obtain ⟨_,_,_,_,_,_,_,_,_,rfl,_⟩:=h
  rfl
 ·obtain ⟨tp,l,p1,p2,root,xs,us,q1,q2,rfl,B,e1,aa,e2,aK,st,q⟩:=h;have bo:=Yav.symm;have len:=B.len;have al:=B.ar.lt;refine ⟨_,Gb (gSt 3 scLes.nd (gIx (Zc8 K) (gCa a4 a3 a1.kp a2 Gu (Ga (pv 0) (Ga (pv 1) Ge))) Gd))
    (Gb (gSt 4 scLes.nd (gIx (Zc8 K) (gCa a4 a3 a1.kp a2 Gu (Ga (pv 0) (Ga (pv 2) Ge))) Gd))
    (Gb (Jx (i:=5) scLes.nd rfl (Or.inl rfl) (own:=["a", "b"]) rfl gSp (ZfR false K rfl Y (Ga (pv 1) (Ga (pv 2) Ge))) (λ_ _ _ _=>VR K (n:=2) rfl (Gi (gNm 0 (show List.Nodup (["a", "b"]:List Str) by decide +kernel)) (Gi (gNm 1 (show List.Nodup (["a", "b"]:List Str) by decide +kernel)) GN))) (λ_ _ _ _=>Gy) (λ_ _ _ _=>G7 (J0 rfl) rfl L Od (Ga (pv 0) (Ga (pv 1) Ge))))
    (Gb (gSt 6 scLes.nd (gIx (Zc8 K) (gCa a4 a3 a1.kp a2 Gu (Ga (pv 0) (Ga (pv 5) Ge))) Gd))
    (Gb (gSt 7 scLes.nd (gCa aJ aI aG.kp aH Xh (Ga (pv 0) (Ga (pv 1) Ge))))
    (Gb (gSt 8 scLes.nd (gCa aJ aI aG.kp aH Xh (Ga (pv 0) (Ga (pv 5) Ge))))
    (Gb (GX (gCm ZbJ (pv 6) (G7 (J0 rfl) rfl L Od (Ga (pv 3) (Ga (pv 4) Ge)))) (Gh (Gr JI)) Gp)
    (Gb (GX (PW.pt (ZbF (gCm Va (gCa ah ag ae.kp af Gu (Ga (pv 0) (Ga (pv 1) (Ga (pv 8) (Ga (pv 6) Ge))))) JI) (XH (gCm Va (gCa ah ag ae.kp af Gu (Ga (pv 0) (Ga (pv 2) (Ga (pv 8) (Ga (pv 6) Ge))))) JI)))) (Gh (Gr JI)) Gp)
    (Gb (Jx (i:=9) scLes.nd rfl (Or.inl rfl) (own:=["a", "b"]) rfl gSp (ZfR false K rfl Y (Ga (pv 7) (Ga (pv 8) Ge))) (λ_ _ _ _=>VR K (n:=2) rfl (Gi (gNm 0 (show List.Nodup (["a", "b"]:List Str) by decide +kernel)) (Gi (gNm 1 (show List.Nodup (["a", "b"]:List Str) by decide +kernel)) GN))) (λ_ _ _ _=>Gy) (λ_ _ _ _=>G7 (Wz rfl) rfl aq Yw (Ga (pv 0) (Ga (pv 1) Ge))))
    (Gb (GX (gCm Va (gCa ah ag ae.kp af Gu (Ga (pv 0) (Ga (pv 1) (Ga (pv 9) (Ga (G7 (Wz rfl) rfl aq Yw (Ga (pv 3) (Ga (pv 6) Ge))) Ge))))) JI) (Gh (Gr JI)) Gp)
    (Gh (Gr (gCe Zdq (gCa ah ag ae.kp af Gu (Ga (pv 0) (Ga (pv 1) (Ga (Jw (own:=["a", "b"]) rfl gSp (ZfR false K rfl Y (Ga (pv 7) (Ga (pv 8) Ge))) (λ_ _ _ _=>VR K (n:=2) rfl (Gi (gNm 0 (show List.Nodup (["a", "b"]:List Str) by decide +kernel)) (Gi (gNm 1 (show List.Nodup (["a", "b"]:List Str) by decide +kernel)) GN))) (λ_ _ _ _=>Gy) (λ_ _ _ _=>G7 (J0 rfl) rfl L Od (Ga (pv 0) (Ga (pv 1) Ge)))) (Ga (G7 (J0 rfl) rfl L Od (Ga (pv 3) (Ga (pv 6) Ge))) Ge))))) JI)))))))))))),?_⟩
  refine Zid ?_;intro Z bp bq R9 R8 R7 R6 R5 R4 R3 R2;refine ⟨_,rfl,_,rfl,tp,l,p1,root,xs,us,q1,rfl,B.W,B.T,B.ar,by lia,e1,B.rq aa,st,λv H1 a5 a6 L1 _=>?_⟩;obtain ⟨T1,br,m1,s1,rfl,t1,_,_,_,as⟩:=L1.min B.ex;refine ⟨T1,_,_,_,rfl,rfl,SqT.of t1,GC (j:=0) rfl,?_⟩;have k1:Kp K H H1:=O4 st a5;have B1:=B.kp k1;dsimp only [Gq];refine ⟨_,rfl,_,rfl,tp,l,p2,root,xs,us,q2,rfl,B1.W,B1.T,B1.ar,by lia,k1.lst _ _ e2,B1.rq aK,a6,λv H2 a7 aL aM _=>?_⟩;obtain ⟨T2,bt,m2,s2,rfl,t2,_,_,_,aN⟩:=aM.min B.ex;refine ⟨T2,_,_,_,rfl,rfl,SqT.of t2,GC (j:=0) rfl,?_⟩;have k2:Kp K H1 H2:=O4 a6 a7;have B2:=B1.kp k2;have ai:=k2.lst _ _ (k1.lst _ _ e1);have aj:=k2.lst _ _ (k1.lst _ _ e2);have aO:=a5.trans a7;clear L1 aM t1 t2 B1 k1 k2 a6 a5 a7;dsimp only [Gq];refine ⟨_,rfl,_,rfl,p1,p2,_,_,rfl,SqL.of ai,SqL.of aj,λD hD=>?_⟩;refine O0 (K:=K) (f:=mn2) (σ0:=[]) (by lia) (by lia) ai aj hD (λ_ _=>by simp [GQ]) (λx y H Q h=>⟨_,rfl,_,rfl,_,_,rfl,h⟩) λH3 s3 e3=>?_;have B3:=B2.kp (Kp.same (K:=K) s3);have a8:=s3 _ _ ai;have aP:=s3 _ _ aj;have a9:=aL.same s3;have aQ:=aO.trans (.of s3);have aR:(List.zipWith mn2 q1 q2).length=30:=by rw [List.length_zipWith];lia
  have aS:∀i:Nat,(List.zipWith mn2 q1 q2).getD i 0<=q1.getD i 0:=λi=>by rw [Jr rfl (by lia)];unfold mn2;split <;> lia
  have aT:∀i:Nat,(List.zipWith mn2 q1 q2).getD i 0<=q2.getD i 0:=λi=>by rw [Jr rfl (by lia)];unfold mn2;split <;> lia
  clear B2 ai aj s3 aO aL;dsimp only [Gq];refine ⟨_,rfl,_,rfl,tp,l,D,root,xs,us,_,rfl,B3.W,B3.T,B3.ar,by lia,e3,B3.rq aR,a9,λv H4 aA aB L4 _=>?_⟩;obtain ⟨T4,bu,m4,s4,rfl,t4,_,_,_,ab⟩:=L4.min B.ex;refine ⟨T4,_,_,_,rfl,rfl,SqT.of t4,GC (j:=0) rfl,?_⟩;have k4:Kp K H3 H4:=O4 a9 aA;have B4:=B3.kp k4;dsimp only [Gq];refine ⟨_,rfl,_,rfl,tp,l,p1,root,xs,us,q1,rfl,B4.W,B4.T,by lia,k4.lst _ _ a8,B4.rq aa,B4.hz,aB,λ_ pa ps H5 aC aD _ aU bb=>?_,λz=>absurd z B4.nz⟩;obtain ⟨R1,aV⟩:=B4.pap bb as;have k5:Kp K H4 H5:=O4 aB aC;have B5:=B4.kp k5;dsimp only [Gq];refine ⟨_,rfl,_,rfl,tp,l,D,root,xs,us,_,rfl,B5.W,B5.T,by lia,k5.lst _ _ (k4.lst _ _ e3),B5.rq aR,B5.hz,aD,λ_ pb pl H6 aE bc _ ak aW=>?_,λz=>absurd z B5.nz⟩;obtain ⟨R2,am⟩:=B5.pap aW ab;have k6:Kp K H5 H6:=O4 aD aE;have an:=(k4.trans k5).trans k6;have B6:=B3.kp an;have aF:=an.lst _ _ a8;have bd:=an.lst _ _ aP;have au:=k6.lst _ _ aU;have be:=aQ.trans ((aA.trans aC).trans aE);have bl:=R1.len;have bm:=R2.len;have ro:=R2.le aS;have rt:=R2.le aT;have rx:=PaR.two rfl ZcY ZeQ R1 ro;have rn:=PaR.two rfl ZcX ZeP R1 ro;have ml:m4<=m1/\m4<=m2:=by
   obtain ⟨⟨a,ha,hc⟩,_⟩:=as;obtain ⟨⟨b,hb,hd⟩,_⟩:=aN;have:=ab.2 a ha;have:=ab.2 b hb;have:=ZbA aS a;have:=ZbA aT b
   lia
  clear B3 B4 B5 a8 aP e3 a9 aB aD k4 k5 k6 an aA aC aE aU aQ L4 t4;dsimp only [Gq];refine ⟨_,rfl,_,rfl,_,rfl,_,_,rfl,_,_,rfl,rfl,_,rfl,?_⟩;rw [Ybp (by show ¬ mn2 m1 m2<m4;unfold mn2;split <;> lia)];refine OA ?_;dsimp only [JJ];refine ⟨_,rfl,_,rfl,_,rfl,_,rfl,tp,l,p1,pb,root,m4,xs,us,_,_,rfl,B6.W,aF,ak,by lia,⟨by lia,al.2⟩,B6.rg aa,λH7 s7=>?_⟩;rw [shows_iff.mpr ⟨B6.nz,ro,am⟩];refine ⟨_,_,rfl,rfl,_,rfl,?_⟩;refine OA ?_;have B7:=B6.kp (Kp.same (K:=K) s7);refine ⟨_,rfl,_,rfl,_,rfl,_,rfl,tp,l,p2,pb,root,m4,xs,us,_,_,rfl,B7.W,s7 _ _ bd,s7 _ _ ak,by lia,⟨by lia,al.2⟩,B7.rg aK,λH8 s8=>?_⟩;rw [shows_iff.mpr ⟨B6.nz,rt,am⟩];refine ⟨_,_,rfl,rfl,_,rfl,?_⟩;refine OA ?_;dsimp only [JJ];have S8:=s7.trans s8;have B8:=B6.kp (Kp.same (K:=K) S8);have av:=S8 _ _ au;have aw:=S8 _ _ ak;refine ⟨_,rfl,_,rfl,pa,pb,_,_,rfl,SqL.of av,SqL.of aw,λD2 bf=>?_⟩;refine O0 (K:=K) (f:=mx2) (σ0:=[]) (by lia) (by lia) av aw bf (λ_ _=>by simp [GQ]) (λx y H Q h=>⟨_,rfl,_,rfl,_,_,rfl,h⟩) λH9 s9 e9=>?_;have B9:=B8.kp (Kp.same (K:=K) s9);have S9:=S8.trans s9;have aX:∀g:Int->Int->Int,(List.zipWith g ps pl).length<=1000:=λg=>by rw [List.length_zipWith];lia
  dsimp only [Gq];refine ⟨_,rfl,_,rfl,_,rfl,_,rfl,_,rfl,_,_,rfl,tp,l,p1,D2,root,mx2 m1 m4,xs,us,_,_,rfl,B9.W,S9 _ _ aF,e9,aX _,⟨by lia,al.2⟩,B9.rg aa,λbv bg=>?_⟩;rw [shows_iff.mpr ⟨B6.nz,rx,by rw [Oz rfl (by lia),aV,am]⟩];refine ⟨_,_,rfl,rfl,_,rfl,?_⟩;refine OA ?_;dsimp only [JJ];have ao:=S9.trans bg;have bw:=B6.kp (Kp.same (K:=K) ao);have ac:=ao _ _ au;have ad:=ao _ _ ak;refine ⟨_,rfl,_,rfl,_,rfl,_,rfl,pa,pb,_,_,rfl,SqL.of ac,SqL.of ad,λD3 bh=>?_⟩;refine O0 (K:=K) (f:=mn2) (σ0:=[]) (by lia) (by lia) ac ad bh (λ_ _=>by simp [GQ]) (λx y H Q h=>⟨_,rfl,_,rfl,_,_,rfl,h⟩) λbx bi bj=>?_;have ap:=ao.trans bi;have aY:=B6.kp (Kp.same (K:=K) ap);refine ⟨_,rfl,_,rfl,_,_,rfl,tp,l,p1,D3,root,mn2 m1 m4,xs,us,_,_,rfl,aY.W,ap _ _ aF,bj,aX _,⟨by lia,al.2⟩,aY.rg aa,λbz aZ=>?_⟩;rw [shows_iff.mpr ⟨B6.nz,rn,by rw [Oz rfl (by lia),aV,am]⟩];refine ⟨_,_,rfl,rfl,?_⟩;exact q _ (be.trans (.of (ap.trans aZ))) (bc.same (ap.trans aZ))
noncomputable def ZcZ (K:FG)(tD tF:AD):Sp:=λvs H Q _=>∃(a:AD)(ns:LI),vs=[.ref a]/\SqL K H a (ns.map V.int)/\ns.length<=63/\H tD=some (.tbl #[])/\H tF=some (.tbl #[])/\tD≠tF/\∀H',Q (.bl true) H'
theorem scLaw:Gn ["script", "sets", "table", "ones", "others", "by"] ["script"] (Gf Zcy):=⟨rfl,rfl,rfl,by decide +kernel,rfl,by decide +kernel,by decide +kernel⟩
theorem ZgR (F:Fun K "law" "law" Zcy f fd)(FA:Fun K "_law_cell_at" "_law_cell_at" ZeV fA am)(bA:Binds K am ["script", "k"] [])(mA:mg "_law_cell_at" = some (.ref fA))(GA:GE P w K mg base CX0 1 fA am ["script", "k"] (ZcD K))(aH:Fun K "_law_family" "_law_family" ZfX af B)(aI:Binds K B ["script", "start"] [])(aJ:mg "_law_family" = some (.ref af))(aK:GE P w K mg base CX0 2 af B ["script", "start"] (Zgx K))(aL:Fun K "table_of" "table_of" Zg5 ag D)(aM:Binds K D ["sets"] [])(aN:mg "table_of" = some (.ref ag))(aO:GE P w K mg base (CXr P w) 5 ag D ["sets"] (Zgo fP TM tD))(aP:Fun K "_law_great_table" "_law_great_table" Zg8 ah N)(aQ:Binds K N ["script", "start"] [])(aR:mg "_law_great_table" = some (.ref ah))(aS:GE P w K mg base CX0 2 ah N ["script", "start"] (ZgG K))(au:Fun K "_law_third" "_law_third" Zg9 ai O)(av:Binds K O ["cell", "many"] [])(aw:mg "_law_third" = some (.ref ai))(ax:GE P w K mg base CX0 3 ai O ["cell", "many"] ZgK)(aT:Fun K "_law_added" "_law_added" Zha aj Y)(aU:Binds K Y ["table", "ones", "others"] [])(aV:mg "_law_added" = some (.ref aj))(aW:GE P w K mg base CX0 4 aj Y ["table", "ones", "others"] (ZcV tF))(aX:Fun K "_law_lesser" "_law_lesser" Zhb ak aa)(aY:Binds K aa ["table", "ones", "others"] [])(aZ:mg "_law_lesser" = some (.ref ak))(ba:GE P w K mg base CX0 4 ak aa ["table", "ones", "others"] (ZcV tF))(ay:Fun K "_law_moved" "_law_moved" Zhc al ab)(az:Binds K ab ["table", "prices", "by"] [])(a4:mg "_law_moved" = some (.ref al))(a5:GE P w K mg base CX0 4 al ab ["table", "prices", "by"] (ZgM tF)) :
  GE P w K mg base CX0 6 f fd ["script"] (ZcZ K tD tF):=by
 refine F.ok scLaw (λvs H Q E h=>?_) (λbu A bb s H vs Q E hr h=>?_)
 ·obtain ⟨_,_,rfl,_⟩:=h
  rfl
 ·obtain ⟨a,ns,rfl,hS,bc,bd,be,bf,q⟩:=h;have bv:=Yav.symm;have hu:=hr.units;have E0:Env2 tD tF H:=⟨.inl bd,.inl be,bf⟩;refine ⟨_,Gb (gSt 1 scLaw.nd (gCa aK aJ aH.kp aI Gu (Ga (pv 0) (Ga Gd Ge))))
    (Gb (GX (gCm (Zfo K hu) (pv 1) (GD Ge)) (Gh (gSt 1 scLaw.nd (GD (Ga (GD (Ga Gd (Ga Gd Ge))) (Ga (GD (Ga Gd Ge)) Ge))))) Gp)
    (Gb (gSt 2 scLaw.nd (gCa aO aN aL.kp aM Xh (Ga (pv 1) Ge)))
    (Gb (GX (gCm OC (Gk GS (Gk Gz (gCa GA mA FA.kp bA Gu (Ga (pv 0) (Ga Gd Ge))) Gd) Gd) Gd) (Gh (gSt 2 scLaw.nd (gCa aS aR aP.kp aQ Gu (Ga (pv 0) (Ga Gd Ge))))) Gp)
    (Gb (gSt 3 scLaw.nd (gCa ax aw au.kp av Gu (Ga (gCa GA mA FA.kp bA Gu (Ga (pv 0) (Ga Gd Ge))) (Ga Gd Ge))))
    (Gb (gSt 4 scLaw.nd (gCa ax aw au.kp av Gu (Ga (gCa GA mA FA.kp bA Gu (Ga (pv 0) (Ga Gd Ge))) (Ga Gd Ge))))
    (Gb (gSt 5 scLaw.nd (Gk GP Gd (Gk GS (Gk Gz (gCa GA mA FA.kp bA Gu (Ga (pv 0) (Ga Gd Ge))) Gd) (Gk XM Gd Gd))))
    (Gb (GX (PW.pt (ZbF (XI (Vi (gCa aW aV aT.kp aU Gu (Ga (pv 2) (Ga (pv 3) (Ga (pv 4) Ge)))))) (XH (XI (Vi (gCa ba aZ aX.kp aY Gu (Ga (pv 2) (Ga (pv 3) (Ga (pv 4) Ge))))))))) (Gh (Gr JI)) Gp)
    (Gh (Gr (ZC (gCa a5 a4 ay.kp az Gu (Ga (pv 2) (Ga (pv 3) (Ga (pv 5) Ge)))) (ZB (gCa a5 a4 ay.kp az Gu (Ga (pv 2) (Ga (pv 4) (Ga Gd Ge))))))))))))))),?_⟩
  refine lT9 ?_;intro Z R9 R8 R7 R6 R5 R4 R3 R2;refine ⟨_,rfl,a,ns,3,rfl,hS,bc,by decide,λsl zs H1 s1 bg es lz nz ad rs so ae=>?_⟩;dsimp only [Gq];have a6:=s1.seq hS;have E1:=E0.same s1;refine Go (λσ' H'=>∃(sl:AD)(zs:List (AD×LI)),σ'=[some (.ref a),some (.ref sl),none,none,none,none]/\Same H1 H'/\H' sl=some (.lst (RF zs))/\Lz H' zs/\zs.length<=300/\(∀z∈zs,RS z.2)/\Lx (zs.map (·.2))/\lF (zs.map (·.2))<=600/\zs≠[]) ?s1 ?f1
  case f1=>
   intro hk;refine ⟨_,rfl,Yat _,λe1 bh=>?_⟩;obtain ⟨H4,q_,s4,v4⟩:=nwU (o:=.lst []) bh;rw [q_];refine ⟨.list (U9 (zs.map (·.2))),.list (U9 []),.lst (SqL.of (s4 _ _ es)) (XC (lz.same s4)),.lst (SqL.of v4) .nil,W7 _,W7 _,_,rfl,?_⟩;rw [ZhY];by_cases j:zs=[]
   ·subst j;refine Ob ?_;refine ⟨Jb,λa1 h1=>?_⟩;obtain ⟨H5,q_,t1,w1⟩:=nwU (o:=.lst [.int 0,.int 2]) h1;rw [q_];refine ⟨YE,λa2 h2=>?_⟩;obtain ⟨H6,q_,t2,w2⟩:=nwU (o:=.lst [.int 1]) h2;rw [q_];refine ⟨Jb,λa3 h3=>?_⟩;have t3:Same H6 (upd H6 a3 (.lst [.ref a1,.ref a2])):=Same.new h3;refine hk _ _ ⟨a3,[(a1,[0,2]),(a2,[1])],rfl,s4.trans (t1.trans (t2.trans t3)),Gc,λz hz=>?_,(by show 2<=300;decide),λz hz=>?_,(by show Lx [[0,2],[1]];decide),(by show lF [[0,2],[1]]<=600;decide),nofun⟩
    ·simp only [Yam,List.not_mem_nil,or_false] at hz;rcases hz with rfl | rfl
     ·exact t3 _ _ (t2 _ _ w1)
     ·exact t3 _ _ w2
    ·simp only [Yam,List.not_mem_nil,or_false] at hz;rcases hz with rfl | rfl
     ·exact ⟨by show [(0:Int),2].Pairwise (· < ·);decide,by show ∀x∈[(0:Int),2],0<=x/\x<30;decide⟩
     ·exact ⟨by show [(1:Int)].Pairwise (· < ·);decide,by show ∀x∈[(1:Int)],0<=x/\x<30;decide⟩
   ·rw [Ybp (p:=zs.map (·.2)=[]) (by simpa using j)];refine OA ?_;exact hk _ _ ⟨sl,zs,rfl,s4,s4 _ _ es,lz.same s4,ad,rs,so,by lia,j⟩
  clear es lz nz ad rs so ae bg;rintro σ' H2 ⟨sl,zs,rfl,s2,es,lz,ad,rs,so,ae,j⟩;have a7:=s2.seq a6;have E2:=E1.same s2;obtain ⟨FO,U,Un,hU,a8,a9,aA⟩:=Zbx rs so ae;refine ⟨_,rfl,sl,zs,_,U,Un,rfl,es,lz,by lia,so,λs=>Iff.rfl,FO,hU,a8,a9,E2.ld,λtp l root ro xs us ts fs H3 aB aC hp hl W L aD h8=>?_,λts H3 _ _ _ h8 aD=>absurd h8 (by lia)⟩;obtain ⟨E3,k3⟩:=E2.stepD (K:=K) aB aC;have ac:=k3.sq _ _ a7;have B3:T62 H3 tp l root xs us:=by
   refine ⟨W,L.tab,L.at_ (Zby FO),by have:=L.len;have:=L.le;lia,Zbw L.grw.sh.ok L.said L.len L.grw.sh.hi,λz=>?_⟩;obtain ⟨y,hy⟩:=List.exists_mem_of_ne_nil _ j;have h1:=((L.has (Zby FO) y.2).trans (ZeE _ _ (Yaf _) FO.nd y.2)).mpr (Yal.mpr ⟨y,hy,rfl⟩);rw [z] at h1;exact Has.zero h1
  clear W L FO hU a8 a9 aA E0 E1 E2 k3 aB aC hp hl aD h8 ae es lz s1 s2 hS a6 a7 rs so j ad;dsimp only [Gq];refine Go (λσ' H'=>∃(tp l:AD)(root:Int)(xs:List V)(us:List Tri),σ'=[some (.ref a),some (.ref sl),some (.ref tp),none,none,none]/\Env2 tD tF H'/\SqL K H' a (ns.map V.int)/\T62 H' tp l root xs us) ?s2 ?f2
  case f2=>
   intro hk;refine ⟨_,rfl,a,ns,0,rfl,ac,λz0=>⟨_,_,rfl,rfl,⟨by decide,GH⟩,_,_,rfl,rfl,(by show (0:Int)<8;decide),rfl,_,rfl,O7 (λ_=>?_) (λ_=>hk _ _ ⟨tp,l,root,xs,us,rfl,E3,ac,B3⟩)⟩⟩;refine ⟨_,rfl,a,ns,3,rfl,ac,λtp l root xs us H4 s4 _ _ W T ar qV hz an=>?_⟩;exact hk _ _ ⟨tp,l,root,xs,us,rfl,E3.same s4,s4.seq ac,W,T,ar,by lia,hz,an⟩
  clear E3 ac B3;rintro σ' H4 ⟨tp,l,root,xs,us,rfl,E4,ao,B4⟩;refine ⟨_,rfl,a,ns,1,rfl,ao,λc1=>?_⟩;refine ⟨c1,30,rfl,by decide,λp1 q1 H5 s5 e1 ap=>?_⟩;dsimp only [Gq];have aq:=s5.seq ao;refine ⟨_,rfl,a,ns,2,rfl,aq,λc2=>?_⟩;refine ⟨c2,30,rfl,by decide,λp2 q2 H6 s6 e2 as=>?_⟩;dsimp only [Gq];have S6:=s5.trans s6;have E6:=E4.same S6;have B6:=B4.kp (Kp.same (K:=K) S6);have aE:=s6 _ _ e1;have bi:=s6.seq aq;clear E4 ao B4 s5 s6 S6 aq e1;refine ⟨_,rfl,a,ns,2,rfl,bi,λc3=>?_⟩;refine ⟨_,_,rfl,rfl,⟨by decide,GH⟩,_,_,rfl,rfl,⟨by decide,by decide,by decide⟩,_,_,rfl,rfl,(by show (0:Int)<10 ^ 30;decide),_,_,rfl,rfl,?_⟩;dsimp only [Gq];have b0:0<=c3 / 7 % (10 ^ (30:Int).toNat):=Ycj _ (by decide);generalize c3 / 7 % (10 ^ (30:Int).toNat)=bj at b0 ⊢;refine ⟨_,rfl,_,rfl,_,rfl,tp,l,p1,p2,root,xs,us,q1,q2,rfl,B6,aE,ap,e2,as,E6.ls,λH7 bl bm=>⟨_,rfl,?_⟩⟩;refine OA ?_;obtain ⟨E7,k7⟩:=E6.stepF (K:=K) bl bm;have B7:=B6.kp k7;have aF:=k7.lst _ _ aE;have aG:=k7.lst _ _ e2;refine ⟨_,rfl,_,rfl,_,rfl,tp,l,p1,p2,root,xs,us,q1,q2,rfl,B7,aF,ap,aG,as,E7.ls,λH8 bn bo=>⟨_,rfl,?_⟩⟩;refine OA ?_;dsimp only [JJ];obtain ⟨E8,k8⟩:=E7.stepF (K:=K) bn bo;have B8:=B7.kp k8;have bp:=k8.lst _ _ aF;have bq:=k8.lst _ _ aG;refine ⟨_,rfl,_,rfl,_,rfl,tp,l,p1,root,1+bj,xs,us,q1,rfl,B8,bp,ap,by lia,E8.ls,λH9 br bt=>⟨_,rfl,?_⟩⟩;refine Ob ?_;obtain ⟨E9,k9⟩:=E8.stepF (K:=K) br bt;exact ⟨_,rfl,_,rfl,tp,l,p2,root,1,xs,us,q2,rfl,B8.kp k9,k9.lst _ _ bq,as,by decide,E9.ls,λbw _ _=>q _⟩
end
end M
section
open PySem PySem.W PyProof.Rows
noncomputable def M.rowP:PP:=PySem.Challenge.rw_onceways_k62_papers_together.prog
noncomputable def M.seenP:PP:={ M.rowP with main:={ M.rowP.main with body:=[1,2,4,5,6,8,10,11,12,14,15,16,17,18,19,20,22,23,25,26,27,28,29,30,31,32,33,34,35,36,37].filterMap (λi=>M.rowP.main.body[i]?) } }
noncomputable def M.loosely:List Str:=[]
noncomputable def M.hookX (s:SS):Bool:=xlAt M.seenP [] s && recOk (RowW.records (OpenRow.toRowW PySem.Challenge.rw_onceways_k62_papers_together.row)) s
noncomputable def M.atBoot (w:Ab)(j:OsState):SS:=⟨boot_heap w.params,Array.mk [],boot_drawn,boot_toks,j⟩
noncomputable def M.topOf (p:PP)(N:Nat)(w:Ab)(j:OsState):Option SS:=topRun treeTable p w (M.atBoot w j).heap.objs.size ((M.atBoot w j).heap.nsMap mainGlobals "__annotations__") N (M.atBoot w j) (topStub p)
theorem M.top_run (h:topFrom treeTable p w N (M.atBoot w j)=some s):M.topOf p N w j=some s:=by
 unfold topFrom at h;split at h
 ·obtain ⟨q,h1,h2⟩:=Option.bind_eq_some_iff.mp h;split at h2
  ·cases h2;exact h1
  ·cases h2
 ·cases h
theorem M.left_boot {p q:PP}{j:List Str}{B:SS->Bool}{α:Type}{D:SS->α}{L:Ab->α}{N:Nat}(e:opening p=plainProg p.main.scope.names)(U:Nat.ble 600 N=true)(f:∀s,fenceModules? p s=some s)(Y:∀(w:Ab)(os:OsState),(topFrom treeTable p w N (M.atBoot w os)).isSome=true)(ha:∀(w:Ab)(os:OsState),(M.topOf p N w os).map (openSeen q j (importedModules p.main.body) B true)=some (openGood q j))(Z:∀(w:Ab)(os:OsState),(M.topOf p N w os).map D=some (L w)) :
  LeftO p q j B D L N:=λw=>by
 obtain ⟨⟨a,b,c,d,os⟩,e1,e2⟩:=Ybw.mp (boot_open e U f w);obtain ⟨rfl,rfl,rfl,rfl⟩:a=boot_heap w.params/\b=Array.mk []/\c=boot_drawn/\d=boot_toks:=by simpa using e2
 obtain ⟨s,O⟩:=Yek.mp (Y w os);have h1:=ha w os;have h2:=Z w os;rw [M.top_run O] at h1 h2;unfold openEnds;rw [e1];show (topFrom treeTable p w N (M.atBoot w os)).map _=_;rw [O];simp only [Option.map_some,Option.some.injEq] at h1 h2 ⊢;rw [h1,h2]
set_option maxHeartbeats 0 in
theorem M.topA (w:Ab)(j:OsState):(M.topOf M.rowP 3582 w j).map (openSeen M.seenP M.loosely (importedModules M.rowP.main.body) M.hookX true)=some (openGood M.seenP M.loosely):=by
 unfold M.topOf;rw [W.Fast.te14082659384304107361,W.Fast.te14364793385576792824,W.Fast.te4187177175401517315];kernel_rfl
set_option maxHeartbeats 0 in
theorem M.topC (w:Ab)(j:OsState):(topFrom treeTable M.rowP w 3582 (M.atBoot w j)).isSome=true:=by
 unfold topFrom;rw [W.Fast.te14082659384304107361,W.Fast.te14364793385576792824];kernel_rfl
end
namespace M
open PySem L2
theorem ZiD {α:Type}{l:List α}(h:l.length=0):l=[]:=List.length_eq_zero_iff.mp h
theorem ZeR {α:Type}{l:List α}(h:l.length=n+1):∃a t,l=a::t/\t.length=n:=by
 cases l with
 | nil=>cases h
 | cons a t=>exact ⟨a,t,rfl,by simpa using h⟩
theorem ZgS {α:Type}{l:List α}(h:l.length=1):∃a,l=[a]:=by
 obtain ⟨a,t,rfl,g⟩:=ZeR h;exact ⟨a,by rw [ZiD g]⟩
theorem YG {α:Type}{l:List α}(h:l.length=2):∃q j,l=[q,j]:=by
 obtain ⟨a,t,rfl,g⟩:=ZeR h;obtain ⟨j,rfl⟩:=ZgS g;exact ⟨a,j,rfl⟩
theorem ZeS {α:Type}{l:List α}(h:l.length=3):∃B j q,l=[B,j,q]:=by
 obtain ⟨a,t,rfl,g⟩:=ZeR h;obtain ⟨j,q,rfl⟩:=YG g;exact ⟨a,j,q,rfl⟩
theorem Zhe {α:Type}{l:List α}(h:l.length=4):∃D j q B,l=[D,j,q,B]:=by
 obtain ⟨a,t,rfl,g⟩:=ZeR h;obtain ⟨j,q,B,rfl⟩:=ZeS g;exact ⟨a,j,q,B,rfl⟩
theorem ZiE {α:Type}{l:List α}(h:l.length=5):∃L j q B D,l=[L,j,q,B,D]:=by
 obtain ⟨a,t,rfl,g⟩:=ZeR h;obtain ⟨j,q,B,D,rfl⟩:=Zhe g;exact ⟨a,j,q,B,D,rfl⟩
theorem ZiF {α:Type}{l:List α}(h:l.length=6):∃N j q B D L,l=[N,j,q,B,D,L]:=by
 obtain ⟨a,t,rfl,g⟩:=ZeR h;obtain ⟨j,q,B,D,L,rfl⟩:=ZiE g;exact ⟨a,j,q,B,D,L,rfl⟩
theorem ZiH {α:Type}{l:List α}(h:l.length=7):∃O j q B D L N,l=[O,j,q,B,D,L,N]:=by
 obtain ⟨a,t,rfl,g⟩:=ZeR h;obtain ⟨j,q,B,D,L,N,rfl⟩:=ZiF g;exact ⟨a,j,q,B,D,L,N,rfl⟩
structure DefIs (K:FG)(x:Str)(st:Stmt)(f:AD)(cd:Aa):Prop where
 a:W.nsIn K mainGlobals x=some (some (.ref f))
 l:∃(oc:Aa)(od:Option AD)(kV dc pm:Aa)(an:Option AD)(ct:Aa)(sl:Array (Option Aa)),K.lookup f=some ⟨oc,od,.func (W.fnOf x x (Jj st) (GR st) (Gf st) .none kV dc pm an cd ct),sl⟩
 c:W.codeIn K cd x=true
 k:W.keepIn K (.ref f)=true
theorem DefIs.fn (d:DefIs K x st f j):∃fd,Fun K x x st f fd/\fd.code=j:=by
 obtain ⟨_,_,_,_,_,_,_,_,q⟩:=d.l;exact ⟨_,Z2 (st:=st) q d.c d.k,rfl⟩
theorem all_mk {l:W.OpenLaw}{w:Ab}{K:FG}{h:Heap}{mg:Str->Option Aa}{fa f1 f2 f3 f4 f5 f6 f7 f8 f9 f10 f11 f12 f13 f14 f15 f16 f17 f18 f19 f20 f21 f22 f23 f24 f25 fL no nw C fI fU dT cD tD cT tT:AD}{ocI kVI dcI pmI cdI ctI ocU kVU dcU pmU cdU ctU dtc ocL kVL dcL pmL cdL ctL g1 g3 g4 g5 g6 g7 g9 g10 g11 g12 g13 g14 g15 g16 g17 g18 g19 g20 g21 g22 g23 g24 g25:Aa}{odI anI odU anU dtd odL anL:Option AD}{slI slU dts slL:Array (Option Aa)}{dtn:Nat}{tN:Tok}{occD:Aa}{odcD:Option AD}{vsD:Array Aa}{slcD:Array (Option Aa)}{occT:Aa}{odcT:Option AD}{vsT:Array Aa}{slcT:Array (Option Aa)}(X:K.In h)(G:h.Ns mainGlobals mg)(hfa:mg "law" = some (.ref fa))(d1:DefIs K "parts_below" ZfS f1 g1)(d2:DefIs K "laid_down" ZeU f2 (.ref cD))(d3:DefIs K "found_from" ZfT f3 g3)(d4:DefIs K "numbered" ZfU f4 g4)(d5:DefIs K "least_table" ZfV f5 g5)(d6:DefIs K "family_parts" Zg4 f6 g6)(d7:DefIs K "table_of" Zg5 f7 g7)(d8:DefIs K "from_below" Zg3 f8 (.ref cT))(d9:DefIs K "cheapest_below" Zev f9 g9)(d10:DefIs K "least_price" Zew f10 g10)(d11:DefIs K "price_paper" Zex f11 g11)(d12:DefIs K "is_right" Zg2 f12 g12)(d13:DefIs K "paper_shows" ZeT f13 g13)(d14:DefIs K "_law_cell_at" ZeV f14 g14)(d15:DefIs K "_law_stir" ZeW f15 g15)(d16:DefIs K "_law_bits" ZfW f16 g16)(d17:DefIs K "_law_family" ZfX f17 g17)(d18:DefIs K "_law_prices" Zg6 f18 g18)(d19:DefIs K "_law_in_order" ZfY f19 g19)(d20:DefIs K "_law_all_sets" Zg7 f20 g20)(d21:DefIs K "_law_great_table" Zg8 f21 g21)(d22:DefIs K "_law_third" Zg9 f22 g22)(d23:DefIs K "_law_added" Zha f23 g23)(d24:DefIs K "_law_lesser" Zhb f24 g24)(d25:DefIs K "_law_moved" Zhc f25 g25)(aL:W.nsIn K mainGlobals "law" = some (some (.ref fL)))(lL:K.lookup fL=some ⟨ocL,odL,.func (W.fnOf "law" "law" (Jj Zcy) (GR Zcy) (Gf Zcy) .none kVL dcL pmL anL cdL ctL),slL⟩)(cL:W.codeIn K cdL "law" = true)(kL:W.keepIn K (.ref fL)=true)(gno:W.nsIn K mainGlobals "TooMany" = some (some (.ref no)))(xex:ExcC K no)(kit:W.kitOne K (.type "int") (.type "tuple")=some false)(kit2:W.kitOne K (.type "tuple") (.type "int")=some false)(gMN:W.nsIn K mainGlobals "MOST_NODES" = some (some (.int 800 tN)))(gnw:W.nsIn K mainGlobals "NoWay" = some (some (.ref nw)))(xnw:ExcC K nw)(aC:W.nsIn K mainGlobals "Shelf" = some (some (.ref C)))(aI:W.findIn K (.ref C) "__init__" = some (some (.ref fI)))(iI:W.isFn K (.ref fI)=true)(lI:K.lookup fI=some ⟨ocI,odI,.func (W.fnOf "__init__" "Shelf.__init__" (Jj Zcz) (GR Zcz) (Gf Zcz) (.ref dT) kVI dcI pmI anI cdI ctI),slI⟩)(cI:W.codeIn K cdI "Shelf.__init__" = true)(kI:W.keepIn K (.ref fI)=true)(aU:W.findIn K (.ref C) "put" = some (some (.ref fU)))(iU:W.isFn K (.ref fU)=true)(lU:K.lookup fU=some ⟨ocU,odU,.func (W.fnOf "put" "Shelf.put" (Jj Zey) (GR Zey) (Gf Zey) .none kVU dcU pmU anU cdU ctU),slU⟩)(cU:W.codeIn K cdU "Shelf.put" = true)(kU:W.keepIn K (.ref fU)=true)(dTl:K.lookup dT=some ⟨dtc,dtd,.seq #[.none] dtn,dts⟩)(pg:W.plainGet K C Str.empty=true)(hd:W.hasDictIn K C=true)(po:W.plainOver K C=true)(sa:W.findIn K (.ref C) "__setattr__" = some (some (.builtin "object.__setattr__")))(mk:W.makesIn K C=true)(kc:W.keepIn K (.ref C)=true)(nM:W.findIn K (.ref C) "most" = some none)(nN:W.findIn K (.ref C) "nodes" = some none)(nP:W.findIn K (.ref C) "places" = some none)(lcD:K.lookup cD=some ⟨occD,odcD,.fields vsD,slcD⟩)(v11D:(vsD[11]?:Option Aa)=some (.ref tD))(nTabD:K.lookup tD=none)(lcT:K.lookup cT=some ⟨occT,odcT,.fields vsT,slcT⟩)(v11T:(vsT[11]?:Option Aa)=some (.ref tT))(nTabT:K.lookup tT=none)(nDT:tD≠tT)(nrange:W.nsIn K mainGlobals "range" = some none)(nlist:W.nsIn K mainGlobals "list" = some none)(nlen:W.nsIn K mainGlobals "len" = some none)(nint:W.nsIn K mainGlobals "int" = some none)(nmin:W.nsIn K mainGlobals "min" = some none)(nmax:W.nsIn K mainGlobals "max" = some none)(nsorted:W.nsIn K mainGlobals "sorted" = some none)(nbool:W.nsIn K mainGlobals "bool" = some none)(ntuple:W.nsIn K mainGlobals "tuple" = some none)(nisinstance:W.nsIn K mainGlobals "isinstance" = some none)(nset:W.nsIn K mainGlobals "set" = some none)(nenumerate:W.nsIn K mainGlobals "enumerate" = some none)(nall:W.nsIn K mainGlobals "all" = some none)(nzip:W.nsIn K mainGlobals "zip" = some none)
  : ∃(fd:FuncData)(c P c2 P2:AD),W.tabIn K "laid_down" = some (c,P)/\K.lookup P=none/\W.tabIn K "from_below" = some (c2,P2)/\K.lookup P2=none/\P≠P2/\(∀(s:SS)(v:Aa),BindsTo s fd ⟨[v],[]⟩ [("script", v)])/\∀base:Heap,K.In base->base.Ns mainGlobals mg->W.CodeHd base c P->base.BuiltinsAt mg P->W.CodeHd base c2 P2->base.BuiltinsAt mg P2->GE l.prog w K mg base CX0 6 fa fd ["script"] (ZcZ K P P2):=by
 have e:=hfa.symm.trans (Ybj X G aL);cases e;obtain ⟨_,FPb,_⟩:=d1.fn;have bPb:=FPb.binds (ps:=["start", "parts"]) λ_ _ _ _ _ _ us hl=>by obtain ⟨_,_,rfl⟩:=YG hl;rfl
 have mPb:=Ybj X G d1.a;obtain ⟨_,FLd,cLd⟩:=d2.fn;have bLd:=FLd.binds (ps:=["start", "parts", "shelf"]) λ_ _ _ _ _ _ us hl=>by obtain ⟨_,_,_,rfl⟩:=ZeS hl;rfl
 have mLd:=Ybj X G d2.a;obtain ⟨_,FF,_⟩:=d3.fn;have bF:=FF.binds (ps:=["root", "nodes"]) λ_ _ _ _ _ _ us hl=>by obtain ⟨_,_,rfl⟩:=YG hl;rfl
 have mF:=Ybj X G d3.a;obtain ⟨_,FNu,_⟩:=d4.fn;have bNu:=FNu.binds (ps:=["root", "nodes"]) λ_ _ _ _ _ _ us hl=>by obtain ⟨_,_,rfl⟩:=YG hl;rfl
 have mNu:=Ybj X G d4.a;obtain ⟨_,FLt,_⟩:=d5.fn;have bLt:=FLt.binds (ps:=["start", "parts", "most"]) λ_ _ _ _ _ _ us hl=>by obtain ⟨_,_,_,rfl⟩:=ZeS hl;rfl
 have mLt:=Ybj X G d5.a;obtain ⟨_,FFm,_⟩:=d6.fn;have bFm:=FFm.binds (ps:=["sets"]) λ_ _ _ _ _ _ us hl=>by obtain ⟨_,rfl⟩:=ZgS hl;rfl
 have mFm:=Ybj X G d6.a;obtain ⟨_,FTo,_⟩:=d7.fn;have bTo:=FTo.binds (ps:=["sets"]) λ_ _ _ _ _ _ us hl=>by obtain ⟨_,rfl⟩:=ZgS hl;rfl
 have mTo:=Ybj X G d7.a;obtain ⟨_,FFb,cFb⟩:=d8.fn;have bFb:=FFb.binds (ps:=["nodes"]) λ_ _ _ _ _ _ us hl=>by obtain ⟨_,rfl⟩:=ZgS hl;rfl
 have mFb:=Ybj X G d8.a;obtain ⟨_,FCb,_⟩:=d9.fn;have bCb:=FCb.binds (ps:=["nodes", "prices", "k"]) λ_ _ _ _ _ _ us hl=>by obtain ⟨_,_,_,rfl⟩:=ZeS hl;rfl
 have mCb:=Ybj X G d9.a;obtain ⟨_,FLp,_⟩:=d10.fn;have bLp:=FLp.binds (ps:=["table", "prices"]) λ_ _ _ _ _ _ us hl=>by obtain ⟨_,_,rfl⟩:=YG hl;rfl
 have mLp:=Ybj X G d10.a;obtain ⟨_,FPp,_⟩:=d11.fn;have bPp:=FPp.binds (ps:=["table", "prices"]) λ_ _ _ _ _ _ us hl=>by obtain ⟨_,_,rfl⟩:=YG hl;rfl
 have mPp:=Ybj X G d11.a;obtain ⟨_,FIr,_⟩:=d12.fn;have bIr:=FIr.binds (ps:=["shown", "number", "node", "prices"]) λ_ _ _ _ _ _ us hl=>by obtain ⟨_,_,_,_,rfl⟩:=Zhe hl;rfl
 have mIr:=Ybj X G d12.a;obtain ⟨_,FPs,_⟩:=d13.fn;have bPs:=FPs.binds (ps:=["table", "prices", "paper", "price"]) λ_ _ _ _ _ _ us hl=>by obtain ⟨_,_,_,_,rfl⟩:=Zhe hl;rfl
 have mPs:=Ybj X G d13.a;obtain ⟨_,FA,_⟩:=d14.fn;have bA:=FA.binds (ps:=["script", "k"]) λ_ _ _ _ _ _ us hl=>by obtain ⟨_,_,rfl⟩:=YG hl;rfl
 have mA:=Ybj X G d14.a;obtain ⟨_,FSr,_⟩:=d15.fn;have bSr:=FSr.binds (ps:=["cell", "k"]) λ_ _ _ _ _ _ us hl=>by obtain ⟨_,_,rfl⟩:=YG hl;rfl
 have mSr:=Ybj X G d15.a;obtain ⟨_,FBt,_⟩:=d16.fn;have bBt:=FBt.binds (ps:=["number", "width"]) λ_ _ _ _ _ _ us hl=>by obtain ⟨_,_,rfl⟩:=YG hl;rfl
 have mBt:=Ybj X G d16.a;obtain ⟨_,FFy,_⟩:=d17.fn;have bFy:=FFy.binds (ps:=["script", "start"]) λ_ _ _ _ _ _ us hl=>by obtain ⟨_,_,rfl⟩:=YG hl;rfl
 have mFy:=Ybj X G d17.a;obtain ⟨_,FPr,_⟩:=d18.fn;have bPr:=FPr.binds (ps:=["cell", "many"]) λ_ _ _ _ _ _ us hl=>by obtain ⟨_,_,rfl⟩:=YG hl;rfl
 have mPr:=Ybj X G d18.a;obtain ⟨_,FO,_⟩:=d19.fn;have bO:=FO.binds (ps:=["root", "nodes"]) λ_ _ _ _ _ _ us hl=>by obtain ⟨_,_,rfl⟩:=YG hl;rfl
 have mO:=Ybj X G d19.a;obtain ⟨_,FAl,_⟩:=d20.fn;have bAl:=FAl.binds (ps:=["roads"]) λ_ _ _ _ _ _ us hl=>by obtain ⟨_,rfl⟩:=ZgS hl;rfl
 have mAl:=Ybj X G d20.a;obtain ⟨_,FGt,_⟩:=d21.fn;have bGt:=FGt.binds (ps:=["script", "start"]) λ_ _ _ _ _ _ us hl=>by obtain ⟨_,_,rfl⟩:=YG hl;rfl
 have mGt:=Ybj X G d21.a;obtain ⟨_,FTh,_⟩:=d22.fn;have bTh:=FTh.binds (ps:=["cell", "many"]) λ_ _ _ _ _ _ us hl=>by obtain ⟨_,_,rfl⟩:=YG hl;rfl
 have mTh:=Ybj X G d22.a;obtain ⟨_,FAd,_⟩:=d23.fn;have bAd:=FAd.binds (ps:=["table", "ones", "others"]) λ_ _ _ _ _ _ us hl=>by obtain ⟨_,_,_,rfl⟩:=ZeS hl;rfl
 have mAd:=Ybj X G d23.a;obtain ⟨_,FLs,_⟩:=d24.fn;have bLs:=FLs.binds (ps:=["table", "ones", "others"]) λ_ _ _ _ _ _ us hl=>by obtain ⟨_,_,_,rfl⟩:=ZeS hl;rfl
 have mLs:=Ybj X G d24.a;obtain ⟨_,FMv,_⟩:=d25.fn;have bMv:=FMv.binds (ps:=["table", "prices", "by"]) λ_ _ _ _ _ _ us hl=>by obtain ⟨_,_,_,rfl⟩:=ZeS hl;rfl
 have mMv:=Ybj X G d25.a;have FL:=Z2 (st:=Zcy) lL cL kL;have tTabD:W.tabIn K "laid_down" = some (cD,tD):=by
  obtain ⟨_,_,_,_,_,_,_,_,hl⟩:=d2.l;unfold W.tabIn;simp only [d2.a,hl,W.fnOf,lcD,v11D]
 have tTabT:W.tabIn K "from_below" = some (cT,tT):=by
  obtain ⟨_,_,_,_,_,_,_,_,hl⟩:=d8.l;unfold W.tabIn;simp only [d8.a,hl,W.fnOf,lcT,v11T]
 refine ⟨W.fnOf "law" "law" (Jj Zcy) (GR Zcy) (Gf Zcy) .none kVL dcL pmL anL cdL ctL,cD,tD,cT,tT,tTabD,nTabD,tTabT,nTabT,nDT,λs v=>.of_eq rfl,λbase _ _ hCD hBlD hC hBl=>?_⟩;have TS:ZfZ K mg C no:=⟨⟨pg,hd,po,sa⟩,nM,nN,nP,(Ybj X G aC)⟩;have FI:=ZdZ (st:=Zcz) lI cI kI;have bI:Binds K _ ["self", "most"] []:=λs us X' hl=>match us,hl with | [_,_],_=>W.binds_K (fd:=W.fnOf "__init__" "Shelf.__init__" (Jj Zcz) (GR Zcz) (Gf Zcz) (.ref dT) kVI dcI pmI anI cdI ctI) X' rfl dTl rfl rfl rfl
 have FU:=Z2 (st:=Zey) lU cU kU;have bU:=FU.binds (ps:=["self", "road", "low", "high"]) λ_ _ _ _ _ _ us hl=>by obtain ⟨_,_,_,_,rfl⟩:=Zhe hl;rfl
 have GI:=Zf1 (P:=l.prog) (w:=w) (base:=base) FI TS;have GU:=Zf3 (P:=l.prog) (w:=w) (base:=base) FU TS (Ybj X G gno) xex (Ybb X G nlen);have GFm:=Zgn (P:=l.prog) (w:=w) (base:=base) FFm (Ybb X G nmin) (Ybb X G ntuple);have GPb:=Zf5 (P:=l.prog) (w:=w) (base:=base) (G:=gkF l.prog w) (pf:=pfF) (Dom:=DmF) FPb FFm bFm GFm (λs k r d=>Zgm r d) kit (Ybb X G nisinstance) (Ybb X G ntuple);have GLd:=Zgf (P:=l.prog) (w:=w) (base:=base) FLd cLd hCD hBlD FPb bPb mPb GPb ZeD TS ⟨aU,iU,kU⟩ bU GU kit kit2 (Ybb X G nisinstance) (Ybb X G ntuple) (Ybb X G nint) (Ybb X G nsorted);have GF:=Zgb (mg:=mg) (P:=l.prog) (w:=w) (base:=base) FF;have GNu:=Zgd (P:=l.prog) (w:=w) (base:=base) FNu FF bF mF GF (Ybb X G nenumerate);have GLt:=Zgh (P:=l.prog) (w:=w) (base:=base) FLt TS ⟨mk,aI,iI,kc⟩ bI GI FLd bLd mLd GLd FNu bNu mNu GNu;have GTo:=Zgp (P:=l.prog) (w:=w) (base:=base) FTo mFm (Ybj X G gMN) FLt bLt mLt GLt (Ybb X G ntuple) (Ybb X G nsorted) (Ybb X G nset);have GFb:=ZgA (P:=l.prog) (w:=w) (base:=base) FFb cFb hC hBl (Ybb X G nsorted) (Ybb X G nrange) (Ybb X G nlen);have GCb:=ZgD (P:=l.prog) (w:=w) (base:=base) FCb FFb bFb mFb GFb (Ybb X G nsorted);have GLp:=ZgJ (P:=l.prog) (w:=w) (base:=base) FLp FCb bCb mCb GCb;have GPp:=ZgI (P:=l.prog) (w:=w) (base:=base) FPp FCb bCb mCb GCb (Ybj X G gnw) xnw (Ybb X G nrange) (Ybb X G nlen);have GIr:=Zgs (mg:=mg) (P:=l.prog) (w:=w) (base:=base) FIr;have GPs:=Zgw (P:=l.prog) (w:=w) (base:=base) FPs FIr bIr mIr GIr (Ybb X G nlen) (Ybb X G nall) (Ybb X G nenumerate);have GA:=Zf7 (P:=l.prog) (w:=w) (base:=base) FA (Ybb X G nlen);have GSr:=Zgt (mg:=mg) (P:=l.prog) (w:=w) (base:=base) FSr;have GBt:=Zgq (P:=l.prog) (w:=w) (base:=base) FBt (Ybb X G nrange);have GFy:=Zgy (P:=l.prog) (w:=w) (base:=base) FFy FA bA mA GA FBt bBt mBt GBt FSr bSr mSr GSr (Ybb X G nrange) (Ybb X G nlen) (Ybb X G nmin) (Ybb X G nsorted);have GPr:=Zgv (P:=l.prog) (w:=w) (base:=base) FPr FSr bSr mSr GSr (Ybb X G nrange);have GO:=Zf9 (P:=l.prog) (w:=w) (base:=base) FO (Ybb X G nlen);have GAl:=ZgF (P:=l.prog) (w:=w) (base:=base) FAl (Ybb X G nrange) (Ybb X G nlen);have GGt:=ZgH (P:=l.prog) (w:=w) (base:=base) FGt FA bA mA GA FBt bBt mBt GBt FSr bSr mSr GSr FAl bAl mAl GAl FO bO mO GO (Ybb X G nlen);have GTh:=ZgL (P:=l.prog) (w:=w) (base:=base) FTh FPr bPr mPr GPr;have GAd:=ZgP (P:=l.prog) (w:=w) (base:=base) FAd FLp bLp mLp GLp FPp bPp mPp GPp FPs bPs mPs GPs (Ybb X G nzip);have GLs:=ZgQ (P:=l.prog) (w:=w) (base:=base) FLs FLp bLp mLp GLp FPp bPp mPp GPp FPs bPs mPs GPs (Ybb X G nzip) (Ybb X G nmin) (Ybb X G nmax);have GMv:=ZgN (P:=l.prog) (w:=w) (base:=base) FMv FLp bLp mLp GLp FPp bPp mPp GPp FPs bPs mPs GPs (Ybb X G nisinstance) (Ybb X G nbool);exact ZgR FL FA bA mA GA FFy bFy mFy GFy FTo bTo mTo GTo FGt bGt mGt GGt FTh bTh mTh GTh FAd bAd mAd GAd FLs bLs mLs GLs FMv bMv mMv GMv
theorem walk {l:W.OpenLaw}{K:Params->FG}(hn:l.most=some 63)(L:d.params.defaults=[])(hY:∀(w:Ab)(h:Heap),U w h->(K w.params).In h)(D:(PyProof.Rows.recsOf q).find? (λe=>e.name == Str.ofString "laid_down")=some dd)(B:(PyProof.Rows.recsOf q).find? (λe=>e.name == Str.ofString "from_below")=some Z)(F:∀(w:Ab)(mg:Str->Option Aa)(fa:AD)(h:Heap),(K w.params).In h->h.Ns mainGlobals mg->mg d.name=some (.ref fa)->∃(fd:FuncData)(c P c2 P2:AD),W.tabIn (K w.params) "laid_down" = some (c,P)/\(K w.params).lookup P=none/\W.tabIn (K w.params) "from_below" = some (c2,P2)/\(K w.params).lookup P2=none/\P≠P2/\(∀(s:SS)(v:Aa),BindsTo s fd ⟨[v],[]⟩ [("script", v)])/\∀base:Heap,(K w.params).In base->base.Ns mainGlobals mg->W.CodeHd base c P->base.BuiltinsAt mg P->W.CodeHd base c2 P2->base.BuiltinsAt mg P2->GE l.prog w (K w.params) mg base CX0 6 fa fd ["script"] (ZcZ (K w.params) P P2)) :
  W.WalkO q j Y U l.row.toRowW d [] (λf vs=>PySem.call f vs):=
 L2.walk_of2 (n:=63) (k:=6) (x := "script") (tn:=Str.ofString "laid_down") (tm:=Str.ofString "from_below") (CX:=λ_=>CX0) (sp:=λw P P2=>ZcZ (K w.params) P P2) hn (by decide) L ⟨rfl,by decide,by decide⟩ hY D B F (λ_ P P2 _ a ns hl hP N O hS=>⟨a,ns,rfl,hS,hl,hP,N,O,λ_=>rfl⟩) λ_ _ _ _ _ z=>z
end M
open PySem PySem.W PyProof.Rows
local macro_rules
 | `(tactic| o_head $H)=>`(tactic| (
  refine @holds_open _ M.seenP M.loosely M.hookX (XL M.seenP []) _ (Hook.obs $H) (Hook.val $H) (Hook.says $H) _ _ 3582
   (@M.left_boot M.rowP M.seenP M.loosely M.hookX _ (Hook.obs $H) (Hook.val $H) 3582 ?b1 ?b2 ?b3 M.topC M.topA ?hl)
   (Hook.of $H) (Hook.keeps $H) ?h1 XL.keeps (by rfl) (by rfl) (by rfl) ?h5 ?h6 ?h7 ?h8 ?h9 ?hw ?hc
  (case h1=>exact λs e=>xl_of s (Bool.and_eq_true_iff.mp e).1)
  (case h5=>exact λs e=>recFacts_of (Bool.and_eq_true_iff.mp e).2)
  (case h6=>rfl)
  (case h7=>first | assumption | decide +kernel)
  (case h8=>decide +kernel)
  (case h9=>exact ⟨rfl,rfl,rfl,rfl,rfl,by decide +kernel⟩)
  (case b1=>kernel_rfl)
  (case b2=>decide)
  (case b3=>(intro s;kernel_rfl))
  (case hl=>(intro w os;unfold M.topOf;rw [W.Fast.te14082659384304107361,W.Fast.te14364793385576792824];kernel_rfl))))
set_option maxRecDepth 100000 in
set_option maxHeartbeats 0 in
theorem PySem.Challenge.cw_onceways_k62_papers_together_holds : PySem.Challenge.rw_onceways_k62_papers_together.Holds := by
 w_on;o_law;k_head;(case hw=>w_witness2)
 k_fill
 refine M.walk (l:=PySem.Challenge.rw_onceways_k62_papers_together) rfl rfl (λw h Y=>W.km_in_of Y) (by rfl) (by rfl) ?F
 case F=>
  intro w mg fa h KX G hmg
  refine' M.all_mk KX G hmg ?d1 ?d2 ?d3 ?d4 ?d5 ?d6 ?d7 ?d8 ?d9 ?d10 ?d11 ?d12 ?d13 ?d14 ?d15 ?d16 ?d17 ?d18 ?d19 ?d20 ?d21 ?d22 ?d23 ?d24 ?d25 ?aL ?lL ?cL ?kL ?gno ?xex ?kit ?kit2 ?gMN ?gnw ?xnw ?aC ?aI ?iI ?lI ?cI ?kI ?aU ?iU ?lU ?cU ?kU ?dTl ?pg ?hd ?po ?sa ?mk ?kc ?nM ?nN ?nP ?lcD ?v11D ?nTabD ?lcT ?v11T ?nTabT ?nDT ?nrange ?nlist ?nlen ?nint ?nmin ?nmax ?nsorted ?nbool ?ntuple ?nisinstance ?nset ?nenumerate ?nall ?nzip
  (case d1 | d2 | d3 | d4 | d5 | d6 | d7 | d8 | d9 | d10 | d11 | d12 | d13 | d14 | d15 | d16 | d17 | d18 | d19 | d20 | d21 | d22 | d23 | d24 | d25=>exact ⟨by k_is,⟨_,_,_,_,_,_,_,_,by k_is⟩,by k_is,by k_is⟩)
  (case aL | lL | cL | kL | gno=>k_is)
  (case xex=>(unfold L2.ExcC;k_exc))
  (case kit | kit2=>kit_is)
  (case gMN | gnw=>k_is)
  (case xnw=>(unfold L2.ExcC;k_exc))
  (case aC | aI | iI | lI | cI | kI | aU | iU | lU | cU | kU | dTl | pg | hd | po | sa | mk | kc | nM | nN | nP | lcD=>k_is)
  (case v11D=>exact rfl)
  (case nTabD=>kernel_rfl)
  (case lcT=>k_is)
  (case v11T=>exact rfl)
  (case nTabT=>kernel_rfl)
  (case nDT=>decide)
  (case nrange | nlist | nlen | nint | nmin | nmax | nsorted | nbool | ntuple | nisinstance | nset | nenumerate | nall | nzip=>k_is)
#print axioms PySem.Challenge.cw_onceways_k62_papers_together_holds
