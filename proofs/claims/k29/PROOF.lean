import PyProof.Rows.All
import Wide.All
import OpenK.AllK
import Wide.FinOn
import Lean
import PyProof.EqAt
import PyProof.EqKinds
import PyProof.TupleCall
import PySem.Challenge.RW_onceways_k29_whole_there_and_back
set_option Elab.async false
set_option linter.all false
set_option maxRecDepth 100000
set_option maxHeartbeats 4000000
abbrev EX:=PySem.Value->PySem.Shared->Prop
section
open PySem PySem.Spec PyProof.Rows
theorem Yaa:type_of% @wpAny_bind:=@wpAny_bind
theorem Yab:type_of% @wpAny_pure:=@wpAny_pure
theorem Yac:type_of% @List.length_map:=@List.length_map
theorem Yad:type_of% @Nat.le_refl:=@Nat.le_refl
theorem Yae:type_of% @wpS_bind:=@wpS_bind
theorem Yaf:type_of% @wpS_pure:=@wpS_pure
theorem Yag:type_of% @List.mem_append:=@List.mem_append
theorem Yah:type_of% @List.mem_singleton:=@List.mem_singleton
theorem Yai:type_of% @List.length_append:=@List.length_append
theorem Yaj:type_of% @List.mem_map:=@List.mem_map
theorem Yak:type_of% @Heap.lt_size:=@Heap.lt_size
theorem Yal:type_of% @Heap.get?_push_of_some:=@Heap.get?_push_of_some
theorem Yam:type_of% @Bool.false_ne_true:=@Bool.false_ne_true
theorem Yan:type_of% @Array.length_toList:=@Array.length_toList
theorem Yao:type_of% @List.getElem?_eq_some_iff:=@List.getElem?_eq_some_iff
theorem Yap:type_of% @List.map_append:=@List.map_append
theorem Yaq:type_of% @List.map_cons:=@List.map_cons
theorem Yar:type_of% @Nat.zero_le:=@Nat.zero_le
theorem Yas:type_of% @List.mem_cons:=@List.mem_cons
theorem Yat:type_of% @List.length_singleton:=@List.length_singleton
theorem Yau:type_of% @List.getElem?_eq_getElem:=@List.getElem?_eq_getElem
theorem Yav:type_of% @Nat.ne_of_lt:=@Nat.ne_of_lt
theorem Yaw:type_of% @List.size_toArray:=@List.size_toArray
theorem Yax:type_of% @List.mem_of_getElem?:=@List.mem_of_getElem?
theorem Yay:type_of% @Array.getElem?_toList:=@Array.getElem?_toList
theorem Yaz:type_of% @List.getElem?_map:=@List.getElem?_map
theorem Yba:type_of% @W.mg_none_of:=@W.mg_none_of
theorem Ybb:type_of% @List.mem_cons_of_mem:=@List.mem_cons_of_mem
theorem Ybc:type_of% @congrArg:=@congrArg
theorem Ybd:type_of% @Array.getElem?_eq_getElem:=@Array.getElem?_eq_getElem
theorem Ybe:type_of% @List.mem_cons_self:=@List.mem_cons_self
theorem Ybf:type_of% @sizeLine_eq:=@sizeLine_eq
theorem Ybg:type_of% @beq_iff_eq:=@beq_iff_eq
theorem Ybh:type_of% @Heap.get?_push_size:=@Heap.get?_push_size
theorem Ybi:type_of% @decide_eq_true:=@decide_eq_true
theorem Ybj:type_of% @W.mg_of:=@W.mg_of
theorem Ybk:type_of% @Nat.lt_of_lt_of_le:=@Nat.lt_of_lt_of_le
theorem Ybl:type_of% @Option.some.inj:=@Option.some.inj
theorem Ybm:type_of% @List.length_take:=@List.length_take
theorem Ybn:type_of% @List.length_cons:=@List.length_cons
theorem Ybo:type_of% @Nat.le_trans:=@Nat.le_trans
theorem Ybp:type_of% @List.take_length:=@List.take_length
theorem Ybq:type_of% @List.pairwise_map:=@List.pairwise_map
theorem Ybr:type_of% @wpAny_mono:=@wpAny_mono
theorem Ybs:type_of% @List.append_assoc:=@List.append_assoc
theorem Ybt:type_of% @List.mem_filter:=@List.mem_filter
theorem Ybu:type_of% @Option.map_eq_some_iff:=@Option.map_eq_some_iff
theorem Ybv:type_of% @List.pairwise_append:=@List.pairwise_append
theorem Ybw:type_of% @of_decide_eq_true:=@of_decide_eq_true
theorem Ybx:type_of% @decide_eq_false:=@decide_eq_false
theorem Yby:type_of% @List.getElem?_append_left:=@List.getElem?_append_left
theorem Ybz:type_of% @List.take_add_one:=@List.take_add_one
theorem Yca:type_of% @List.mem_range:=@List.mem_range
theorem Ycb:type_of% @List.mem_append_right:=@List.mem_append_right
theorem Ycc:type_of% @Bool.and_eq_true:=@Bool.and_eq_true
theorem Ycd:type_of% @wpS_forRange:=@wpS_forRange
theorem Yce:type_of% @List.getElem?_append_right:=@List.getElem?_append_right
theorem Ycf:type_of% @List.nodup_append:=@List.nodup_append
theorem Ycg:type_of% @PySem.boot_len:=@PySem.boot_len
theorem Ych:type_of% @PassesOwn.never:=@PassesOwn.never
theorem Yci:type_of% @wpAny_holding:=@wpAny_holding
theorem Ycj:type_of% @List.Nodup.length_le_of_subset:=@List.Nodup.length_le_of_subset
theorem Yck:type_of% @Heap.size_push:=@Heap.size_push
theorem Ycl:type_of% @List.length_drop:=@List.length_drop
theorem Ycm:type_of% @Heap.get?_update_other:=@Heap.get?_update_other
theorem Ycn:type_of% @Array.size_push:=@Array.size_push
theorem Yco:type_of% @wpS_modify:=@wpS_modify
theorem Ycp:type_of% @listItems_at:=@listItems_at
theorem Ycq:type_of% @List.map_map:=@List.map_map
theorem Ycr:type_of% @PySem.F.plainAttrs_list:=@PySem.F.plainAttrs_list
theorem Ycs:type_of% @Paired.length:=@Paired.length
theorem Yct:type_of% @Nat.lt_irrefl:=@Nat.lt_irrefl
theorem Ycu:type_of% @if_false:=@if_false
theorem Ycv:type_of% @wpAny_call_entry:=@wpAny_call_entry
theorem Ycw:type_of% @List.getElem_of_mem:=@List.getElem_of_mem
theorem Ycx:type_of% @Array.toList_append:=@Array.toList_append
theorem Ycy:type_of% @W.kia_one:=@W.kia_one
theorem Ycz:type_of% @codeAny_builtin:=@codeAny_builtin
theorem Yda:type_of% @Nat.not_lt_zero:=@Nat.not_lt_zero
theorem Ydb:type_of% @List.take_append_drop:=@List.take_append_drop
theorem Ydc:type_of% @List.pairwise_cons:=@List.pairwise_cons
theorem Ydd:type_of% @List.mem_append_left:=@List.mem_append_left
theorem Yde:type_of% @List.mem_filterMap:=@List.mem_filterMap
theorem Ydf:type_of% @Nat.le_succ:=@Nat.le_succ
theorem Ydg:type_of% @List.find?_cons:=@List.find?_cons
theorem Ydh:type_of% @Nat.zero_add:=@Nat.zero_add
theorem Ydi:type_of% @Nat.add_sub_cancel':=@Nat.add_sub_cancel'
theorem Ydj:type_of% @List.getD_eq_getElem?_getD:=@List.getD_eq_getElem?_getD
theorem Ydk:type_of% @PySem.F.slot_list_append:=@PySem.F.slot_list_append
theorem Ydl:type_of% @PySem.F.type_list_append:=@PySem.F.type_list_append
theorem Ydm:type_of% @Nat.ne_of_gt:=@Nat.ne_of_gt
theorem Ydn:type_of% @PySem.mem_of_lookup:=@PySem.mem_of_lookup
theorem Ydo:type_of% @Nat.sub_self:=@Nat.sub_self
theorem Ydp:type_of% @Int.emod_nonneg:=@Int.emod_nonneg
theorem Ydq:type_of% @Int.emod_lt_of_pos:=@Int.emod_lt_of_pos
theorem Ydr:type_of% @Around.under_plainId:=@Around.under_plainId
theorem Yds:type_of% @wpAny_rule:=@wpAny_rule
theorem Ydt:type_of% @List.filter_append:=@List.filter_append
theorem Ydu:type_of% @beq_eq_false_iff_ne:=@beq_eq_false_iff_ne
theorem Ydv:type_of% @wpAny_truthy_bool:=@wpAny_truthy_bool
theorem Ydw:type_of% @List.append_nil:=@List.append_nil
theorem Ydx:type_of% @wpAny_typeOf:=@wpAny_typeOf
theorem Ydy:type_of% @wpAny_newObj_type:=@wpAny_newObj_type
theorem Ydz:type_of% @wpAny_attempt:=@wpAny_attempt
theorem Yea:type_of% @List.nodup_nil:=@List.nodup_nil
theorem Yeb:type_of% @plainId_quiet:=@plainId_quiet
theorem Yec:type_of% @Sum.inl.inj:=@Sum.inl.inj
theorem Yed:type_of% @Nat.le_of_lt:=@Nat.le_of_lt
theorem Yee:type_of% @Option.isSome_iff_exists:=@Option.isSome_iff_exists
theorem Yef:type_of% @Int.toNat_natCast:=@Int.toNat_natCast
theorem Yeg:type_of% @Bool.false_eq_true:=@Bool.false_eq_true
theorem Yeh:type_of% @Nat.min_eq_left:=@Nat.min_eq_left
theorem Yei:type_of% @List.pairwise_iff_getElem:=@List.pairwise_iff_getElem
theorem Yej:type_of% @Nat.lt_trichotomy:=@Nat.lt_trichotomy
theorem Yek:type_of% @List.length_range:=@List.length_range
theorem Yel:type_of% @Nat.lt_succ_of_lt:=@Nat.lt_succ_of_lt
theorem Yem:type_of% @Array.toList_push:=@Array.toList_push
theorem Yen:type_of% @wpAny_setState_of:=@wpAny_setState_of
theorem Yeo:type_of% @List.take_zero:=@List.take_zero
theorem Yep:type_of% @Array.toList_reverse:=@Array.toList_reverse
theorem Yeq:type_of% @of_decide_eq_false:=@of_decide_eq_false
theorem Yer:type_of% @Around.in1_units:=@Around.in1_units
theorem Yes:type_of% @List.length_filter_le:=@List.length_filter_le
theorem Yet:type_of% @List.filter_cons_of_pos:=@List.filter_cons_of_pos
theorem Yeu:type_of% @wpAny_passesOwn:=@wpAny_passesOwn
theorem Yev:type_of% @Bool.eq_false_iff:=@Bool.eq_false_iff
theorem Yew:type_of% @List.take_of_length_le:=@List.take_of_length_le
theorem Yex:type_of% @Array.getD_eq_getD_getElem?:=@Array.getD_eq_getD_getElem?
theorem Yey:type_of% @List.getElem?_take:=@List.getElem?_take
theorem Yez:type_of% @List.getElem?_drop:=@List.getElem?_drop
theorem Yfa:type_of% @List.mem_of_mem_take:=@List.mem_of_mem_take
theorem Yfb:type_of% @Heap.SameBut.update:=@Heap.SameBut.update
theorem Yfc:type_of% @F.plain_min_loop:=@F.plain_min_loop
theorem Yfd:type_of% @getElem?_mirror_all:=@getElem?_mirror_all
theorem Yfe:type_of% @listUpdate_at:=@listUpdate_at
theorem Yff:type_of% @wpAny_newList:=@wpAny_newList
theorem Yfg:type_of% @Array.toList_map:=@Array.toList_map
theorem Yfh:type_of% @PyProof.Rows.boot_sorted:=@PyProof.Rows.boot_sorted
theorem Yfi:type_of% @List.filter_cons_of_neg:=@List.filter_cons_of_neg
theorem Yfj:type_of% @wpAny_Call_Name_kw:=@wpAny_Call_Name_kw
theorem Yfk:type_of% @wpAny_callSpecial?_slot:=@wpAny_callSpecial?_slot
theorem Yfl:type_of% @beq_self_eq_true:=@beq_self_eq_true
theorem Yfm:type_of% @Nat.min_eq_right:=@Nat.min_eq_right
theorem Yfn:type_of% @List.drop_of_length_le:=@List.drop_of_length_le
theorem Yfo:type_of% @List.drop_eq_getElem_cons:=@List.drop_eq_getElem_cons
theorem Yfp:type_of% @List.getElem?_eq_none:=@List.getElem?_eq_none
theorem Yfq:type_of% @List.getElem?_cons_succ:=@List.getElem?_cons_succ
theorem Yfr:type_of% @Heap.get?_update_self:=@Heap.get?_update_self
theorem Yfs:type_of% @wpAny_isInstance:=@wpAny_isInstance
theorem Yft:type_of% @Option.map_eq_none_iff:=@Option.map_eq_none_iff
theorem Yfu:type_of% @Array.toList_extract:=@Array.toList_extract
theorem Yfv:type_of% @List.extract_eq_take_drop:=@List.extract_eq_take_drop
theorem Yfw:type_of% @List.mem_iff_getElem?:=@List.mem_iff_getElem?
theorem Yfx:type_of% @Array.size_extract:=@Array.size_extract
theorem Yfy:type_of% @List.filter_nil:=@List.filter_nil
theorem Yfz:type_of% @List.replicate_succ:=@List.replicate_succ
theorem Yga:type_of% @List.Perm.append_left:=@List.Perm.append_left
theorem Ygb:type_of% @Array.getElem?_eq_none:=@Array.getElem?_eq_none
theorem Ygc:type_of% @Array.getElem?_eq_some_iff:=@Array.getElem?_eq_some_iff
theorem Ygd:type_of% @List.mem_of_mem_drop:=@List.mem_of_mem_drop
theorem Yge:type_of% @List.filter_sublist:=@List.filter_sublist
theorem Ygf:type_of% @PyProof.Rows.callWith_type1:=@PyProof.Rows.callWith_type1
theorem Ygg:type_of% @PyProof.Rows.slot_tuple_getitem:=@PyProof.Rows.slot_tuple_getitem
theorem Ygh:type_of% @wpAny_typeNameOfWhole_keyiter:=@wpAny_typeNameOfWhole_keyiter
theorem Ygi:type_of% @F.slot_dict_keyiterator_next:=@F.slot_dict_keyiterator_next
end
namespace L2
open PySem PySem.Spec PyProof.Rows
abbrev Key:=Sum Int Str
def YI:Key->Value->Bool
 | .inl k,v=>Value.isInt k v
 | .inr x,v=>Value.isStrOf x v
def Zhy (w:World):Key->Int
 | .inl k=>hashInt k
 | .inr x=>hashStr w x
theorem GP:∀{k:Key}{v:Value},YI k v=true->(∃i t,k=Sum.inl i/\v=Value.int i t)\/(∃x t,k=Sum.inr x/\v=Value.str x t)
 | .inl i,v,h=>by
  obtain ⟨t,e⟩:=Value.isInt_shape (k:=i) (v:=v) h;exact .inl ⟨i,t,rfl,e⟩
 | .inr x,v,h=>by
  obtain ⟨t,e⟩:=Value.isStrOf_shape (x:=x) (v:=v) h;exact .inr ⟨x,t,rfl,e⟩
theorem Zu (i:Int)(t:Tok):YI (.inl i) (.int i t)=true:=by simp [YI,Value.isInt]
theorem Zv (x:Str)(t:Tok):YI (.inr x) (.str x t)=true:=by simp [YI,Value.isStrOf]
theorem Zef (a b:Int):decide ((Sum.inl a:Key)=Sum.inl b)=(a == b):=by
 by_cases e:a=b
 ·subst e;simp
 ·have h:¬ (Sum.inl a:Key)=Sum.inl b:=λq=>e (Yec q);rw [Ybx h];exact (Ydu.mpr e).symm
theorem Zeg (a b:Str):decide ((Sum.inr a:Key)=Sum.inr b)=decide (a=b):=by
 by_cases e:a=b
 ·subst e;simp
 ·have h:¬ (Sum.inr a:Key)=Sum.inr b:=λq=>e (Sum.inr.inj q);rw [Ybx h,Ybx e]
theorem Zeh (a:Int)(b:Str):decide ((Sum.inl a:Key)=Sum.inr b)=false:=Ybx (λq=>nomatch q)
theorem Zei (a:Str)(b:Int):decide ((Sum.inr a:Key)=Sum.inl b)=false:=Ybx (λq=>nomatch q)
def Jc (prog:Program)(w:World):PySem.KeyKind prog w Key where
 is:=YI
 hash:=Zhy w
 inj:=λv a b ha hb=>by
  rcases GP ha with ⟨i,t,rfl,rfl⟩ | ⟨x,t,rfl,rfl⟩
  ·rcases GP hb with ⟨j,u,rfl,e⟩ | ⟨y,u,rfl,e⟩
   ·injection e with e1 _;rw [e1]
   ·exact nomatch e
  ·rcases GP hb with ⟨j,u,rfl,e⟩ | ⟨y,u,rfl,e⟩
   ·exact nomatch e
   ·injection e with e1 _;rw [e1]
 byValue:=λk v h=>by
  rcases GP h with ⟨i,t,rfl,rfl⟩ | ⟨x,t,rfl,rfl⟩ <;> rfl
 pyHash:=λhv h=>by
  rcases GP hv with ⟨i,t,rfl,rfl⟩ | ⟨x,t,rfl,rfl⟩
  ·exact wpAny_pyHash_int h
  ·exact wpAny_pyHash_str h
 eqBool:=λhu hv h=>by
  rcases GP hu with ⟨i,t,rfl,rfl⟩ | ⟨x,t,rfl,rfl⟩
  ·rcases GP hv with ⟨j,u,rfl,rfl⟩ | ⟨y,u,rfl,rfl⟩
   ·rw [Zef] at h;exact wpAny_eqBool_int h
   ·rw [Zeh] at h;exact SeqAt.EqAt.int_str i t y u _ _ _ _ h
  ·rcases GP hv with ⟨j,u,rfl,rfl⟩ | ⟨y,u,rfl,rfl⟩
   ·rw [Zei] at h;exact SeqAt.EqAt.str_int x t j u _ _ _ _ h
   ·rw [Zeg] at h;exact wpAny_eqBool_str h
 «strs»:=λk x t v h=>by
  rcases GP h with ⟨i,u,rfl,e⟩ | ⟨y,u,rfl,e⟩
  ·exact nomatch e
  ·injection e with e1 _
   subst e1;cases v <;> rfl
theorem Xk (prog:Program)(w:World)(i:Int)(t:Tok):(Jc prog w).is (.inl i) (.int i t)=true:=Zu i t
theorem Xl (prog:Program)(w:World)(x:Str)(t:Tok):(Jc prog w).is (.inr x) (.str x t)=true:=Zv x t
inductive V where
 | non | bl (b:Bool) | int (i:Int) | str (x:Str) | byt (b:Array UInt8) | flt (b:UInt64) | ref (a:Addr) | ty (n:String)
 deriving DecidableEq
def RelV:V->Value->Prop
 | .non,u=>u=Value.none
 | .bl b,u=>u=Value.bool b
 | .int i,u=>∃t,u=Value.int i t
 | .str x,u=>∃t,u=Value.str x t
 | .byt b,u=>∃t,u=Value.bytes b t
 | .flt b,u=>∃t,u=Value.float b t
 | .ref a,u=>u=Value.ref a
 | .ty n,u=>u=Value.type n
abbrev Vals:List V->List Value->Prop:=Paired RelV
theorem Vals.length {xs:List V}{us:List Value}(r:Vals xs us):xs.length=us.length:=Ycs r
theorem Vals.get:∀{xs:List V}{us:List Value}{i:Nat}{x:V},Vals xs us->xs[i]?=some x->∃u,us[i]?=some u/\RelV x u
 | _,_,_,_,.nil,e=>by simp at e
 | _,_,0,_,.cons r _,e=>by simp at e;subst e;exact ⟨_,rfl,r⟩
 | _,_,i+1,x,.cons _ t,e=>by
  obtain ⟨u,h1,h2⟩:=Vals.get (i:=i) (x:=x) t (by simpa using e);exact ⟨u,by simpa using h1,h2⟩
theorem Vals.append:∀{xs ys:List V}{us ws:List Value},Vals xs us->Vals ys ws->Vals (xs++ys) (us++ws)
 | _,_,_,_,.nil,s=>s
 | _,_,_,_,.cons r t,s=>.cons r (Vals.append t s)
theorem Vals.take:∀{xs:List V}{us:List Value}(n:Nat),Vals xs us->Vals (xs.take n) (us.take n)
 | _,_,0,_=>.nil
 | _,_,_+1,.nil=>.nil
 | _,_,n+1,.cons r t=>.cons r (Vals.take n t)
theorem Vals.drop:∀{xs:List V}{us:List Value}(n:Nat),Vals xs us->Vals (xs.drop n) (us.drop n)
 | _,_,0,r=>r
 | _,_,_+1,.nil=>.nil
 | _,_,n+1,.cons _ t=>Vals.drop n t
def RelO:Option V->Option Value->Prop
 | some v,some u=>RelV v u
 | none,none=>True
 | _,_=>False
def KV {κ:Type}:List (κ×V)->List (κ×Value)->Prop:=Paired λ(p:κ×V) (q:κ×Value)=>p.1=q.1/\RelV p.2 q.2
def kV:Key->V
 | .inl i=>.int i
 | .inr x=>.str x
inductive HO where
  | lst (xs:List V)
  | tup (xs:List V)
  | dK (kvs:List (Key×V)) | dT (kvs:List (List Key×V))
  | set (S:Int->Bool) (n:Nat)
  | ins (C dx:Addr) (fs:List (Str×V))
  | own (x:Addr)
  | xd (fs:List (Str×V))
  | met (f x:Addr)
  | rng (lo hi:Int)
  | frz (o:Obj) (u:HO)
  | tbl (ps:Array Value)
  | ext (φ:Heap->Prop)
abbrev Hp:=Addr->Option HO
def upd (H:Hp)(a:Addr)(o:HO):Hp:=λb=>if b=a then some o else H b
theorem Ga {H:Hp}{a:Addr}{o:HO}:upd H a o a=some o:=by unfold upd;rw [if_pos rfl]
theorem Gm {H:Hp}{a b:Addr}{o:HO}(h:b≠a):upd H a o b=H b:=by unfold upd;rw [if_neg h]
theorem Jd {H:Hp}{a b:Addr}{o u:HO}(h:H a=some o)(h':H b=some u)(d:o≠u):a≠b:=by
 intro e;subst e;rw [h] at h';exact d (Ybl h')
theorem Gh {H:Hp}{a b:Addr}{o:HO}(h:H a=some o)(h':H b=none):a≠b:=by
 intro e;subst e;rw [h] at h';cases h'
section
variable (P:Program)(w:World)
def ObjOk (H:Hp)(h:Heap)(a:Addr):HO->Prop
 | .lst xs=>xs.length<=sizeLine/\∃(its:List Value)(n:Nat),Vals xs its/\h.get? a=some { cls:=.type "list", data:=.seq its.toArray n }
 | .tup xs=>xs.length<=sizeLine/\∃its:List Value,Vals xs its/\IsTup h a its.toArray
 | .dK kvs=>kvs.length<=sizeLine/\(a == sysModules)=false/\∃vs,KV kvs vs/\h.DictOf (Jc P w) a vs
 | .dT kvs=>kvs.length<=sizeLine/\(a == sysModules)=false/\∃xs:List (List Key×Addr×Value),
   Paired (λ(p:List Key×V) (q:List Key×Addr×Value)=>p.1=q.1/\H q.2.1=some (.tup (p.1.map kV))/\RelV p.2 q.2.2) kvs xs /\
   ∃o es ep,h.get? a=some o/\o.ExactDict/\o.data=.dict es ep/\es.toList=xs.map (entryOfKey (tupleKind (Jc P w)))/\(xs.map (·.1)).Nodup
 | .set S n=>h.SetOf (intKind P w) a S n
 | .ins C dx fs=>H dx=some (.own a)/\fs.length<=1000/\dx≠a/\h.get? a=some (W.instObj C dx) /\
   ∃mA,h.Ns1 dx mA/\(∀f,RelO (fs.lookup f) (mA f))/\PySem.Within mA (fs.map (·.1))
 | .own _=>∃o,h.get? a=some o
 | .xd fs=>∃mA,h.Ns1 a mA/\∀f,RelO (fs.lookup f) (mA f)
 | .rng lo hi=>∃t u v,h.get? a=some { cls:=.type "range", data:=.fields #[.int lo t,.int hi u,.int 1 v] }
 | .frz o u=>h.get? a=some o/\ObjOk H h a u
 | .tbl ps=>h.get? a=some { cls:=.none,data:=.fields ps }
 | .met f x=>h.get? a=some (W.methodObj (.ref f) (.ref x))
 | .ext φ=>φ h/\(∃o,h.get? a=some o)/\∀h1 h2:Heap,φ h1->(∀o,h1.get? a=some o->h2.get? a=some o)->φ h2
def HOk (H:Hp)(h:Heap):Prop:=∀a o,H a=some o->ObjOk P w H h a o
end
section
variable {P:Program}{w:World}{H H':Hp}{h h':Heap}{a:Addr}{o:HO}
theorem ObjOk.lt (x:ObjOk P w H h a o):a<h.objs.size:=by
 cases o with
 | lst xs=>obtain ⟨_,_,_,_,e⟩:=x;exact Yak e
 | tup xs=>obtain ⟨_,_,_,p⟩:=x;exact p.lt
 | dK kvs=>obtain ⟨_,_,_,_,o,_,_,e,_⟩:=x;exact Yak e
 | dT kvs=>obtain ⟨_,_,_,_,o,_,_,e,_⟩:=x;exact Yak e
 | set S n=>obtain ⟨o,_,_,_,e,_⟩:=x;exact Yak e
 | ins C dx fs=>obtain ⟨_,_,_,e,_⟩:=x;exact Yak e
 | own y=>obtain ⟨_,e⟩:=x;exact Yak e
 | xd fs=>obtain ⟨_,⟨_,_,_,e,_⟩,_⟩:=x;exact Yak e
 | rng lo hi=>obtain ⟨_,_,_,e⟩:=x;exact Yak e
 | frz ob u=>obtain ⟨e,_⟩:=x;exact Yak e
 | tbl ps=>exact Yak (show h.get? a=some _ from x)
 | met f y=>exact Yak (show h.get? a=some _ from x)
 | ext φ=>obtain ⟨_,⟨_,e⟩,_⟩:=x;exact Yak e
theorem Paired.mapP {α β:Type}{F G:α->β->Prop}:∀{l₁:List α}{l₂:List β},Paired F l₁ l₂->(∀a b,F a b->G a b)->Paired G l₁ l₂
 | _,_,.nil,_=>.nil
 | _,_,.cons r t,f=>.cons (f _ _ r) (Paired.mapP t f)
theorem ObjOk.stay (x:ObjOk P w H h a o)(k:∀b u,(b=a\/H b=some (.own a))->h.get? b=some u->h'.get? b=some u)(ho:∀b,H b=some (.own a)->H' b=some (.own a))(ht:∀b xs,H b=some (.tup xs)->H' b=some (.tup xs)):ObjOk P w H' h' a o:=by
 induction o with
 | lst xs=>obtain ⟨z,its,n,r,e⟩:=x;exact ⟨z,its,n,r,k _ _ (.inl rfl) e⟩
 | tup xs=>obtain ⟨z,its,r,ob,e,c⟩:=x;exact ⟨z,its,r,ob,k _ _ (.inl rfl) e,c⟩
 | dK kvs=>obtain ⟨z,y,vs,r,ob,es,ep,e,c⟩:=x;exact ⟨z,y,vs,r,ob,es,ep,k _ _ (.inl rfl) e,c⟩
 | dT kvs=>
  obtain ⟨z,y,xs,r,ob,es,ep,e,c⟩:=x;exact ⟨z,y,xs,Paired.mapP r λp q z=>⟨z.1,ht _ _ z.2.1,z.2.2⟩,ob,es,ep,k _ _ (.inl rfl) e,c⟩
 | set S n=>obtain ⟨ob,es,ep,t,e,c⟩:=x;exact ⟨ob,es,ep,t,k _ _ (.inl rfl) e,c⟩
 | ins C dx fs=>
  obtain ⟨d,z,ne,e,mA,⟨od,es,ep,e2,c⟩,r⟩:=x;exact ⟨ho _ d,z,ne,k _ _ (.inl rfl) e,mA,⟨od,es,ep,k _ _ (.inr d) e2,c⟩,r⟩
 | own y=>obtain ⟨ob,e⟩:=x;exact ⟨ob,k _ _ (.inl rfl) e⟩
 | xd fs=>obtain ⟨mA,⟨od,es,ep,e,c⟩,r⟩:=x;exact ⟨mA,⟨od,es,ep,k _ _ (.inl rfl) e,c⟩,r⟩
 | rng lo hi=>obtain ⟨t,u,v,e⟩:=x;exact ⟨t,u,v,k _ _ (.inl rfl) e⟩
 | frz ob u ih=>obtain ⟨e,q⟩:=x;exact ⟨k _ _ (.inl rfl) e,ih q⟩
 | tbl ps=>
  have e:h.get? a=some { cls:=.none,data:=.fields ps }:=x;show h'.get? a=some { cls:=.none,data:=.fields ps };exact k a _ (.inl rfl) e
 | met f y=>
  have e:h.get? a=some (W.methodObj (.ref f) (.ref y)):=x;show h'.get? a=some (W.methodObj (.ref f) (.ref y));exact k a _ (.inl rfl) e
 | ext φ=>obtain ⟨p,⟨o,e⟩,st⟩:=x;exact ⟨st _ _ p λo q=>k _ _ (.inl rfl) q,⟨o,k _ _ (.inl rfl) e⟩,st⟩
theorem HOk.lt (x:HOk P w H h)(e:H a=some o):a<h.objs.size:=(x a o e).lt
theorem HOk.fresh (x:HOk P w H h)(e:h.objs.size<=a):H a=none:=by
 cases q:H a with
 | none=>rfl
 | some u=>exact absurd (Ybk (x.lt q) e) (Yct _)
theorem HOk.kept (x:HOk P w H h)(k:∀b u,h.get? b=some u->h'.get? b=some u):HOk P w H h':=λa o e=>
 (x a o e).stay (λb u _ q=>k b u q) (λ_ q=>q) λ_ _ q=>q
theorem HOk.laid (x:HOk P w H h)(k:∀b u,h.get? b=some u->h'.get? b=some u)(hp:h.objs.size<=a)(new:ObjOk P w (upd H a o) h' a o):HOk P w (upd H a o) h':=λb u e=>by
 have hn:=x.fresh hp;by_cases hb:b=a
 ·subst hb;rw [Ga] at e;cases e;exact new
 ·rw [Gm hb] at e;exact (x b u e).stay (λc v _ q=>k c v q) (λc q=>by rw [Gm (Gh q hn)];exact q) λc xs q=>by rw [Gm (Gh q hn)];exact q
end
def Rd (H:Hp)(a:Addr)(u:HO):Prop:=H a=some u\/∃o,H a=some (.frz o u)
theorem Rd.ok {P:Program}{w:World}{H:Hp}{h:Heap}{a:Addr}{u:HO}(r:Rd H a u)(x:HOk P w H h):ObjOk P w H h a u:=by
 rcases r with r | ⟨o,r⟩
 ·exact x a u r
 ·obtain ⟨_,q⟩:=x a _ r;exact q
def Mut:Option HO->Prop
 | some (.lst _)=>True
 | some (.dK _)=>True
 | some (.dT _)=>True
 | some (.set _ _)=>True
 | some (.ins _ _ _)=>True
 | some (.ext _)=>True
 | _=>False
section
variable {P:Program}{w:World}{H:Hp}{h h':Heap}{x e:Addr}{o':HO}
theorem HOk.write (ok:HOk P w H h)(mu:Mut (H x))(he:e=x\/H e=some (.own x))(k:∀b u,b≠e->h.get? b=some u->h'.get? b=some u)(heo:∃u,h'.get? e=some u)(new:ObjOk P w (upd H x o') h' x o'):HOk P w (upd H x o') h':=λb u q=>by
 have nown:∀c y,H c=some (.own y)->c≠x:=λc y r z=>by subst z;rw [r] at mu;exact mu
 have ntup:∀c xs,H c=some (.tup xs)->c≠x:=λc xs r z=>by subst z;rw [r] at mu;exact mu
 by_cases hb:b=x
 ·subst hb;rw [Ga] at q;cases q;exact new
 ·rw [Gm hb] at q;by_cases hbe:b=e
  ·have q':H b=some (.own x):=by
    rcases he with z | z
    ·exact absurd (hbe.trans z) hb
    ·rw [hbe];exact z
   rw [q] at q';cases q';obtain ⟨v,hv⟩:=heo;exact ⟨v,by rw [hbe];exact hv⟩
  ·refine (ok b u q).stay (λc v hc r=>k c v ?_ r) (λc r=>by rw [Gm (nown c b r)];exact r) λc xs r=>by rw [Gm (ntup c xs r)];exact r
   rcases hc with rfl | hc
   ·exact hbe
   ·rintro rfl;rcases he with z | z
    ·exact nown c b hc z
    ·rw [hc] at z;cases z;exact hb rfl
end
structure Un (fs ex:List Addr)(H H':Hp)(h h':Heap):Prop where
 keep:∀b o,h.get? b=some o->H b=none->b ∉ fs->b ∉ ex->h'.get? b=some o
 slot:∀b o,h.get? b=some o->H b=none->b∈fs->b ∉ ex->∃sl,h'.get? b=some { o with slots:=sl }
 free:∀b o,h.get? b=some o->H b=none->b ∉ ex->H' b=none
 there:∀b o,h.get? b=some o->b ∉ ex->∃o',h'.get? b=some o'
 tups:∀b xs,H b=some (.tup xs)->H' b=some (.tup xs)
 frzs:∀b o u,H b=some (.frz o u)->H' b=some (.frz o u)
 tbls:∀b ps,H b=some (.tbl ps)->∃more,H' b=some (.tbl (ps++more))
section
variable {fs fs' ex ex':List Addr}{H H1 H2:Hp}{h h1 h2 h':Heap}{a x e:Addr}{o:HO}
theorem Un.any (u:Un fs ex H H1 h h1){b:Addr}{ob:Obj}(q:h.get? b=some ob)(n:H b=none)(hx:b ∉ ex):∃sl,h1.get? b=some { ob with slots:=sl }:=by
 by_cases hb:b∈fs
 ·exact u.slot b ob q n hb hx
 ·exact ⟨ob.slots,u.keep b ob q n hb hx⟩
theorem Un.trans (a:Un fs ex H H1 h h1)(b:Un fs ex H1 H2 h1 h2):Un fs ex H H2 h h2 where
 keep:=λc ob q n hc hx=>b.keep c ob (a.keep c ob q n hc hx) (a.free c ob q n hx) hc hx
 slot:=λc ob q n hc hx=>by
  obtain ⟨sl,e1⟩:=a.slot c ob q n hc hx;obtain ⟨sl',e2⟩:=b.slot c _ e1 (a.free c ob q n hx) hc hx;exact ⟨sl',e2⟩
 free:=λc ob q n hx=>by
  obtain ⟨o',e1⟩:=a.there c ob q hx;exact b.free c o' e1 (a.free c ob q n hx) hx
 there:=λc ob q hx=>by
  obtain ⟨o',e1⟩:=a.there c ob q hx;exact b.there c o' e1 hx
 tups:=λc xs q=>b.tups c xs (a.tups c xs q)
 frzs:=λc ob xs q=>b.frzs c ob xs (a.frzs c ob xs q)
 tbls:=λc ps q=>by
  obtain ⟨m1,e1⟩:=a.tbls c ps q;obtain ⟨m2,e2⟩:=b.tbls c _ e1;exact ⟨m1++m2,by rw [e2,Array.append_assoc]⟩
theorem Un.kept (k:∀b u,h.get? b=some u->h'.get? b=some u):Un fs ex H H h h':=
 ⟨λb ob q _ _ _=>k b ob q,λb ob q _ _ _=>⟨ob.slots,k b ob q⟩,λ_ _ _ n _=>n,λb ob q _=>⟨ob,k b ob q⟩,λ_ _ q=>q,λ_ _ _ q=>q,λ_ ps q=>⟨#[],by rw [q];simp⟩⟩
theorem Un.refl:Un fs ex H H h h:=Un.kept λ_ _ q=>q
theorem Un.laid (k:∀b u,h.get? b=some u->h'.get? b=some u)(hp:h.objs.size<=a)(hn:H a=none):Un fs ex H (upd H a o) h h' where
 keep:=λb u q _ _ _=>k b u q
 slot:=λb u q _ _ _=>⟨u.slots,k b u q⟩
 free:=λb u q n _=>by rw [Gm (Yav (Ybk (Yak q) hp))];exact n
 there:=λb u q _=>⟨u,k b u q⟩
 tups:=λb xs q=>by rw [Gm (Gh q hn)];exact q
 frzs:=λb u xs q=>by rw [Gm (Gh q hn)];exact q
 tbls:=λb ps q=>⟨#[],by rw [Gm (Gh q hn),q];simp⟩
theorem Un.write (mu:Mut (H x))(he:e=x\/H e=some (.own x))(k:∀b u,b≠e->h.get? b=some u->h'.get? b=some u)(heo:∃u,h'.get? e=some u):Un fs ex H (upd H x o) h h':=by
 have hx:∀b,H b=none->b≠x:=λb n z=>by subst z;rw [n] at mu;exact mu
 have hb:∀b,H b=none->b≠e:=λb n z=>by
  subst z;rcases he with r | r
  ·exact hx b n r
  ·rw [n] at r;cases r
 have hm:∀b u,H b=some u->¬ Mut (some u)->b≠x:=λb u q nm z=>by subst z;rw [q] at mu;exact nm mu
 refine ⟨λb u q n _ _=>k b u (hb b n) q,λb u q n _ _=>⟨u.slots,k b u (hb b n) q⟩,λb u q n _=>by rw [Gm (hx b n)];exact n,λb u q _=>?_,
  λb xs q=>by rw [Gm (hm b _ q λz=>z)];exact q,λb u xs q=>by rw [Gm (hm b _ q λz=>z)];exact q,λb ps q=>⟨#[],by rw [Gm (hm b _ q λz=>z),q];simp⟩⟩
 by_cases hbe:b=e
 ·subst hbe;exact heo
 ·exact ⟨u,k b u hbe q⟩
theorem Un.mono (u:Un fs ex H H1 h h1)(hs:∀b∈fs,b∈fs')(hx:∀b∈ex,b∈ex'):Un fs' ex' H H1 h h1:=
 ⟨λb ob q n hb he=>u.keep b ob q n (λz=>hb (hs b z)) λz=>he (hx b z),λ_ _ q n _ he=>u.any q n λz=>he (hx _ z),λb ob q n he=>u.free b ob q n λz=>he (hx b z),λb ob q he=>u.there b ob q λz=>he (hx b z),u.tups,u.frzs,u.tbls⟩
end
def trk (h:Heap)(H:Hp):List Addr:=(List.range h.objs.size).filter λa=>(H a).isSome
def Zw (h:Heap)(H:Hp):Heap:=W.hideAll h (trk h H)
theorem Zx (h:Heap)(H:Hp):(Zw h H).objs.size=h.objs.size:=W.hideAll_size _ _
theorem Zbt {h:Heap}{H:Hp}{b:Addr}{o:Obj}(e:h.get? b=some o)(n:H b=none):(Zw h H).get? b=some o:=
 W.hideAll_get _ e λhm=>by
  have q:(H b).isSome=true:=(Ybt.mp hm).2;rw [n] at q;simp at q
theorem Zc3 {h:Heap}{H:Hp}{b:Addr}{o:Obj}(e:(Zw h H).get? b=some o):h.get? b=some o/\H b=none:=by
 have e':h.get? b=some o:=W.of_hideAll (trk h H) e;refine ⟨e',?_⟩;cases q:H b with
 | none=>rfl
 | some x=>
  have hm:b∈trk h H:=Ybt.mpr ⟨Yca.mpr (Yak e'),by simp [q]⟩;have z:(Zw h H).get? b=none:=W.hideAll_none (trk h H) hm;rw [z] at e;cases e
structure Mod (K:W.Frag)(mg:Str->Option Value)(base:Heap):Prop where
 kin:K.In base
 glob:base.Ns mainGlobals mg
 blt:∃mb,base.Ns builtinsNs mb/\∀x:Str,x ≠ "__name__" -> mb x=bootBuiltins x
 nolimit:base.NoLimit
structure Cx where
 prog:Program
 w:World
 K:W.Frag
 mg:Str->Option Value
 base:Heap
 A:Around
 N:List Str
 s₀:Shared
 H₀:Hp
 env:Env
 outer:List Env
 stack:List Env
 ex:List Addr
 fn:Str->Bool
 calm:Bool
 pn:List (Addr×Obj)
 xe:EX
def frs (l:List Env):List Addr:=l.filterMap (·.frame)
abbrev Cx.fs (X:Cx):List Addr:=frs X.outer
def Vis (sc:Scope)(x:Str):Prop:=sc.names.lookup x=some .local\/sc.names.lookup x=some .cell\/sc.names.lookup x=some .free
def Loc (sc:Scope)(x:Str):Prop:=sc.names.lookup x=some .local\/sc.names.lookup x=some .cell
def Zhz (env:Env)(h:Heap)(m:Str->Option Value)(x:Str)(u:Value):Prop:=
 (env.kindOf x=some .local/\m x=some u)\/((env.kindOf x=some .cell\/env.kindOf x=some .free)/\∃c,env.cells.lookup x=some c/\h.IsCell c (some u))
structure Cx.Ok (X:Cx):Prop where
 mod:Mod X.K X.mg X.base
 kind:X.env.scope.kind=.function
 glob:X.env.globals=mainGlobals
 blt:X.env.builtins=builtinsNs
 above:X.s₀.heap.objs.size<=X.env.locals
 inj:∀x y c,X.env.cells.lookup x=some c->X.env.cells.lookup y=some c->x=y
 has:∀x,(X.env.kindOf x=some .cell\/X.env.kindOf x=some .free)->∃c,X.env.cells.lookup x=some c
 cab:∀x c,X.fn x=true->X.env.cells.lookup x=some c->X.s₀.heap.objs.size<=c
 hd:X.calm=true->X.A.handled=none
 frames:X.A.frames=some X.stack
 stk:X.stack=X.outer\/(X.stack=X.env::X.outer/\X.env.frame=some X.env.locals)
 exf:∀b∈X.ex,b≠X.env.locals/\∀x c,X.env.cells.lookup x=some c->c≠b
 bs:∀b o,X.base.get? b=some o->X.s₀.heap.get? b=some o/\X.H₀ b=none
 bsz:X.base.objs.size<=X.s₀.heap.objs.size
 noex:∀b o,X.base.get? b=some o->b ∉ X.ex
 exfs:∀b∈X.ex,b ∉ X.fs
 funs:X.s₀.heap.FunFrames X.base X.outer
 frf:∀b∈X.fs,X.H₀ b=none
structure Inv (X:Cx)(qJ:List (Addr×Obj))(σ:List (Option V))(H:Hp)(s:Shared):Prop where
 ok:X.Ok
 os:s.os=X.s₀.os
 bare:AllBare s.gens
 base:Un X.fs X.ex X.H₀ H X.s₀.heap s.heap
 loc:∃m,s.heap.Ns X.env.locals m/\∀(i:Nat)(x:Str)(v:V),X.N[i]?=some x->σ[i]?=some (some v)->Vis X.env.scope x->∃u,RelV v u/\Zhz X.env s.heap m x u
 cell:∀x c,X.env.cells.lookup x=some c->∃v,s.heap.IsCell c v
 free:H X.env.locals=none
 freeC:∀x c,X.env.cells.lookup x=some c->H c=none
 pin:∀p∈X.pn++qJ,s.heap.get? p.1=some p.2/\H p.1=none/\p.1≠X.env.locals/\p.1 ∉ X.fs/\∀v,p.2.data≠.cell v
 hok:HOk X.prog X.w H s.heap
 len:σ.length=X.N.length
section
variable {X:Cx}{qJ:List (Addr×Obj)}{σ:List (Option V)}{H H':Hp}{s:Shared}{h':Heap}
theorem Cx.Ok.nofr (ok:X.Ok){b:Addr}{o:Obj}(e:X.base.get? b=some o):b ∉ X.fs:=λhb=>by
 have:=(ok.funs.mem hb).1;rw [e] at this;cases this
theorem Inv.bs (I:Inv X qJ σ H s):∀b o,X.base.get? b=some o->s.heap.get? b=some o/\H b=none:=λb o e=>
 ⟨I.base.keep b o (I.ok.bs b o e).1 (I.ok.bs b o e).2 (I.ok.nofr e) (I.ok.noex b o e),I.base.free b o (I.ok.bs b o e).1 (I.ok.bs b o e).2 (I.ok.noex b o e)⟩
theorem Inv.bk (I:Inv X qJ σ H s):∀b o,X.base.get? b=some o->s.heap.get? b=some o:=λb o e=>(I.bs b o e).1
theorem Inv.mod (I:Inv X qJ σ H s):Mod X.K X.mg X.base:=I.ok.mod
theorem Inv.kIn (I:Inv X qJ σ H s):X.K.In s.heap:=I.ok.mod.kin.keeps I.bk
theorem Inv.lt (I:Inv X qJ σ H s):X.env.locals<s.heap.objs.size:=let ⟨_,hn,_⟩:=I.loc;hn.lt
theorem Inv.sz (I:Inv X qJ σ H s):X.s₀.heap.objs.size<=s.heap.objs.size:=Ybo I.ok.above (Yed I.lt)
theorem Inv.nofs (I:Inv X qJ σ H s){a:Addr}(h:s.heap.objs.size<=a):a ∉ X.fs:=λhb=>by
 obtain ⟨_,o,ho,_⟩:=I.ok.funs.mem hb;exact absurd (Ybk (Yak ho) (Ybo I.sz h)) (Yct _)
theorem Inv.cne (I:Inv X qJ σ H s):∀x c,X.env.cells.lookup x=some c->c≠X.env.locals:=λx c e z=>by
 obtain ⟨v,o,ho,hd⟩:=I.cell x c e;obtain ⟨m,⟨o',es,ep,ho',hd',_⟩,_⟩:=I.loc;rw [z,ho'] at ho;cases ho;rw [hd'] at hd;cases hd
theorem Inv.funs (I:Inv X qJ σ H s):s.heap.FunFrames X.base X.outer:=by
 have all:∀(l:List Env),(∀b∈frs l,b∈X.fs)->X.s₀.heap.FunFrames X.base l->s.heap.FunFrames X.base l:=by
  intro l
  induction l with
  | nil=>intro _ _;trivial
  | cons env r ih=>
   intro hs hl;obtain ⟨hk,⟨L,o,hf,hn,ho,hd⟩,hr⟩:=hl;have hL:L∈X.fs:=hs L (by unfold frs;rw [List.filterMap_cons,hf];exact Ybe);obtain ⟨sl,e⟩:=I.base.slot L o ho (I.ok.frf L hL) hL λz=>I.ok.exfs L z hL;exact ⟨hk,⟨L,_,hf,hn,e,hd⟩,ih (λb hb=>hs b (by unfold frs;rw [List.filterMap_cons,hf];exact Ybb _ hb)) hr⟩
 exact all X.outer (λ_ hb=>hb) I.ok.funs
theorem Inv.stack (I:Inv X qJ σ H s):s.heap.FunFrames X.base X.stack:=by
 rcases I.ok.stk with e | ⟨e,hf⟩
 ·rw [e];exact I.funs
 ·rw [e];obtain ⟨m,hn,_⟩:=I.loc;refine .cons (by rw [I.ok.kind];decide) hf hn ?_ I.funs;exact Heap.get?_none_of_le (Ybo I.ok.bsz I.ok.above)
theorem Inv.stkSub (I:Inv X qJ σ H s):∀b∈frs X.stack,b∈X.env.locals::X.fs:=λb hb=>by
 rcases I.ok.stk with e | ⟨e,hf⟩
 ·rw [e] at hb;exact Ybb _ hb
 ·rw [e] at hb;unfold frs at hb;rw [List.filterMap_cons,hf] at hb;exact hb
theorem Inv.stkFree (I:Inv X qJ σ H s):∀b∈frs X.stack,H b=none:=λb hb=>by
 rcases Yas.mp (I.stkSub b hb) with e | hb
 ·rw [e];exact I.free
 ·obtain ⟨_,o,ho,_⟩:=I.ok.funs.mem hb;exact I.base.free b o ho (I.ok.frf b hb) λz=>I.ok.exfs b z hb
theorem Inv.step {g':Array GenState}{t':Nat}{d':Drawn}{ch:List Addr}(I:Inv X qJ σ H s)(hch:∀b∈ch,(b∈X.ex\/X.s₀.heap.objs.size<=b)/\b≠X.env.locals/\(∀x c,X.env.cells.lookup x=some c->c≠b)/\∀p∈X.pn++qJ,p.1≠b)(keep:∀b o,b≠X.env.locals->b ∉ X.fs->b ∉ ch->s.heap.get? b=some o->H b=none->h'.get? b=some o)(slot:∀b o,b≠X.env.locals->b∈X.fs->b ∉ ch->s.heap.get? b=some o->H b=none->∃sl,h'.get? b=some { o with slots:=sl })(free:∀b o,b ∉ ch->s.heap.get? b=some o->H b=none->H' b=none)(there:∀b o,b ∉ ch->s.heap.get? b=some o->∃o',h'.get? b=some o')(tups:∀b xs,H b=some (.tup xs)->H' b=some (.tup xs))(frzs:∀b o u,H b=some (.frz o u)->H' b=some (.frz o u))(tbls:∀b ps,H b=some (.tbl ps)->∃more,H' b=some (.tbl (ps++more)))(ns:∀m,s.heap.Ns X.env.locals m->h'.Ns X.env.locals m)(hok:HOk X.prog X.w H' h')(hg:AllBare g') :
  Inv X qJ σ H' { s with heap:=h',gens:=g',drawn:=d',toks:=t' }:=by
 have neL:∀b o,X.s₀.heap.get? b=some o->b≠X.env.locals:=λb o e=>Yav (Ybk (Yak e) I.ok.above);have neC:∀b o,X.s₀.heap.get? b=some o->b ∉ X.ex->b ∉ ch:=λb o e hx hb=>by
  rcases (hch b hb).1 with z | z
  ·exact hx z
  ·exact absurd (Ybk (Yak e) z) (Yct _)
 have cellK:∀x c,X.env.cells.lookup x=some c->∀v,s.heap.IsCell c v->h'.IsCell c v:=λx c e v ⟨o,ho,hd⟩=>by
  have nch:c ∉ ch:=λz=>(hch c z).2.2.1 x c e rfl;by_cases hc:c∈X.fs
  ·obtain ⟨sl,q⟩:=slot c o (I.cne x c e) hc nch ho (I.freeC x c e);exact ⟨_,q,hd⟩
  ·exact ⟨o,keep c o (I.cne x c e) hc nch ho (I.freeC x c e),hd⟩
 refine ⟨I.ok,I.os,hg,⟨λb o e n hb hx=>?_,λb o e n hb hx=>?_,λb o e n hx=>?_,λb o e hx=>?_,λb xs e=>tups b xs (I.base.tups b xs e),λb o xs e=>frzs b o xs (I.base.frzs b o xs e),λb ps e=>?_⟩,?_,λx c e=>?_,?_,λx c e=>?_,λp hp=>?_,hok,I.len⟩
 ·exact keep b o (neL b o e) hb (neC b o e hx) (I.base.keep b o e n hb hx) (I.base.free b o e n hx)
 ·obtain ⟨sl,e1⟩:=I.base.slot b o e n hb hx;obtain ⟨sl',e2⟩:=slot b _ (neL b o e) hb (neC b o e hx) e1 (I.base.free b o e n hx);exact ⟨sl',e2⟩
 ·obtain ⟨o',e1⟩:=I.base.there b o e hx;exact free b o' (neC b o e hx) e1 (I.base.free b o e n hx)
 ·obtain ⟨o',e1⟩:=I.base.there b o e hx;exact there b o' (neC b o e hx) e1
 ·obtain ⟨m1,e1⟩:=I.base.tbls b ps e;obtain ⟨m2,e2⟩:=tbls b _ e1;exact ⟨m1++m2,by rw [e2,Array.append_assoc]⟩
 ·obtain ⟨m,hn,hl⟩:=I.loc;refine ⟨m,ns m hn,λi x v e1 e2 e3=>?_⟩;obtain ⟨u,r,l⟩:=hl i x v e1 e2 e3;refine ⟨u,r,?_⟩;rcases l with l | ⟨k,c,e,z⟩
  ·exact .inl l
  ·exact .inr ⟨k,c,e,cellK x c e _ z⟩
 ·obtain ⟨v,z⟩:=I.cell x c e;exact ⟨v,cellK x c e v z⟩
 ·obtain ⟨m,⟨o,_,_,ho,_⟩,_⟩:=I.loc;exact free _ o (λz=>(hch _ z).2.1 rfl) ho I.free
 ·obtain ⟨v,o,ho,hd⟩:=I.cell x c e;exact free c o (λz=>(hch c z).2.2.1 x c e rfl) ho (I.freeC x c e)
 ·obtain ⟨e,n,ne,nf,d⟩:=I.pin p hp;have nch:p.1 ∉ ch:=λz=>(hch p.1 z).2.2.2 p hp rfl;exact ⟨keep p.1 p.2 ne nf nch e n,free p.1 p.2 nch e n,ne,nf,d⟩
theorem Inv.un {t':Nat}(I:Inv X qJ σ H s)(u:Un X.fs [] H H' s.heap h')(hok:HOk X.prog X.w H' h'):Inv X qJ σ H' { s with heap:=h',toks:=t' }:=by
 obtain ⟨m,⟨o,es,ep,ho,r⟩,_⟩:=id I.loc;obtain ⟨sl,hL⟩:=u.any ho I.free (by simp);exact I.step (g':=s.gens) (d':=s.drawn) (ch:=[]) (λ_ z=>nomatch z) (λb o _ hb _ e n=>u.keep b o e n hb (by simp)) (λb o _ hb _ e n=>u.slot b o e n hb (by simp)) (λb o _ e n=>u.free b o e n (by simp)) (λb o _ e=>u.there b o e (by simp)) u.tups u.frzs u.tbls (λm' hm=>by
  obtain ⟨o',es',ep',ho',r'⟩:=hm;rw [ho] at ho';cases ho';exact ⟨_,es',ep',hL,r'⟩) hok I.bare
theorem Inv.call {g':Array GenState}{t':Nat}{d':Drawn}{ch:List Addr}(I:Inv X qJ σ H s)(u:Un (frs X.stack) ch H H' s.heap h')(hok:HOk X.prog X.w H' h')(hg:AllBare g')(hch:∀b∈ch,(b∈X.ex\/X.s₀.heap.objs.size<=b)/\b≠X.env.locals/\(∀x c,X.env.cells.lookup x=some c->c≠b)/\∀p∈X.pn++qJ,p.1≠b) :
  Inv X qJ σ H' { s with heap:=h',gens:=g',drawn:=d',toks:=t' }:=by
 obtain ⟨m,⟨o,es,ep,ho,r⟩,_⟩:=id I.loc;obtain ⟨sl,hL⟩:=u.any ho I.free λz=>(hch _ z).2.1 rfl;exact I.step (ch:=ch) hch (λb o hL hb hc e n=>u.keep b o e n (λz=>(Yas.mp (I.stkSub b z)).elim hL hb) hc) (λb o _ _ hc e n=>u.any e n hc) (λb o hc e n=>u.free b o e n hc) (λb o hc e=>u.there b o e hc) u.tups u.frzs u.tbls (λm' hm=>by
  obtain ⟨o',es',ep',ho',r'⟩:=hm;rw [ho] at ho';cases ho';exact ⟨_,es',ep',hL,r'⟩) hok hg
theorem Inv.turned {t':Nat}{it:Addr}(I:Inv X qJ σ H s)(k:∀b o,b≠it->s.heap.get? b=some o->h'.get? b=some o)(hn:H it=none)(hL:it≠X.env.locals)(h1:it∈X.ex\/X.s₀.heap.objs.size<=it)(h2:∀x c,X.env.cells.lookup x=some c->c≠it)(h3:∀p∈X.pn++qJ,p.1≠it):Inv X qJ σ H { s with heap:=h',toks:=t' }:=by
 have nit:∀b u,H b=some u->b≠it:=λb u e z=>by rw [z,hn] at e;cases e
 refine I.step (g':=s.gens) (d':=s.drawn) (ch:=[it]) (λb hb=>?_) (λb o _ _ hc e _=>k b o (λz=>hc (by simp [z])) e) (λb o _ _ hc e _=>⟨o.slots,k b o (λz=>hc (by simp [z])) e⟩) (λ_ _ _ _ n=>n)
  (λb o hc e=>⟨o,k b o (λz=>hc (by simp [z])) e⟩) (λ_ _ e=>e) (λ_ _ _ e=>e) (λb ps e=>⟨#[],by rw [e];simp⟩) (λm hm=>?_) (λb u e=>?_) I.bare
 ·have e:b=it:=by simpa using hb
  subst e;exact ⟨h1,hL,h2,h3⟩
 ·obtain ⟨o,es,ep,ho,r⟩:=hm;exact ⟨o,es,ep,k _ o (Ne.symm hL) ho,r⟩
 ·refine (I.hok b u e).stay (λc v hc q=>k c v ?_ q) (λ_ q=>q) λ_ _ q=>q;rcases hc with z | z
  ·rw [z];exact nit b u e
  ·exact nit c _ z
theorem Inv.tok (I:Inv X qJ σ H s)(t:Nat):Inv X qJ σ H { s with toks:=t }:=I.un (h':=s.heap) (t':=t) Un.refl I.hok
theorem Inv.kept {t':Nat}(I:Inv X qJ σ H s)(k:∀b u,s.heap.get? b=some u->h'.get? b=some u):Inv X qJ σ H { s with heap:=h',toks:=t' }:=I.un (Un.kept k) (I.hok.kept k)
theorem Inv.laid {a:Addr}{o:HO}{t':Nat}(I:Inv X qJ σ H s)(k:∀b u,s.heap.get? b=some u->h'.get? b=some u)(hp:s.heap.objs.size<=a)(new:ObjOk X.prog X.w (upd H a o) h' a o) :
  Inv X qJ σ (upd H a o) { s with heap:=h',toks:=t' }:=I.un (Un.laid k hp (I.hok.fresh hp)) (I.hok.laid k hp new)
theorem Inv.write {x e:Addr}{o:HO}{t':Nat}(I:Inv X qJ σ H s)(mu:Mut (H x))(he:e=x\/H e=some (.own x))(k:∀b u,b≠e->s.heap.get? b=some u->h'.get? b=some u)(heo:∃u,h'.get? e=some u)(new:ObjOk X.prog X.w (upd H x o) h' x o):Inv X qJ σ (upd H x o) { s with heap:=h',toks:=t' }:=I.un (Un.write mu he k heo) (I.hok.write mu he k heo new)
theorem Inv.weak {σ':List (Option V)}(I:Inv X qJ σ H s)(hl:σ'.length=σ.length)(w:∀(i:Nat) v,σ'[i]?=some (some v)->σ[i]?=some (some v)):Inv X qJ σ' H s:=
 ⟨I.ok,I.os,I.bare,I.base,let ⟨m,hn,hl'⟩:=I.loc;⟨m,hn,λi x v e1 e2 e3=>hl' i x v e1 (w i v e2) e3⟩,I.cell,I.free,I.freeC,I.pin,I.hok,hl.trans I.len⟩
theorem Inv.pins_of {pins':List (Addr×Obj)}(I:Inv X qJ σ H s)(h:∀p∈pins',s.heap.get? p.1=some p.2/\H p.1=none/\p.1≠X.env.locals/\p.1 ∉ X.fs/\∀v,p.2.data≠.cell v):Inv X pins' σ H s:=
 ⟨I.ok,I.os,I.bare,I.base,I.loc,I.cell,I.free,I.freeC,λp hp=>(Yag.mp hp).elim (λz=>I.pin p (Ydd _ z)) (h p),I.hok,I.len⟩
theorem XS {N:List Str}(hN:N.Nodup){i j:Nat}{x:Str}(a:N[i]?=some x)(b:N[j]?=some x):i=j:=by
 obtain ⟨h1,e1⟩:=Yao.mp a;obtain ⟨h2,e2⟩:=Yao.mp b;exact (List.getElem_inj hN).mp (e1.trans e2.symm)
theorem Wx {M:Model}{A:Around}{E:EX}{i:Nat}{x:Str}{v:V}{u:Value}{Q:Unit->Shared->Prop}(I:Inv X qJ σ H s)(hN:X.N.Nodup)(hi:X.N[i]?=some x)(hx:Loc X.env.scope x)(r:RelV v u)(h:∀s',Inv X qJ (σ.set i (some v)) H s'->(∃a,Heap.SameBut a s.heap s'.heap/\(a=X.env.locals\/X.env.cells.lookup x=some a))->Q () s')(hf:X.fn x=true\/X.env.scope.names.lookup x=some .local:=by first | exact .inl rfl | exact .inr rfl | assumption):wpAny M A (storeName X.env x u) Q E s:=by
 obtain ⟨m,hn,hl⟩:=id I.loc;have hcls:(X.env.scope.kind == .class || (X.env.scope.kind == .module && X.env.locals != X.env.globals))=false:=by rw [I.ok.kind];rfl
 have hiσ:i<σ.length:=by rw [I.len];exact (Yao.mp hi).1
 have cne:=I.cne;have tracked:∀{a:Addr}{h':Heap},(∃o,s.heap.get? a=some o/\H a=none)->Heap.SameBut a s.heap h'->HOk X.prog X.w H h':=λ{a h'} ha hs b ob e=>by
  obtain ⟨_,_,hfree⟩:=ha;refine (I.hok b ob e).stay (λc w' hc q=>(hs.2 c ?_).trans q) (λ_ q=>q) λ_ _ q=>q;rintro rfl;rcases hc with rfl | hc
  ·rw [hfree] at e;cases e
  ·rw [hfree] at hc;cases hc
 rcases hx with hk | hk
 ·refine wpAny_storeName_local hk hn (λh' hn' hs=>?_) hcls;obtain ⟨oL,_,_,hoL,_⟩:=id hn;refine h _ ⟨I.ok,I.os,I.bare,⟨λb o e n hb hx=>?_,λb o e n hb hx=>?_,I.base.free,λb o e hx=>?_,I.base.tups,I.base.frzs,I.base.tbls⟩,⟨_,hn',λj y v' e1 e2 e3=>?_⟩,λy c e=>?_,I.free,I.freeC,λp hp=>?_,tracked ⟨oL,hoL,I.free⟩ hs,by simpa using I.len⟩ ⟨_,hs,.inl rfl⟩
  ·exact (hs.2 b (Yav (Ybk (Yak e) I.ok.above))).trans (I.base.keep b o e n hb hx)
  ·obtain ⟨sl,e1⟩:=I.base.slot b o e n hb hx;exact ⟨sl,(hs.2 b (Yav (Ybk (Yak e) I.ok.above))).trans e1⟩
  ·obtain ⟨o',e1⟩:=I.base.there b o e hx;exact ⟨o',(hs.2 b (Yav (Ybk (Yak e) I.ok.above))).trans e1⟩
  ·by_cases hj:j=i
   ·subst hj;rw [hi] at e1;cases e1;rw [List.getElem?_set_self hiσ] at e2;cases e2;exact ⟨u,r,.inl ⟨hk,by simp⟩⟩
   ·rw [List.getElem?_set_ne (Ne.symm hj)] at e2;obtain ⟨u',r',q⟩:=hl j y v' e1 e2 e3;refine ⟨u',r',?_⟩;rcases q with ⟨k,e⟩ | ⟨k,c,e,z⟩
    ·refine .inl ⟨k,?_⟩;have:y≠x:=λe=>hj (XS hN e1 (e▸hi));simp [this,e]
    ·exact .inr ⟨k,c,e,z.sameBut hs (cne y c e)⟩
  ·obtain ⟨w',z⟩:=I.cell y c e;exact ⟨w',z.sameBut hs (cne y c e)⟩
  ·obtain ⟨e,n,ne,nf,d⟩:=I.pin p hp;exact ⟨(hs.2 p.1 ne).trans e,n,ne,nf,d⟩
 ·have hfn:X.fn x=true:=by
   rcases hf with z | z
   ·exact z
   ·rw [z] at hk;cases hk
  obtain ⟨c,hc⟩:=I.ok.has x (.inl hk);obtain ⟨w',z⟩:=I.cell x c hc;refine wpAny_storeName_cell I.ok.kind hk hc z (λh' hc' hs=>?_);obtain ⟨oc,hoc,hocd⟩:=id z;refine h { s with heap:=h' } ⟨I.ok,I.os,I.bare,⟨λb o e n hb hx=>?_,λb o e n hb hx=>?_,I.base.free,λb o e hx=>?_,I.base.tups,I.base.frzs,I.base.tbls⟩,⟨m,hn.sameBut hs (Ne.symm (cne x c hc)),λj y v' e1 e2 e3=>?_⟩,λy c' e=>?_,I.free,I.freeC,λp hp=>?_,tracked ⟨oc,hoc,I.freeC x c hc⟩ hs,by simpa using I.len⟩ ⟨c,hs,.inr hc⟩
  ·exact (hs.2 b (Yav (Ybk (Yak e) (I.ok.cab x c hfn hc)))).trans (I.base.keep b o e n hb hx)
  ·obtain ⟨sl,e1⟩:=I.base.slot b o e n hb hx;exact ⟨sl,(hs.2 b (Yav (Ybk (Yak e) (I.ok.cab x c hfn hc)))).trans e1⟩
  ·obtain ⟨o',e1⟩:=I.base.there b o e hx;exact ⟨o',(hs.2 b (Yav (Ybk (Yak e) (I.ok.cab x c hfn hc)))).trans e1⟩
  ·by_cases hj:j=i
   ·subst hj;rw [hi] at e1;cases e1;rw [List.getElem?_set_self hiσ] at e2;cases e2;exact ⟨u,r,.inr ⟨.inl hk,c,hc,hc'⟩⟩
   ·rw [List.getElem?_set_ne (Ne.symm hj)] at e2;obtain ⟨u',r',q⟩:=hl j y v' e1 e2 e3;refine ⟨u',r',?_⟩;rcases q with q | ⟨k,c',e,z'⟩
    ·exact .inl q
    ·refine .inr ⟨k,c',e,z'.sameBut hs ?_⟩;rintro rfl;exact hj (XS hN e1 (I.ok.inj _ _ _ e hc▸hi))
  ·by_cases hcc:c'=c
   ·subst hcc;exact ⟨_,hc'⟩
   ·obtain ⟨w2,z2⟩:=I.cell y c' e;exact ⟨w2,z2.sameBut hs hcc⟩
  ·obtain ⟨e,n,ne,nf,d⟩:=I.pin p hp;refine ⟨(hs.2 p.1 ?_).trans e,n,ne,nf,d⟩;intro q;rw [q,hoc] at e;have q':oc=p.2:=Ybl e;exact d w' (by rw [<-q'];exact hocd)
theorem XT {M:Model}{A:Around}{E:EX}{i:Nat}{x:Str}{v:V}{u:Value}{Q:Unit->Shared->Prop}(I:Inv X qJ σ H s)(hN:X.N.Nodup)(hi:X.N[i]?=some x)(hx:Loc X.env.scope x)(r:RelV v u)(h:∀s',Inv X qJ (σ.set i (some v)) H s'->Q () s')(hf:X.fn x=true\/X.env.scope.names.lookup x=some .local:=by first | exact .inl rfl | exact .inr rfl | assumption):wpAny M A (storeName X.env x u) Q E s:=
 Wx I hN hi hx r (λs' I' _=>h s' I') hf
theorem Inv.call' {s':Shared}{ch:List Addr}(I:Inv X qJ σ H s)(ho:s'.os=s.os)(u:Un (frs X.stack) ch H H' s.heap s'.heap)(hok:HOk X.prog X.w H' s'.heap)(hg:AllBare s'.gens)(hch:∀b∈ch,(b∈X.ex\/X.s₀.heap.objs.size<=b)/\b≠X.env.locals/\(∀x c,X.env.cells.lookup x=some c->c≠b)/\∀p∈X.pn++qJ,p.1≠b):Inv X qJ σ H' s':=by
 obtain ⟨h',g',d',t',o'⟩:=s';have e:o'=s.os:=ho;subst e;exact I.call (g':=g') (t':=t') (d':=d') u hok hg hch
end
abbrev XK:=Value->Option Addr->Hp->Prop
abbrev St:=List (Option V)
abbrev VK:=V->Hp->Prop
abbrev TE:=St->Hp->VK->Prop
abbrev TT:=St->Hp->(Bool->Hp->Prop)->Prop
abbrev TA:=St->Hp->(List V->Hp->Prop)->Prop
structure Zy where
 nx:St->Hp->Prop
 rt:VK
 bk:St->Hp->Prop:=λ_ _=>False
 ct:St->Hp->Prop:=λ_ _=>False
abbrev TS:=Zy->St->Hp->Prop
def EP (X:Cx)(qJ:List (Addr×Obj))(σ:St)(Q:VK)(u:Value)(s':Shared):Prop:=∃v H',Inv X qJ σ H' s'/\RelV v u/\Q v H'
def TP (X:Cx)(qJ:List (Addr×Obj))(σ:St)(Q:Bool->Hp->Prop)(b:Bool)(s':Shared):Prop:=∃H',Inv X qJ σ H' s'/\Q b H'
def AP (X:Cx)(qJ:List (Addr×Obj))(σ:St)(Q:List V->Hp->Prop)(us:List Value)(s':Shared):Prop:=∃vs H',Inv X qJ σ H' s'/\Vals vs us/\Q vs H'
def SP (X:Cx)(qJ:List (Addr×Obj))(D:Zy)(f:Flow)(s':Shared):Prop:=
 match f with
 | .next=>∃ σ' H',Inv X qJ σ' H' s'/\D.nx σ' H'
 | .brk=>∃ σ' H',Inv X qJ σ' H' s'/\D.bk σ' H'
 | .cont=>∃ σ' H',Inv X qJ σ' H' s'/\D.ct σ' H'
 | .ret u=>∃v σ' H',Inv X qJ σ' H' s'/\RelV v u/\D.rt v H'
def PE (X:Cx)(e:Expr)(t:TE):Prop:=
 ∀(qJ:List (Addr×Obj))(s:Shared)(σ:St)(H:Hp)(Q:VK),Inv X qJ σ H s->t σ H Q->wpAny (model X.prog X.w) X.A (eval e X.env) (EP X qJ σ Q) X.xe s
def PT (X:Cx)(e:Expr)(t:TT):Prop:=
 ∀(qJ:List (Addr×Obj))(s:Shared)(σ:St)(H:Hp)(Q:Bool->Hp->Prop),Inv X qJ σ H s->t σ H Q->wpAny (model X.prog X.w) X.A (isTrue e X.env (eval e X.env)) (TP X qJ σ Q) X.xe s
def PW (X:Cx)(e:Expr)(t:TT):Prop:=
 ∀(whole:Sem Value)(qJ:List (Addr×Obj))(s:Shared)(σ:St)(H:Hp)(Q:Bool->Hp->Prop),Inv X qJ σ H s->t σ H Q->wpAny (model X.prog X.w) X.A (isTrue e X.env whole) (TP X qJ σ Q) X.xe s
theorem PW.pt {X:Cx}{e:Expr}{t:TT}(h:PW X e t):PT X e t:=h _
def PA (X:Cx)(es:List Expr)(t:TA):Prop:=
 ∀(pos:Pos)(qJ:List (Addr×Obj))(s:Shared)(σ:St)(H:Hp)(Q:List V->Hp->Prop),Inv X qJ σ H s->t σ H Q->wpAny (model X.prog X.w) X.A (spliced (backTo pos (starEach es X.env))) (AP X qJ σ Q) X.xe s
def PS (X:Cx)(st:Stmt)(t:TS):Prop:=
 ∀(qJ:List (Addr×Obj))(s:Shared)(σ:St)(H:Hp)(D:Zy),Inv X qJ σ H s->t D σ H->wpAny (model X.prog X.w) X.A (exec st X.env) (SP X qJ D) X.xe s
def PSs (X:Cx)(st:List Stmt)(t:TS):Prop:=
 ∀(qJ:List (Addr×Obj))(s:Shared)(σ:St)(H:Hp)(D:Zy),Inv X qJ σ H s->t D σ H->wpAny (model X.prog X.w) X.A (execs st X.env) (SP X qJ D) X.xe s
theorem thn {α:Type}{t:Sem α}{Q Q':α->Shared->Prop}{M:Model}{A:Around}{E:EX}{s:Shared}(h:wpAny M A t Q E s)(hQ:∀a s,Q a s->Q' a s):wpAny M A t Q' E s:=Ybr h hQ λ_ _ x=>x
section
variable {X:Cx}
def Zbu (i:Nat):TE:=λσ H Q=>∃v,σ[i]?=some (some v)/\Q v H
def tC (v:V):TE:=λ_ H Q=>Q v H
theorem Zej {i:Nat}{x:Str}{pos:Pos}(hN:X.N[i]?=some x)(hv:Vis X.env.scope x)(hd:(x == ("__debug__" : Str))=false:=by decide)(hcd:(x == ("__classdict__" : Str))=false:=by decide):PE X (.Name x pos) (Zbu i):=by
 intro qJ s σ H Q I h;obtain ⟨v,e,h⟩:=h;obtain ⟨m,hn,hl⟩:=I.loc;obtain ⟨u,r,l⟩:=hl i x v hN e hv;have fin:EP X qJ σ Q u s:=⟨v,H,I,r,h⟩;rcases l with ⟨hk,hm⟩ | ⟨hk,c,hc,jV⟩
 ·exact wpAny_Name (wpAny_loadName_local I.ok.kind hk hn hm fin) hd
 ·rcases hk with hk | hk
  ·exact wpAny_Name (wpAny_loadName_cell I.ok.kind hk hc jV fin) hd
  ·exact wpAny_Name (wpAny_loadName_free I.ok.kind hk hc jV fin hcd) hd
theorem Ge {i j pos}:PE X (.Constant (.int i) j pos) (tC (.int i)):=λ_ _ _ H _ I h=>wpAny_Constant_int ⟨.int i,H,I.tok _,⟨_,rfl⟩,h⟩
theorem ON {b j pos}:PE X (.Constant (.bool b) j pos) (tC (.bl b)):=λ_ _ _ H _ I h=>Constant_bool ⟨.bl b,H,I,rfl,h⟩
theorem Zek {j pos}:PE X (.Constant .none j pos) (tC .non):=λ_ _ _ H _ I h=>Constant_none ⟨.non,H,I,rfl,h⟩
theorem Zcx {x j pos}:PE X (.Constant (.str x) j pos) (tC (.str x)):=λ_ _ _ H _ I h=>Calls.Constant_str ⟨.str x,H,I.tok _,⟨_,rfl⟩,h⟩
def Gl (X:Cx)(x:Str):Prop:=X.env.kindOf x=some .globalImplicit
theorem VL {E:EX}{qJ:List (Addr×Obj)}{s:Shared}{σ:St}{H:Hp}{x:Str}{u:Value}{pos:Pos}{Q:EX}(I:Inv X qJ σ H s)(hg:Gl X x)(hm:X.mg x=some u)(h:Q u s)(hd:(x == ("__debug__" : Str))=false:=by decide):wpAny (model X.prog X.w) X.A (eval (.Name x pos) X.env) Q E s:=
 Calls.Name_function_global I.ok.kind hg (Calls.loadGlobal_global (by rw [I.ok.glob];exact I.mod.glob.keeps I.bk) hm h) hd
theorem UR {E:EX}{qJ:List (Addr×Obj)}{s:Shared}{σ:St}{H:Hp}{x:Str}{u:Value}{pos:Pos}{Q:EX}(I:Inv X qJ σ H s)(hg:Gl X x)(hm:X.mg x=none)(hv:bootBuiltins x=some u)(h:Q u s)(hn:x ≠ "__name__" := by decide)(hd:(x == ("__debug__" : Str))=false:=by decide):wpAny (model X.prog X.w) X.A (eval (.Name x pos) X.env) Q E s:=by
 obtain ⟨mb,h1,h2⟩:=I.mod.blt;exact Calls.Name_function_global I.ok.kind hg (Calls.loadGlobal_builtin (by rw [I.ok.glob];exact I.mod.glob.keeps I.bk) hm (by rw [I.ok.blt];exact h1.keeps I.bk) ((h2 x hn).trans hv) h) hd
theorem Xm {x:Str}{v:V}{u:Value}{pos:Pos}(hg:Gl X x)(hm:X.mg x=some u)(r:RelV v u)(hd:(x == ("__debug__" : Str))=false:=by decide):PE X (.Name x pos) (tC v):=
 λ_ _ _ H _ I h=>VL I hg hm ⟨v,H,I,r,h⟩ hd
theorem Zc4 {x:Str}{v:V}{u:Value}{pos:Pos}(hg:Gl X x)(hm:X.mg x=none)(hv:bootBuiltins x=some u)(r:RelV v u)(hn:x ≠ "__name__" := by decide)(hd:(x == ("__debug__" : Str))=false:=by decide):PE X (.Name x pos) (tC v):=
 λ_ _ _ H _ I h=>UR I hg hm hv ⟨v,H,I,r,h⟩ hn hd
variable {a b:Expr}{ta tb:TE}{pos:Pos}
def PC (X:Cx)(op:CmpOp)(a b:Expr)(t:TE):Prop:=
 ∀(qJ:List (Addr×Obj))(s:Shared)(σ:St)(H:Hp)(Q:VK),Inv X qJ σ H s->t σ H Q ->
  wpAny (model X.prog X.w) X.A (eval a X.env) (λv s₁=>wpAny (model X.prog X.w) X.A (eval b X.env) (λu s₂=>wpAny (model X.prog X.w) X.A (compareOp op v u) (EP X qJ σ Q) X.xe s₂) X.xe s₁) X.xe s
def tB (t:TE):TT:=λσ H Q=>t σ H λx H1=>∃c,x=.bl c/\Q c H1
theorem Wy {op:CmpOp}{t:TE}(h:PC X op a b t)(h1:behindInMarks op b=false:=by first | exact nobehind _ (by decide) (by decide) | rfl):PT X (.Compare a [op] [b] pos) (tB t):=by
 intro qJ s σ H Q I hw;refine wpAny_isTrue_Compare1 (thn (h qJ s σ H _ I hw) λv s1 h1=>thn h1 λu s2 h2=>thn h2 λc s3 ⟨x,H1,I1,r1,q1⟩=>?_) h1;obtain ⟨d,rfl,q⟩:=q1;cases r1;exact Ydv ⟨H1,I1,q⟩
theorem JI {e:Expr}{t:TE}(h:PE X e t)(he:∀whole,isTrue e X.env whole=(do let v <- whole;standAt e.pos;holding [v] (truthy v)):=by intro _;rfl):PT X e (tB t):=by
 intro qJ s σ H Q I hw;refine isTrue_plain (thn (h qJ s σ H _ I hw) λv s1 ⟨x,H1,I1,r1,q1⟩=>?_) (he _);obtain ⟨d,rfl,q⟩:=q1;cases r1;exact Ydv ⟨H1,I1,q⟩
variable {tA tB':TT}{rest:List Expr}
def ZhA (t u:TT):TT:=λσ H Q=>t σ H λc H1=>if c=true then u σ H1 Q else Q false H1
def tOr (t u:TT):TT:=λσ H Q=>t σ H λc H1=>if c=true then Q true H1 else u σ H1 Q
def ZhB (t:TT):TT:=λσ H Q=>t σ H λc H1=>Q (!c) H1
theorem Zz (ha:PT X a tA):PW X (.BoolOp .And [a] pos) tA:=by
 intro wh qJ s σ H Q I h;refine isTrue_and (thn (ha qJ s σ H Q I h) λc s1 e=>?_);cases c with
 | true=>exact isTrue_and_nil e
 | false=>exact e
theorem Ut (ha:PT X a tA):PW X (.BoolOp .Or [a] pos) tA:=by
 intro wh qJ s σ H Q I h;refine isTrue_or (thn (ha qJ s σ H Q I h) λc s1 e=>?_);cases c with
 | false=>exact isTrue_or_nil e
 | true=>exact e
theorem Zcy (ha:PT X a tA)(hb:PW X (.BoolOp .And (b::rest) pos) tB'):PW X (.BoolOp .And (a::b::rest) pos) (ZhA tA tB'):=by
 intro wh qJ s σ H Q I h;refine isTrue_and (thn (ha qJ s σ H _ I h) λc s1 ⟨H1,I1,q1⟩=>?_);cases c with
 | true=>exact hb wh qJ s1 σ H1 Q I1 q1
 | false=>exact ⟨H1,I1,q1⟩
theorem US (ha:PT X a tA)(hb:PW X (.BoolOp .Or (b::rest) pos) tB'):PW X (.BoolOp .Or (a::b::rest) pos) (tOr tA tB'):=by
 intro wh qJ s σ H Q I h;refine isTrue_or (thn (ha qJ s σ H _ I h) λc s1 ⟨H1,I1,q1⟩=>?_);cases c with
 | true=>exact ⟨H1,I1,q1⟩
 | false=>exact hb wh qJ s1 σ H1 Q I1 q1
theorem JZ (ha:PT X a tA):PT X (.UnaryOp .Not a pos) (ZhB tA):=by
 intro qJ s σ H Q I h;exact isTrue_not (ha qJ s σ H (λc H1=>Q (!c) H1) I h)
def Zgu (ta tb:TE):TE:=λσ H Q=>ta σ H λx H1=>∃c,x=.bl c/\if c=true then tb σ H1 Q else Q (.bl false) H1
def Zgv (ta:TE):TE:=λσ H Q=>ta σ H λx H1=>∃c,x=.bl c/\Q (.bl (!c)) H1
theorem Zel {op}{t:TE}(h:PE X a t):PE X (.BoolOp op [a] pos) t:=λqJ s σ H Q I hw=>BoolOp_one (h qJ s σ H Q I hw)
theorem Zem (ha:PE X a ta)(hb:PE X (.BoolOp .And (b::rest) pos) tb):PE X (.BoolOp .And (a::b::rest) pos) (Zgu ta tb):=by
 intro qJ s σ H Q I h;refine BoolOp_and (thn (ha qJ s σ H _ I h) λv s1 ⟨x,H1,I1,r1,q1⟩=>?_);obtain ⟨c,rfl,q1⟩:=q1;cases r1;refine Ydv ?_;cases c with
 | true=>exact hb qJ s1 σ H1 Q I1 q1
 | false=>exact ⟨.bl false,H1,I1,rfl,q1⟩
theorem Zen (ha:PE X a ta):PE X (.UnaryOp .Not a pos) (Zgv ta):=by
 intro qJ s σ H Q I h;refine UnaryOp_ (thn (ha qJ s σ H _ I h) λv s1 ⟨x,H1,I1,r1,q1⟩=>?_);obtain ⟨c,rfl,q1⟩:=q1;cases r1;exact not_of (Ydv ⟨.bl (!c),H1,I1,rfl,q1⟩)
end
def SqL (K:W.Frag)(H:Hp)(a:Addr)(xs:List V):Prop:=
 Rd H a (.lst xs) \/
  ∃(o:Obj)(its:Array Value)(n:Nat),K.lookup a=some o/\o.cls=.type "list" /\ o.dict=none/\o.data=.seq its n/\its.size<=sizeLine/\Vals xs its.toList
def SqT (K:W.Frag)(H:Hp)(a:Addr)(xs:List V):Prop:=
 Rd H a (.tup xs) \/
  ∃(o:Obj)(its:Array Value)(n:Nat),K.lookup a=some o/\o.cls=.type "tuple" /\ o.data=.seq its n/\its.size<=sizeLine/\Vals xs its.toList
def ZhC:Value->Option V
 | .none=>some .non
 | .bool b=>some (.bl b)
 | .int i _=>some (.int i)
 | .str x _=>some (.str x)
 | .bytes b _=>some (.byt b)
 | .float b _=>some (.flt b)
 | .ref a=>some (.ref a)
 | .type n=>some (.ty n)
 | _=>none
theorem RelV.abs {x:V}{u:Value}(r:RelV x u):ZhC u=some x:=by
 cases x with
 | non=>cases r;rfl
 | bl _=>cases r;rfl
 | int _=>obtain ⟨t,rfl⟩:=r;rfl
 | str _=>obtain ⟨t,rfl⟩:=r;rfl
 | byt _=>obtain ⟨t,rfl⟩:=r;rfl
 | flt _=>obtain ⟨t,rfl⟩:=r;rfl
 | ref _=>cases r;rfl
 | ty _=>cases r;rfl
theorem RelV.inj {x y:V}{u:Value}(r:RelV x u)(q:RelV y u):x=y:=Ybl (r.abs.symm.trans q.abs)
theorem Vals.inj:∀{xs ys:List V}{us:List Value},Vals xs us->Vals ys us->xs=ys
 | _,_,_,.nil,.nil=>rfl
 | _,_,_,.cons r t,.cons r' t'=>by rw [r.inj r',Vals.inj t t']
section
variable {X:Cx}{qJ:List (Addr×Obj)}{σ:St}{H:Hp}{s:Shared}{a:Addr}{xs ys:List V}
theorem SqL.of {K:W.Frag}(h:H a=some (.lst xs)):SqL K H a xs:=.inl (.inl h)
theorem SqT.of {K:W.Frag}(h:H a=some (.tup xs)):SqT K H a xs:=.inl (.inl h)
theorem Inv.list (I:Inv X qJ σ H s)(h:SqL X.K H a xs):∃its:List Value,Vals xs its/\PlainL s.heap a its.toArray/\xs.length<=sizeLine:=by
 rcases h with h | ⟨o,its,n,hk,hc,hd,hs,hz,r⟩
 ·obtain ⟨z,its,n,r,e⟩:=h.ok I.hok;exact ⟨its,r,⟨_,n,e,rfl,rfl,rfl⟩,z⟩
 ·refine ⟨its.toList,r,⟨o,n,I.kIn a o hk,hc,hd,by simpa using hs⟩,?_⟩;have e:=r.length;simp only [Yan] at e
  lia
theorem Inv.tuple (I:Inv X qJ σ H s)(h:SqT X.K H a xs):∃its:List Value,Vals xs its/\IsTup s.heap a its.toArray/\xs.length<=sizeLine:=by
 rcases h with h | ⟨o,its,n,hk,hc,hs,hz,r⟩
 ·obtain ⟨z,its,r,p⟩:=h.ok I.hok;exact ⟨its,r,p,z⟩
 ·refine ⟨its.toList,r,⟨o,I.kIn a o hk,hc,n,by simpa using hs⟩,?_⟩;have e:=r.length;simp only [Yan] at e
  lia
theorem Inv.list_inj (I:Inv X qJ σ H s)(h:SqL X.K H a xs)(h':SqL X.K H a ys):xs=ys:=by
 obtain ⟨its,r,⟨o,n,e,_,_,d⟩,_⟩:=I.list h;obtain ⟨its',r',⟨o',n',e',_,_,d'⟩,_⟩:=I.list h';rw [e] at e';cases e';rw [d] at d';injection d' with d1 _
 have:its=its':=by simpa using Ybc Array.toList d1
 subst this;exact r.inj r'
theorem Inv.tuple_inj (I:Inv X qJ σ H s)(h:SqT X.K H a xs)(h':SqT X.K H a ys):xs=ys:=by
 obtain ⟨its,r,⟨o,e,_,n,d⟩,_⟩:=I.tuple h;obtain ⟨its',r',⟨o',e',_,n',d'⟩,_⟩:=I.tuple h';rw [e] at e';cases e';rw [d] at d';injection d' with d1 _
 have:its=its':=by simpa using Ybc Array.toList d1
 subst this;exact r.inj r'
end
abbrev Cx.wish (X:Cx)(E:EX):Cx:={ X with xe:=E }
abbrev Cx.nox (X:Cx):Cx:=X.wish λ_ _=>False
theorem Cx.Ok.wish {X:Cx}(ok:X.Ok)(E:EX):(X.wish E).Ok:=
 ⟨ok.mod,ok.kind,ok.glob,ok.blt,ok.above,ok.inj,ok.has,ok.cab,ok.hd,ok.frames,ok.stk,ok.exf,ok.bs,ok.bsz,ok.noex,ok.exfs,ok.funs,ok.frf⟩
theorem Cx.Ok.unwish {X:Cx}{E:EX}(ok:(X.wish E).Ok):X.Ok:=
 ⟨ok.mod,ok.kind,ok.glob,ok.blt,ok.above,ok.inj,ok.has,ok.cab,ok.hd,ok.frames,ok.stk,ok.exf,ok.bs,ok.bsz,ok.noex,ok.exfs,ok.funs,ok.frf⟩
section
variable {X:Cx}{qJ:List (Addr×Obj)}{σ:St}{H:Hp}{s:Shared}{E:EX}
theorem Inv.wish (I:Inv X qJ σ H s)(E:EX):Inv (X.wish E) qJ σ H s:=⟨I.ok.wish E,I.os,I.bare,I.base,I.loc,I.cell,I.free,I.freeC,I.pin,I.hok,I.len⟩
theorem Inv.unwish (I:Inv (X.wish E) qJ σ H s):Inv X qJ σ H s:=⟨I.ok.unwish,I.os,I.bare,I.base,I.loc,I.cell,I.free,I.freeC,I.pin,I.hok,I.len⟩
theorem SP.unwish {D:Zy}{f:Flow}{s':Shared}(h:SP (X.wish E) qJ D f s'):SP X qJ D f s':=by
 cases f with
 | next=>obtain ⟨σ',H',I,q⟩:=h;exact ⟨σ',H',I.unwish,q⟩
 | brk=>obtain ⟨σ',H',I,q⟩:=h;exact ⟨σ',H',I.unwish,q⟩
 | cont=>obtain ⟨σ',H',I,q⟩:=h;exact ⟨σ',H',I.unwish,q⟩
 | ret u=>obtain ⟨v,σ',H',I,r,q⟩:=h;exact ⟨v,σ',H',I.unwish,r,q⟩
theorem PSs.nox {st:List Stmt}{t:TS}(h:PSs X.nox st t):PSs X st t:=λqJ s σ H D I hw=>
 Ybr (h qJ s σ H D (I.wish _) hw) (λ_ _ q=>q.unwish) λ_ _ z=>False.elim z
end
section
variable {X:Cx}{st:Stmt}{rest:List Stmt}{t u:TS}{e:Expr}{te:TE}{pos:Pos}
def UC:TS:=λD σ H=>D.nx σ H
def Zeo (t u:TS):TS:=λD σ H=>t { D with nx:=u D } σ H
theorem Gu:PSs X [] UC:=λ_ _ σ H _ I h=>wpAny_execs_nil ⟨σ,H,I,h⟩
theorem Gc (h1:PS X st t)(h2:PSs X rest u):PSs X (st::rest) (Zeo t u):=by
 intro qJ s σ H D I h;refine wpAny_execs_cons (thn (h1 qJ s σ H { D with nx:=u D } I h) λf s1 q=>?_);cases f with
 | next=>
  obtain ⟨σ',H',I',q⟩:=q;exact h2 qJ s1 σ' H' D I' q
 | ret v=>exact q
 | brk=>exact q
 | cont=>exact q
theorem Gg (h1:PS X st t):PSs X [st] t:=by
 intro qJ s σ H D I h;refine wpAny_execs_cons (thn (h1 qJ s σ H D I h) λf s1 q=>?_);cases f with
 | next=>exact wpAny_execs_nil q
 | ret v=>exact q
 | brk=>exact q
 | cont=>exact q
theorem Inv.quiet {qJ:List (Addr×Obj)}{σ:St}{H:Hp}{s:Shared}(I:Inv X qJ σ H s):interactive X.env=false:=by simp [interactive,I.ok.kind]
def Zgw (te:TE):TS:=λD σ H=>te σ H λ_ H1=>D.nx σ H1
theorem Jt (he:PE X e te)(hs:swapsWith e none pos.line X.env=pure false:=by rfl):PS X (.Expr e pos) (Zgw te):=by
 intro qJ s σ H D I h;exact wpAny_Expr_any (thn (he qJ s σ H _ I h) λv s1 ⟨x,H1,I1,r1,q1⟩=>⟨σ,H1,I1,q1⟩) I.quiet hs
def ZhD (te:TE):TS:=λD σ H=>te σ H D.rt
theorem Gr (he:PE X e te):PS X (.Return (some e) pos) (ZhD te):=by
 intro qJ s σ H D I h;exact wpAny_Return_some (thn (he qJ s σ H _ I h) λv s1 ⟨x,H1,I1,r1,q1⟩=>⟨x,σ,H1,I1,r1,q1⟩)
def Zhg (c:TT)(t u:TS):TS:=λD σ H=>c σ H λb H1=>if b=true then t D σ H1 else u D σ H1
theorem Jf {c:Expr}{a b:List Stmt}{tc:TT}(hc:PT X c tc)(ha:PSs X a t)(hb:PSs X b u):PS X (.If c a b pos) (Zhg tc t u):=by
 intro qJ s σ H D I h;refine wpAny_If (thn (hc qJ s σ H _ I h) λd s1 ⟨H1,I1,q1⟩=>?_);cases d with
 | true=>exact ha qJ s1 σ H1 D I1 q1
 | false=>exact hb qJ s1 σ H1 D I1 q1
end
abbrev TG:=V->St->Hp->(St->Hp->Prop)->Prop
abbrev TGs:=List V->St->Hp->(St->Hp->Prop)->Prop
def PG (X:Cx)(qY:Expr)(t:TG):Prop:=
 ∀(qJ:List (Addr×Obj))(s:Shared)(σ:St)(H:Hp)(v:V)(u:Value)(Q:St->Hp->Prop),Inv X qJ σ H s->RelV v u->t v σ H Q ->
  wpAny (model X.prog X.w) X.A (assign qY X.env u) (λ_ s'=>∃ σ' H',Inv X qJ σ' H' s'/\Q σ' H') X.xe s
def PGs (X:Cx)(ts:List Expr)(t:TGs):Prop:=
 ∀(qJ:List (Addr×Obj))(s:Shared)(σ:St)(H:Hp)(vs:List V)(us:List Value)(Q:St->Hp->Prop),Inv X qJ σ H s->Vals vs us->t vs σ H Q ->
  wpAny (model X.prog X.w) X.A (assignInOrder ((assignEach ts X.env).map (·.2)) us) (λ_ s'=>∃ σ' H',Inv X qJ σ' H' s'/\Q σ' H') X.xe s
section
variable {X:Cx}{pos:Pos}
def GX (i:Nat):TG:=λv σ H Q=>Q (σ.set i (some v)) H
theorem Gi {i:Nat}{x:Str}(hN:X.N.Nodup)(hi:X.N[i]?=some x)(hx:Loc X.env.scope x)(hf:X.fn x=true\/X.env.scope.names.lookup x=some .local:=by first | exact .inl rfl | exact .inr rfl | assumption):PG X (.Name x pos) (GX i):=by
 intro qJ s σ H v u Q I r h;exact wpAny_assign_Name (XT I hN hi hx r (λs' I'=>⟨_,H,I',h⟩) hf)
def ZhE:TGs:=λvs σ H Q=>vs=[]/\Q σ H
def Zgx (t:TG)(u:TGs):TGs:=λvs σ H Q=>∃v r,vs=v::r/\t v σ H λσ' H'=>u r σ' H' Q
theorem JX:PGs X [] ZhE:=by
 intro qJ s σ H vs us Q I r h;obtain ⟨e,h⟩:=h;subst e;cases r;exact assignInOrder_nil ⟨σ,H,I,h⟩
theorem Gq {e:Expr}{es:List Expr}{t:TG}{u:TGs}(h1:PG X e t)(h2:PGs X es u)(hs:(assignEach (e::es) X.env).map (·.2)=assign e X.env::(assignEach es X.env).map (·.2):=by rfl):PGs X (e::es) (Zgx t u):=by
 intro qJ s σ H vs us Q I r h;obtain ⟨v,vr,e1,h⟩:=h;subst e1;cases r with
 | cons r rr=>
  rw [hs];refine assignInOrder_cons (thn (h1 qJ s σ H _ _ _ I r h) λ_ s1 ⟨σ1,H1,I1,q1⟩=>?_);exact h2 qJ s1 σ1 H1 _ _ Q I1 rr q1
def Zhh (K:W.Frag)(n:Nat)(t:TGs):TG:=λv σ H Q=>∃a xs,v=.ref a/\SqT K H a xs/\xs.length=n/\t xs σ H Q
theorem Zep {es:List Expr}{k:Nat}{t:TGs}{n:Nat}(hc:X.calm=true)(h:PGs X es t)(hn:(assignEach es X.env).length=n:=by rfl)(hst:(assignEach es X.env).findIdx? (·.1)=none:=by rfl):PG X (.Tuple es k pos) (Zhh X.K n t):=by
 intro qJ s σ H v u Q I r hw;obtain ⟨a,xs,e1,hq,hl,hw⟩:=hw;subst e1;cases r;obtain ⟨its,rv,ht,hz⟩:=I.tuple hq;refine assign_Tuple_tuple (I.ok.hd hc) ht (by simp [hn,<-hl,rv.length]) hst λh' hx=>?_;have I1:Inv X qJ σ H { s with heap:=h' }:=I.kept (t':=s.toks) λb o e=>hx b o (Yav (Yak e)) e;exact h qJ _ σ H xs _ Q I1 (by simpa using rv) hw
def Zgy (te:TE)(g:TG):TS:=λD σ H=>te σ H λx H1=>g x σ H1 D.nx
theorem Vl {tg e:Expr}{te:TE}{g:TG}(he:PE X e te)(hg:PG X tg g)(hs:swapsWithSole [tg] e pos.line X.env=pure false:=by rfl)(hw:swappedStores [tg] e X.env=pure none:=by rfl)(h1:(assignEach [tg] X.env).map (·.2)=[assign tg X.env]:=by rfl):PS X (.Assign [tg] e pos) (Zgy te g):=by
 intro qJ s σ H D I h;refine wpAny_Assign_stores (thn (he qJ s σ H _ I h) λv s1 ⟨x,H1,I1,r1,q1⟩=>?_) hs hw;rw [h1];exact thn (hg qJ s1 σ H1 x v _ I1 r1 q1) λ_ s2 q=>q
theorem Gn {i:Nat}{x:Str}{e:Expr}{te:TE}{pos':Pos}(hN:X.N.Nodup)(hi:X.N[i]?=some x)(hx:Loc X.env.scope x)(he:PE X e te)(hs:swapsWith e (some (.Name x pos')) pos.line X.env=pure false:=by rfl)(hf:X.fn x=true\/X.env.scope.names.lookup x=some .local:=by first | exact .inl rfl | exact .inr rfl | assumption) :
  PS X (.Assign [.Name x pos'] e pos) (Zgy te (GX i)):=by
 intro qJ s σ H D I h;refine wpAny_Assign_Name (thn (he qJ s σ H _ I h) λv s1 ⟨y,H1,I1,r1,q1⟩=>?_) hs;exact XT I1 hN hi hx r1 (λs2 I2=>⟨_,H1,I2,q1⟩) hf
def Zeq (c:TT)(tb:TS):TS:=λD σ H=>∃W:Nat->St->Hp->Prop,(∃m,W m σ H)/\∀m σ H,W m σ H ->
 c σ H λb H1=>if b=true then ∃N:St->Hp->Prop,(∀ σ' H',N σ' H'->∃m',m'<m/\W m' σ' H')/\tb { D with nx:=N,ct:=N,bk:=D.nx } σ H1 else D.nx σ H1
theorem VM {c:Expr}{body:List Stmt}{tc:TT}{tb:TS}(hp:PassesOwn (model X.prog X.w) X.A X.env X.xe)(hc:PT X c tc)(hb:PSs X body tb):PS X (.While c body [] pos) (Zeq tc tb):=by
 intro qJ s σ H D I h;obtain ⟨W,⟨m0,w0⟩,turn⟩:=h;refine wpAny_While (codeAny_whileLoop (λn s'=>∃ σ' H',Inv X qJ σ' H' s'/\W n σ' H') ?_ m0 ⟨σ,H,I,w0⟩);rintro n s1 ⟨σ1,H1,I1,w1⟩;refine Yeu hp (thn (hc qJ s1 σ1 H1 _ I1 (turn n σ1 H1 w1)) λb s2 ⟨H2,I2,q2⟩=>?_);cases b with
 | true=>
  obtain ⟨N,hN,q2⟩:=q2;rw [if_pos rfl];refine Yeu hp (thn (hb qJ s2 σ1 H2 _ I2 q2) λf s3 q3=>?_);cases f with
  | next=>
   obtain ⟨σ3,H3,I3,n3⟩:=q3;obtain ⟨m',hm,w3⟩:=hN σ3 H3 n3;exact ⟨m',hm,σ3,H3,I3,w3⟩
  | cont=>
   obtain ⟨σ3,H3,I3,n3⟩:=q3;obtain ⟨m',hm,w3⟩:=hN σ3 H3 n3;exact ⟨m',hm,σ3,H3,I3,w3⟩
  | brk=>exact q3
  | ret v=>exact q3
 | false=>
  rw [if_neg Yam];exact wpAny_execs_nil ⟨σ1,H2,I2,q2⟩
end
structure It where
 go:Nat->Hp->Prop
 yld:Nat->Hp->V->Hp->Prop
 stop:Nat->Hp->Prop
def Zbo (X:Cx)(qJ:List (Addr×Obj))(H:Hp)(b:Addr):Prop:=
 H b=none/\b≠X.env.locals/\b ∉ X.fs/\(b∈X.ex\/X.s₀.heap.objs.size<=b)/\(∀x c,X.env.cells.lookup x=some c->c≠b)/\∀p∈X.pn++qJ,p.1≠b
theorem Inv.fpOk {X:Cx}{qJ:List (Addr×Obj)}{σ:St}{H H':Hp}{s:Shared}{b:Addr}(I:Inv X qJ σ H s)(hb:s.heap.objs.size<=b)(hn:H' b=none):Zbo X qJ H' b:=by
 refine ⟨hn,Ydm (Ybk I.lt hb),I.nofs hb,.inr (Ybo I.sz hb),λx c e z=>?_,λp hp z=>?_⟩
 ·obtain ⟨v,q⟩:=I.cell x c e;exact absurd (Ybk q.lt (by rw [z];exact hb)) (Yct _)
 ·exact absurd (Ybk (Yak (I.pin p hp).1) (by rw [z];exact hb)) (Yct _)
structure Zc5 (P:Program)(w:World)(K:W.Frag)(tg:Expr)(J:It)(fp:List Addr)(it:Addr)(tn:Nat->Heap->Prop):Prop where
 mem:it∈fp
 obj:∀i h,tn i h->∀b∈fp,∃o,h.get? b=some o/\∀v,o.data≠.cell v
 keep:∀i h h',tn i h->(∀b∈fp,∀o,h.get? b=some o->h'.get? b=some o)->tn i h'
 item:∀(X:Cx),X.prog=P->X.w=w->X.K=K->X.calm=true->∀(i:Nat)(qJ:List (Addr×Obj))(s:Shared)(σ:St)(H:Hp)(E:EX),Inv X qJ σ H s->(∀b∈fp,Zbo X qJ H b)->tn i s.heap->J.go i H ->
  wpAny (model P w) X.A (pyNext (.ref it)) (λr s1=>∃u,r=some u /\
   wpAny (model P w) X.A (letOwnedTupleGo tg (.ref it) u) (λ_ s2=>∃x H',Inv X qJ σ H' s2/\RelV x u/\J.yld i H x H'/\tn (i+1) s2.heap/\∀b∈fp,H' b=none) E s1) E s
 done:∀(X:Cx),X.prog=P->X.w=w->X.K=K->X.calm=true->∀(i:Nat)(qJ:List (Addr×Obj))(s:Shared)(σ:St)(H:Hp)(E:EX),Inv X qJ σ H s->(∀b∈fp,Zbo X qJ H b)->tn i s.heap->J.stop i H ->
  wpAny (model P w) X.A (pyNext (.ref it)) (λr s1=>r=none/\Inv X qJ σ H s1) E s
 self:∀(A:Around)(i:Nat)(s:Shared)(Q:EX)(E:EX),tn i s.heap->Q (.ref it) s->wpAny (model P w) A (pyIter (.ref it)) Q E s
abbrev TI:=St->Hp->(It->Hp->Prop)->Prop
def PIE (X:Cx)(qJ:List (Addr×Obj))(σ:St)(tg:Expr)(R:It->Hp->Prop)(itv:Value)(s2:Shared):Prop:=
 ∃(it:Addr)(fp:List Addr)(tn:Nat->Heap->Prop)(J:It)(H':Hp),itv=.ref it/\Inv X qJ σ H' s2/\Zc5 X.prog X.w X.K tg J fp it tn/\tn 0 s2.heap/\(∀b∈fp,Zbo X qJ H' b)/\R J H'
def PI (X:Cx)(tg iter:Expr)(wi:TI):Prop:=
 ∀(qJ:List (Addr×Obj))(s:Shared)(σ:St)(H:Hp)(R:It->Hp->Prop),Inv X qJ σ H s->wi σ H R ->
  wpAny (model X.prog X.w) X.A (eval iter X.env) (λv s1=>wpAny (model X.prog X.w) X.A (pyIter v) (PIE X qJ σ tg R) X.xe s1) X.xe s
theorem Zbv {M:Model}{A:Around}{E:EX}{s:Shared}{tg:Expr}{it:Addr}{u:Value}{o:Obj}{n:String}{vs:Array Value}{Q:Unit->Shared->Prop}(ho:s.heap.get? it=some o)(hc:o.cls=.type n)(hd:o.data=.fields vs)(hn:["enumerate", "zip", "dict_itemiterator", "dict_reverseitemiterator", "odict_iterator", "itertools.zip_longest", "itertools.pairwise"].contains n=false)(hQ:Q () s):wpAny M A (letOwnedTupleGo tg (.ref it) u) Q E s:=by
 unfold letOwnedTupleGo;cases tg <;> first
  | exact Yab hQ
  | (cases u <;> first
    | exact Yab hQ
    | (refine Yaa (wpAny_load ho ?_)
       rw [hc,hd];show wpAny M A (if (["enumerate", "zip", "dict_itemiterator", "dict_reverseitemiterator", "odict_iterator", "itertools.zip_longest", "itertools.pairwise"].contains n && vs[0]? == some (rawInt _))=true then _ else _) Q E s;rw [if_neg (by intro h;rw [hn,Bool.false_and] at h;cases h)];exact Yab hQ))
def Itl (K:W.Frag)(a:Addr):It:=
 ⟨λi H=>∃xs x,SqL K H a xs/\xs[i]?=some x,λi H x H'=>H'=H/\∀xs,SqL K H a xs->xs[i]?=some x,λi H=>∃xs,SqL K H a xs/\xs.length<=i⟩
def Itt (K:W.Frag)(a:Addr):It:=
 ⟨λi H=>∃xs x,SqT K H a xs/\xs[i]?=some x,λi H x H'=>H'=H/\∀xs,SqT K H a xs->xs[i]?=some x,λi H=>∃xs,SqT K H a xs/\xs.length<=i⟩
def Itr (lo:Int)(n:Nat):It:=⟨λi _=>i<n,λi H x H'=>H'=H/\x=.int (lo+i),λi _=>n<=i⟩
theorem ZA {P:Program}{w:World}{K:W.Frag}{tg:Expr}(a it:Addr):Zc5 P w K tg (Itl K a) [it] it (λi h=>h.IsListIter it a i) where
 mem:=by simp
 obj:=λi h st b hb=>by
  have e:b=it:=by simpa using hb
  subst e;obtain ⟨o,e,c,d⟩:=st;exact ⟨o,e,λv z=>by rw [d] at z;cases z⟩
 keep:=λi h h' st k=>st.at λo e=>k it (by simp) o e
 item:=by
  intro X hP hw hK hc i qJ s σ H E I hf st hg;subst hP hw hK;obtain ⟨xs,x,hq,hx⟩:=hg;obtain ⟨its,rv,p,hz⟩:=I.list hq;obtain ⟨u,hu,ru⟩:=rv.get hx;obtain ⟨f0,f1,f2,f3,f4,f5⟩:=hf it (by simp);refine wpAny_pyNext_list_item st p.isList (x:=u) (by simpa using hu) λh' st' sb=>?_;have I1:Inv X qJ σ H { s with heap:=h' }:=I.turned (t':=s.toks) (λb o hb e=>(sb.2 b hb).trans e) f0 f1 f3 f4 f5;obtain ⟨o,e,c,d⟩:=id st';exact ⟨u,rfl,Zbv (s:={ s with heap:=h' }) e c d (by decide) ⟨x,H,I1,ru,⟨rfl,λys hy=>by rw [I.list_inj hy hq];exact hx⟩,st',λb hb=>(hf b hb).1⟩⟩
 done:=by
  intro X hP hw hK hc i qJ s σ H E I hf st hg;subst hP hw hK;obtain ⟨xs,hq,hx⟩:=hg;obtain ⟨its,rv,p,hz⟩:=I.list hq;obtain ⟨f0,f1,f2,f3,f4,f5⟩:=hf it (by simp);have hl:=rv.length;exact wpAny_pyNext_list_end (I.ok.hd hc) st p.isList (by simp;lia) λh' eb=>⟨rfl,I.turned (t':=s.toks) (λb o hb e=>eb b o hb e) f0 f1 f3 f4 f5⟩
 self:=λ_ _ _ _ _ st h=>wpAny_pyIter_listiter st h
theorem YJ {P:Program}{w:World}{K:W.Frag}{tg:Expr}(a it:Addr):Zc5 P w K tg (Itt K a) [it] it (λi h=>h.IsTupleIter it a i) where
 mem:=by simp
 obj:=λi h st b hb=>by
  have e:b=it:=by simpa using hb
  subst e;obtain ⟨o,e,c,d⟩:=st;exact ⟨o,e,λv z=>by rw [d] at z;cases z⟩
 keep:=λi h h' st k=>st.at λo e=>k it (by simp) o e
 item:=by
  intro X hP hw hK hc i qJ s σ H E I hf st hg;subst hP hw hK;obtain ⟨xs,x,hq,hx⟩:=hg;obtain ⟨its,rv,p,hz⟩:=I.tuple hq;obtain ⟨u,hu,ru⟩:=rv.get hx;obtain ⟨f0,f1,f2,f3,f4,f5⟩:=hf it (by simp);refine wpAny_pyNext_tuple_item st (show s.heap.IsTuple a its.toArray from p) (x:=u) (by simpa using hu) λh' st' sb=>?_;have I1:Inv X qJ σ H { s with heap:=h' }:=I.turned (t':=s.toks) (λb o hb e=>(sb.2 b hb).trans e) f0 f1 f3 f4 f5;obtain ⟨o,e,c,d⟩:=id st';exact ⟨u,rfl,Zbv (s:={ s with heap:=h' }) e c d (by decide) ⟨x,H,I1,ru,⟨rfl,λys hy=>by rw [I.tuple_inj hy hq];exact hx⟩,st',λb hb=>(hf b hb).1⟩⟩
 done:=by
  intro X hP hw hK hc i qJ s σ H E I hf st hg;subst hP hw hK;obtain ⟨xs,hq,hx⟩:=hg;obtain ⟨its,rv,p,hz⟩:=I.tuple hq;obtain ⟨f0,f1,f2,f3,f4,f5⟩:=hf it (by simp);have hl:=rv.length;exact wpAny_pyNext_tuple_end (I.ok.hd hc) st (show s.heap.IsTuple a its.toArray from p) (by simp;lia) λh' eb=>⟨rfl,I.turned (t':=s.toks) (λb o hb e=>eb b o hb e) f0 f1 f3 f4 f5⟩
 self:=λ_ _ _ _ _ st h=>wpAny_pyIter_tupleiter st h
theorem YK {P:Program}{w:World}{K:PySem.W.Frag}{tg:Expr}(it:Addr)(lo:Int)(n:Nat):Zc5 P w K tg (Itr lo n) [it] it (λi h=>IsRangeIter h it (lo+(i:Nat) * 1) ((n:Int)-(i:Nat)) 1) where
 mem:=by simp
 obj:=λi h st b hb=>by
  have e:b=it:=by simpa using hb
  subst e;exact ⟨_,st,λv z=>by
   have z':Data.fields _=Data.cell v:=z;cases z'⟩
 keep:=λi h h' st k=>k it (by simp) _ st
 item:=by
  intro X hP hw hK hc i qJ s σ H E I hf st hg;subst hP hw hK;obtain ⟨f0,f1,f2,f3,f4,f5⟩:=hf it (by simp);have W:=Walks.range (prog:=X.prog) (w:=X.w) (I.ok.hd hc) it lo 1 n;refine W.item i s _ _ hg st λv h' tk hv st' kk=>?_;obtain ⟨t,rfl⟩:=hv;have I1:Inv X qJ σ H { s with heap:=h',toks:=tk }:=I.turned (λb o hb e=>kk b o (by simpa using hb) e) f0 f1 f3 f4 f5;refine ⟨_,rfl,Zbv (s:={ s with heap:=h',toks:=tk }) (n := "range_iterator") st' rfl rfl (by decide) ⟨.int (lo+i),H,I1,⟨t,?_⟩,⟨rfl,rfl⟩,st',λb hb=>(hf b hb).1⟩⟩;rw [Int.mul_one]
 done:=by
  intro X hP hw hK hc i qJ s σ H E I hf st hg;subst hP hw hK;obtain ⟨f0,f1,f2,f3,f4,f5⟩:=hf it (by simp);exact wpAny_pyNext_range_end (I.ok.hd hc) st (by have:n<=i:=hg;lia) λh' eb=>⟨rfl,I.turned (t':=s.toks) (λb o hb e=>eb b o hb e) f0 f1 f3 f4 f5⟩
 self:=λ_ _ _ _ _ st h=>wpAny_pyIter_rangeiter st h
section
variable {X:Cx}{tg:Expr}
def Zer (K:W.Frag)(tl:TE):TI:=λσ H R=>tl σ H λx H1=>∃a,x=.ref a/\(∃xs,SqL K H1 a xs)/\R (Itl K a) H1
def Zhi (K:W.Frag)(tl:TE):TI:=λσ H R=>tl σ H λx H1=>∃a,x=.ref a/\(∃xs,SqT K H1 a xs)/\R (Itt K a) H1
theorem Zc6 {l:Expr}{tl:TE}(hl:PE X l tl):PI X tg l (Zer X.K tl):=by
 intro qJ s σ H R I h;refine thn (hl qJ s σ H _ I h) λv s1 ⟨x,H1,I1,r1,q1⟩=>?_;obtain ⟨a,e,⟨xs,hq⟩,q⟩:=q1;subst e;cases r1;obtain ⟨its,rv,p,hz⟩:=I1.list hq;refine wpAny_pyIter_list p.isList ?_;refine ⟨s1.heap.objs.size,[s1.heap.objs.size],_,_,H1,rfl,I1.kept (t':=s1.toks) λb o e=>Yal _ e,ZA a _,⟨_,Ybh _ rfl,rfl,rfl⟩,λb hb=>?_,q⟩;have e:b=s1.heap.objs.size:=by simpa using hb
 subst e;exact I1.fpOk (Yad _) (I1.hok.fresh (Yad _))
theorem Zes {l:Expr}{tl:TE}(hl:PE X l tl):PI X tg l (Zhi X.K tl):=by
 intro qJ s σ H R I h;refine thn (hl qJ s σ H _ I h) λv s1 ⟨x,H1,I1,r1,q1⟩=>?_;obtain ⟨a,e,⟨xs,hq⟩,q⟩:=q1;subst e;cases r1;obtain ⟨its,rv,p,hz⟩:=I1.tuple hq;refine wpAny_pyIter_tuple (show s1.heap.IsTuple a its.toArray from p) ?_;refine ⟨s1.heap.objs.size,[s1.heap.objs.size],_,_,H1,rfl,I1.kept (t':=s1.toks) λb o e=>Yal _ e,YJ a _,⟨_,Ybh _ rfl,rfl,rfl⟩,λb hb=>?_,q⟩;have e:b=s1.heap.objs.size:=by simpa using hb
 subst e;exact I1.fpOk (Yad _) (I1.hok.fresh (Yad _))
theorem Zbw {qJ:List (Addr×Obj)}{σ:St}{H:Hp}{s:Shared}{R:It->Hp->Prop}{E:EX}{lo hi:Int}{t u v:Tok}{tk:Nat}(I:Inv X qJ σ H s)(h1:-(2 ^ 62)<=lo)(h2:lo<2 ^ 62)(h3:-(2 ^ 62)<=hi)(h4:hi<2 ^ 62)(q:R (Itr lo (hi-lo).toNat) H):wpAny (model X.prog X.w) X.A (pyIter (.ref s.heap.objs.size)) (PIE X qJ σ tg R) E { s with heap:=s.heap.push { cls:=.type "range", data:=.fields #[.int lo t,.int hi u,.int 1 v] },toks:=tk }:=by
 refine wpAny_pyIter_range (IsRange.new ..) (small_one h1 h2 h3 h4) ?_;have I1:Inv X qJ σ H { s with heap:=s.heap.push { cls:=.type "range", data:=.fields #[.int lo t,.int hi u,.int 1 v] },toks:=tk }:=I.kept λb o e=>Yal _ e;refine ⟨(s.heap.push { cls:=.type "range", data:=.fields #[.int lo t,.int hi u,.int 1 v] }).objs.size,[(s.heap.push { cls:=.type "range", data:=.fields #[.int lo t,.int hi u,.int 1 v] }).objs.size],_,_,H,rfl,
  I1.kept (t':=tk) λb o e=>Yal _ e,YK _ lo (hi-lo).toNat,?_,λb hb=>?_,q⟩
 ·have e1:lo+((0:Nat):Int) * 1=lo:=by simp
  have e2:(((hi-lo).toNat:Nat):Int)-((0:Nat):Int)=Builtin.Range.rangeSize lo hi 1:=by rw [rangeSize_one];split <;> lia
  show IsRangeIter _ _ (lo+((0:Nat):Int) * 1) ((((hi-lo).toNat:Nat):Int)-((0:Nat):Int)) 1;rw [e1,e2];exact Ybh _ rfl
 ·have e:b=(s.heap.push { cls:=.type "range", data:=.fields #[.int lo t,.int hi u,.int 1 v] }).objs.size:=by simpa using hb
  subst e;exact I1.fpOk (Yad _) (I1.hok.fresh (Yad _))
def Zgz (ta:TA):TI:=λσ H R=>ta σ H λvs H1=>∃j:Int,vs=[.int j]/\-(2 ^ 62)<=j/\j<2 ^ 62/\R (Itr 0 j.toNat) H1
theorem UT {a:Expr}{ta:TA}{p pos:Pos}(hg:Gl X "range")(hm:X.mg "range" = none)(ha:PA X [a] ta)(hs:starEach [a] X.env=[(false,eval a X.env)]:=by rfl):PI X tg (.Call (.Name "range" p) [a] [] pos) (Zgz ta):=by
 intro qJ s σ H R I h;refine Call_ (UR I hg hm boot_range (Ygf (thn (ha pos qJ s σ H _ I h) λus s1 ⟨vs,H1,I1,r1,q1⟩=>?_) hs rfl));obtain ⟨j,e,q1,q2,q⟩:=q1;subst e;cases r1 with
 | cons r rr=>
  cases rr;obtain ⟨t,rfl⟩:=r;exact call_range_1 (Zbw I1 (by lia) (by lia) q1 q2 (by simpa using q))
def ZhF (wi:TI)(g:TG)(tb:TS):TS:=λD σ H=>wi σ H λJ H1=>∃W:Nat->Nat->St->Hp->Prop,(∃m,W 0 m σ H1)/\∀i m σ H,W i m σ H ->
 (J.stop i H/\D.nx σ H)\/(J.go i H/\∃N:St->Hp->Prop,(∀ σ' H',N σ' H'->∃m',m'<m/\W (i+1) m' σ' H')/\∀x H',J.yld i H x H'->g x σ H' λσ2 H2=>tb { D with nx:=N,ct:=N,bk:=D.nx } σ2 H2)
def Wz (fp:List Addr)(h:Heap):List (Addr×Obj):=fp.filterMap λb=>(h.get? b).map λo=>(b,o)
theorem Oq {fp:List Addr}{h:Heap}{b:Addr}{o:Obj}(hb:b∈fp)(e:h.get? b=some o):(b,o)∈Wz fp h:=Yde.mpr ⟨b,hb,by rw [e];rfl⟩
theorem ZB {fp:List Addr}{h:Heap}{p:Addr×Obj}(hp:p∈Wz fp h):p.1∈fp/\h.get? p.1=some p.2:=by
 obtain ⟨b,hb,e⟩:=Yde.mp hp;cases q:h.get? b with
 | none=>rw [q] at e;cases e
 | some o=>
  rw [q] at e;have e':(b,o)=p:=Ybl e;subst e';exact ⟨hb,q⟩
theorem Inv.pinned {qJ:List (Addr×Obj)}{σ:St}{H:Hp}{s:Shared}{fp:List Addr}(I:Inv X qJ σ H s)(hf:∀b∈fp,Zbo X qJ H b)(ho:∀b∈fp,∃o,s.heap.get? b=some o/\∀v,o.data≠.cell v):Inv X (qJ++Wz fp s.heap) σ H s:=
 I.pins_of λp hp=>(Yag.mp hp).elim (λz=>I.pin p (Ycb _ z)) λz=>by
  obtain ⟨hb,e⟩:=ZB z;obtain ⟨f0,f1,f2,_⟩:=hf p.1 hb;obtain ⟨o,e',d⟩:=ho p.1 hb;rw [e] at e';cases e';exact ⟨e,f0,f1,f2,d⟩
theorem Inv.unpinned {qJ pl:List (Addr×Obj)}{σ:St}{H:Hp}{s:Shared}(I:Inv X (qJ++pl) σ H s):Inv X qJ σ H s:=I.pins_of λp hp=>I.pin p (Ycb _ (Ydd _ hp))
theorem JJ {iter:Expr}{body:List Stmt}{wi:TI}{g:TG}{tb:TS}{pos:Pos}(hp:PassesOwn (model X.prog X.w) X.A X.env X.xe)(hc:X.calm=true)(hi:PI X tg iter wi)(hg:PG X tg g)(hb:PSs X body tb)(hs:∀x,foldedSetIterable iter X.env x=pure x:=by intro _;rfl):PS X (.For tg iter body [] pos) (ZhF wi g tb):=by
 intro qJ s σ H D I h;refine wpAny_For (thn (hi qJ s σ H _ I h) λv s1 h1=>thn h1 λitv s2 h2=>?_) hs;obtain ⟨it,fp,tn,J,H2,e,I2,T,st2,f2,W,⟨m0,w0⟩,turn⟩:=h2;subst e;have stat:∀{H':Hp},(∀b∈fp,H' b=none)->∀b∈fp,Zbo X qJ H' b:=λhn b hb=>⟨hn b hb,(f2 b hb).2⟩;refine codeAny_forLoop_any (λn s'=>∃i σ' H',Inv X qJ σ' H' s'/\tn i s'.heap/\(∀b∈fp,H' b=none)/\W i n σ' H') ?_ m0 ⟨0,σ,H2,I2,st2,λb hb=>(f2 b hb).1,w0⟩;rintro n s3 ⟨i,σ3,H3,I3,st3,fr3,w3⟩;rcases turn i n σ3 H3 w3 with ⟨stop,qn⟩ | ⟨go,N,hN,step⟩
 ·refine Yeu hp (thn (T.done X rfl rfl rfl hc i qJ s3 σ3 H3 X.xe I3 (stat fr3) st3 stop) λr s4 ⟨hr,I4⟩=>?_);subst hr;exact wpAny_execs_nil ⟨σ3,H3,I4,qn⟩
 ·refine Yeu hp (thn (T.item X rfl rfl rfl hc i qJ s3 σ3 H3 X.xe I3 (stat fr3) st3 go) λr s4 ⟨u,hr,h4⟩=>?_);subst hr;refine Yeu hp (thn h4 λ_ s5 ⟨x,H5,I5,r5,y5,st5,fr5⟩=>?_);have I5':=I5.pinned (stat fr5) (T.obj _ _ st5);refine Yeu hp (thn (hg _ s5 σ3 H5 x u _ I5' r5 (step x H5 y5)) λ_ s6 ⟨σ6,H6,I6,q6⟩=>?_);refine Yeu hp (thn (hb _ s6 σ6 H6 _ I6 q6) λf s7 q7=>?_);have again:∀{σ7:St}{H7:Hp},Inv X (qJ++Wz fp s5.heap) σ7 H7 s7->N σ7 H7->∃m,m<n/\∃i σ' H',Inv X qJ σ' H' s7/\tn i s7.heap/\(∀b∈fp,H' b=none)/\W i m σ' H':=λ{σ7 H7} I7 n7=>by
   obtain ⟨m',hm,w7⟩:=hN σ7 H7 n7;refine ⟨m',hm,i+1,σ7,H7,I7.unpinned,T.keep _ _ _ st5 λb hb o e=>(I7.pin (b,o) (Ycb _ (Ycb _ (Oq hb e)))).1,λb hb=>?_,w7⟩;obtain ⟨o,e,d⟩:=T.obj _ _ st5 b hb;exact (I7.pin (b,o) (Ycb _ (Ycb _ (Oq hb e)))).2.1
  cases f with
  | next=>obtain ⟨σ7,H7,I7,n7⟩:=q7;exact again I7 n7
  | cont=>obtain ⟨σ7,H7,I7,n7⟩:=q7;exact again I7 n7
  | brk=>obtain ⟨σ7,H7,I7,q7⟩:=q7;exact ⟨σ7,H7,I7.unpinned,q7⟩
  | ret v=>obtain ⟨x7,σ7,H7,I7,r7,q7⟩:=q7;exact ⟨x7,σ7,H7,I7.unpinned,r7,q7⟩
end
theorem Ji {K:PySem.W.Frag}{a:Addr}{xs:List V}{g:TG}{tb:TS}{D:Zy}{σ:St}{H:Hp}(Pv:Nat->St->Hp->Prop)(h0:Pv 0 σ H)(hl:∀i σ H,i<=xs.length->Pv i σ H->SqL K H a xs)(hs:∀i x σ H,xs[i]?=some x->Pv i σ H->g x σ H λσ2 H2=>tb { D with nx:=Pv (i+1),ct:=Pv (i+1),bk:=D.nx } σ2 H2)(hd:∀ σ H,Pv xs.length σ H->D.nx σ H) :
  ∃W:Nat->Nat->St->Hp->Prop,(∃m,W 0 m σ H)/\∀i m σ H,W i m σ H ->
   ((Itl K a).stop i H/\D.nx σ H)\/((Itl K a).go i H/\∃N:St->Hp->Prop,(∀ σ' H',N σ' H'->∃m',m'<m/\W (i+1) m' σ' H')/\∀x H',(Itl K a).yld i H x H'->g x σ H' λσ2 H2=>tb { D with nx:=N,ct:=N,bk:=D.nx } σ2 H2):=by
 refine ⟨λi m σ H=>m=xs.length-i/\i<=xs.length/\Pv i σ H,⟨xs.length,by simp,Yar _,h0⟩,?_⟩;rintro i m σ H ⟨rfl,hi,p⟩;have q:=hl i σ H hi p;by_cases hlt:i<xs.length
 ·refine .inr ⟨⟨xs,xs[i],q,by simp [hlt]⟩,Pv (i+1),λσ' H' p'=>⟨xs.length-(i+1),by lia,rfl,hlt,p'⟩,λx H' y=>?_⟩;obtain ⟨e,y⟩:=y;subst e;exact hs i x σ _ (y xs q) p
 ·have e:i=xs.length:=by lia
  subst e;exact .inl ⟨⟨xs,q,Yad _⟩,hd σ H p⟩
theorem Zc7 {K:PySem.W.Frag}{a:Addr}{xs:List V}{g:TG}{tb:TS}{D:Zy}{σ:St}{H:Hp}(Pv:Nat->St->Hp->Prop)(h0:Pv 0 σ H)(hl:∀i σ H,i<=xs.length->Pv i σ H->SqT K H a xs)(hs:∀i x σ H,xs[i]?=some x->Pv i σ H->g x σ H λσ2 H2=>tb { D with nx:=Pv (i+1),ct:=Pv (i+1),bk:=D.nx } σ2 H2)(hd:∀ σ H,Pv xs.length σ H->D.nx σ H) :
  ∃W:Nat->Nat->St->Hp->Prop,(∃m,W 0 m σ H)/\∀i m σ H,W i m σ H ->
   ((Itt K a).stop i H/\D.nx σ H)\/((Itt K a).go i H/\∃N:St->Hp->Prop,(∀ σ' H',N σ' H'->∃m',m'<m/\W (i+1) m' σ' H')/\∀x H',(Itt K a).yld i H x H'->g x σ H' λσ2 H2=>tb { D with nx:=N,ct:=N,bk:=D.nx } σ2 H2):=by
 refine ⟨λi m σ H=>m=xs.length-i/\i<=xs.length/\Pv i σ H,⟨xs.length,by simp,Yar _,h0⟩,?_⟩;rintro i m σ H ⟨rfl,hi,p⟩;have q:=hl i σ H hi p;by_cases hlt:i<xs.length
 ·refine .inr ⟨⟨xs,xs[i],q,by simp [hlt]⟩,Pv (i+1),λσ' H' p'=>⟨xs.length-(i+1),by lia,rfl,hlt,p'⟩,λx H' y=>?_⟩;obtain ⟨e,y⟩:=y;subst e;exact hs i x σ _ (y xs q) p
 ·have e:i=xs.length:=by lia
  subst e;exact .inl ⟨⟨xs,q,Yad _⟩,hd σ H p⟩
theorem ZC {lo:Int}{n:Nat}{g:TG}{tb:TS}{D:Zy}{σ:St}{H:Hp}(Pv:Nat->St->Hp->Prop)(h0:Pv 0 σ H)(hs:∀i σ H,i<n->Pv i σ H->g (.int (lo+i)) σ H λσ2 H2=>tb { D with nx:=Pv (i+1),ct:=Pv (i+1),bk:=D.nx } σ2 H2)(hd:∀ σ H,Pv n σ H->D.nx σ H) :
  ∃W:Nat->Nat->St->Hp->Prop,(∃m,W 0 m σ H)/\∀i m σ H,W i m σ H ->
   ((Itr lo n).stop i H/\D.nx σ H)\/((Itr lo n).go i H/\∃N:St->Hp->Prop,(∀ σ' H',N σ' H'->∃m',m'<m/\W (i+1) m' σ' H')/\∀x H',(Itr lo n).yld i H x H'->g x σ H' λσ2 H2=>tb { D with nx:=N,ct:=N,bk:=D.nx } σ2 H2):=by
 refine ⟨λi m σ H=>m=n-i/\i<=n/\Pv i σ H,⟨n,by simp,Yar _,h0⟩,?_⟩;rintro i m σ H ⟨rfl,hi,p⟩;by_cases hlt:i<n
 ·refine .inr ⟨hlt,Pv (i+1),λσ' H' p'=>⟨n-(i+1),by lia,rfl,hlt,p'⟩,λx H' y=>?_⟩;obtain ⟨e,y⟩:=y;subst e y;exact hs i σ _ hlt p
 ·have e:i=n:=by lia
  subst e;exact .inl ⟨Yad _,hd σ H p⟩
abbrev R2:=V->V->Hp->VK->Prop
def OpR (X:Cx)(f:Value->Value->Sem Value)(r:R2):Prop:=
 ∀(qJ:List (Addr×Obj))(s:Shared)(σ:St)(H:Hp)(x y:V)(v u:Value)(Q:VK),Inv X qJ σ H s->RelV x v->RelV y u->r x y H Q ->
  wpAny (model X.prog X.w) X.A (f v u) (EP X qJ σ Q) X.xe s
def UnR (X:Cx)(f:Value->Sem Value)(r:V->Hp->VK->Prop):Prop:=
 ∀(qJ:List (Addr×Obj))(s:Shared)(σ:St)(H:Hp)(x:V)(v:Value)(Q:VK),Inv X qJ σ H s->RelV x v->r x H Q ->
  wpAny (model X.prog X.w) X.A (f v) (EP X qJ σ Q) X.xe s
def Od (X:Cx)(f:Value)(r:List V->Hp->VK->Prop):Prop:=
 ∀(qJ:List (Addr×Obj))(s:Shared)(σ:St)(H:Hp)(xs:List V)(us:List Value)(Q:VK),Inv X qJ σ H s->Vals xs us->r xs H Q ->
  wpAny (model X.prog X.w) X.A (call f us) (EP X qJ σ Q) X.xe s
def ZhG (X:Cx)(r:V->Hp->(Bool->Hp->Prop)->Prop):Prop:=
 ∀(qJ:List (Addr×Obj))(s:Shared)(σ:St)(H:Hp)(x:V)(v:Value)(Q:Bool->Hp->Prop),Inv X qJ σ H s->RelV x v->r x H Q ->
  wpAny (model X.prog X.w) X.A (truthy v) (TP X qJ σ Q) X.xe s
def tOp (r:R2)(ta tb:TE):TE:=λσ H Q=>ta σ H λx H1=>tb σ H1 λy H2=>r x y H2 Q
def tUn (r:V->Hp->VK->Prop)(ta:TE):TE:=λσ H Q=>ta σ H λx H1=>r x H1 Q
def rI (C:Int->Int->Prop)(g:Int->Int->V):R2:=λx y H Q=>∃i j,x=.int i/\y=.int j/\C i j/\Q (g i j) H
def rI0 (g:Int->Int->V):R2:=λx y H Q=>∃i j,x=.int i/\y=.int j/\Q (g i j) H
def rU (g:Int->V):V->Hp->VK->Prop:=λx H Q=>∃i,x=.int i/\Q (g i) H
section
variable {X:Cx}{a b c:Expr}{ta tb tc:TE}{pos:Pos}
theorem ZgA (ha:PE X a ta)(hb:PE X b tb){qJ:List (Addr×Obj)}{s:Shared}{σ:St}{H:Hp}{R:V->V->Hp->Prop}(I:Inv X qJ σ H s)(h:ta σ H λx H1=>tb σ H1 λy H2=>R x y H2){Q:EX}{f:Value->Value->Sem Value}(hf:∀v u s2 x y H2,Inv X qJ σ H2 s2->RelV x v->RelV y u->R x y H2->wpAny (model X.prog X.w) X.A (f v u) Q X.xe s2) :
  wpAny (model X.prog X.w) X.A (eval a X.env) (λv s₁=>wpAny (model X.prog X.w) X.A (eval b X.env) (λu s₂=>wpAny (model X.prog X.w) X.A (f v u) Q X.xe s₂) X.xe s₁) X.xe s:=by
 refine thn (ha qJ s σ H _ I h) λv s1 ⟨x,H1,I1,r1,q1⟩=>?_;refine thn (hb qJ s1 σ H1 _ I1 q1) λu s2 ⟨y,H2,I2,r2,q2⟩=>?_;exact hf v u s2 x y H2 I2 r1 r2 q2
theorem Gs {op:Operator}{r:R2}(ho:OpR X (binaryOp op) r)(ha:PE X a ta)(hb:PE X b tb):PE X (.BinOp a op b pos) (tOp r ta tb):=by
 intro qJ s σ H Q I h;exact wpAny_BinOp (ZgA ha hb I h λv u s2 x y H2 I2 rx ry q=>ho qJ s2 σ H2 x y v u Q I2 rx ry q)
theorem Zet {op:UnaryOp}{r:V->Hp->VK->Prop}(ho:UnR X (unaryOp op) r)(ha:PE X a ta):PE X (.UnaryOp op a pos) (tUn r ta):=by
 intro qJ s σ H Q I h;exact UnaryOp_ (thn (ha qJ s σ H _ I h) λv s1 ⟨x,H1,I1,r1,q1⟩=>ho qJ s1 σ H1 x v Q I1 r1 q1)
theorem opI {f:Value->Value->Sem Value}{C:Int->Int->Prop}{g:Int->Int->Int}(rule:∀(i j:Int)(t u:Tok)(s:Shared)(Q:EX)(E:EX),C i j->Q (.int (g i j) s.toks) { s with toks:=s.toks+1 }->wpAny (model X.prog X.w) X.A (f (.int i t) (.int j u)) Q E s) :
  OpR X f (rI C λi j=>.int (g i j)):=by
 intro qJ s σ H x y v u Q I rx ry h;obtain ⟨i,j,rfl,rfl,hc,q⟩:=h;obtain ⟨t,rfl⟩:=rx;obtain ⟨t',rfl⟩:=ry;exact rule i j t t' s _ _ hc ⟨.int (g i j),H,I.tok _,⟨_,rfl⟩,q⟩
theorem Zhj {f:Value->Value->Sem Value}{g:Int->Int->Int}(rule:∀(i j:Int)(t u:Tok)(s:Shared)(Q:EX)(E:EX),Q (.int (g i j) s.toks) { s with toks:=s.toks+1 }->wpAny (model X.prog X.w) X.A (f (.int i t) (.int j u)) Q E s) :
  OpR X f (rI0 λi j=>.int (g i j)):=by
 intro qJ s σ H x y v u Q I rx ry h;obtain ⟨i,j,rfl,rfl,q⟩:=h;obtain ⟨t,rfl⟩:=rx;obtain ⟨t',rfl⟩:=ry;exact rule i j t t' s _ _ ⟨.int (g i j),H,I.tok _,⟨_,rfl⟩,q⟩
theorem Zf7 {f:Value->Value->Sem Value}{g:Int->Int->Bool}(rule:∀(i j:Int)(t u:Tok)(s:Shared)(Q:EX)(E:EX),Q (.bool (g i j)) s->wpAny (model X.prog X.w) X.A (f (.int i t) (.int j u)) Q E s) :
  OpR X f (rI0 λi j=>.bl (g i j)):=by
 intro qJ s σ H x y v u Q I rx ry h;obtain ⟨i,j,rfl,rfl,q⟩:=h;obtain ⟨t,rfl⟩:=rx;obtain ⟨t',rfl⟩:=ry;exact rule i j t t' s _ _ ⟨.bl (g i j),H,I,rfl,q⟩
def CMul (i j:Int):Prop:=(-(2 ^ 64)<i/\i<2 ^ 64)\/(-(2 ^ 64)<j/\j<2 ^ 64)
theorem CMul.ok {i j:Int}(h:CMul i j):IntMulOk i j:=by
 rcases h with ⟨h1,h2⟩ | ⟨h1,h2⟩
 ·exact .of_left (intBits_le_64 h1 h2)
 ·exact .of_right (intBits_le_64 h1 h2)
theorem Jy:OpR X (binaryOp .Add) (rI0 λi j=>.int (i+j)):=Zhj λ_ _ _ _ _ _ _ q=>add_int q
theorem JQ:OpR X (binaryOp .Sub) (rI0 λi j=>.int (i-j)):=Zhj λ_ _ _ _ _ _ _ q=>sub_int q
theorem ZD:OpR X (binaryOp .Mult) (rI CMul λi j=>.int (i * j)):=opI λ_ _ _ _ _ _ _ hc q=>mul_int q hc.ok
theorem Oe:OpR X (binaryOp .Mod) (rI (λ_ j=>0<j) λi j=>.int (i % j)):=opI λi j _ _ _ _ _ hc q=>by
 have h1:(0:Int)<j:=hc;exact mod_int' (by lia) (by rw [Int.fmod_eq_emod_of_nonneg i (by lia)];exact q)
def Zhk:V->V->Bool
 | .non,.non=>true | .non,.int _=>true | .int _,.non=>true | .non,.bl _=>true | .bl _,.non=>true | .non,.str _=>true | .str _,.non=>true
 | .int _,.int _=>true | .bl _,.bl _=>true | .str _,.str _=>true | .byt _,.byt _=>true
 | .int _,.str _=>true | .str _,.int _=>true | .bl _,.str _=>true | .str _,.bl _=>true
 | _,_=>false
def rEq:R2:=λx y H Q=>Zhk x y=true/\Q (.bl (decide (x=y))) H
def rNe:R2:=λx y H Q=>Zhk x y=true/\Q (.bl (!decide (x=y))) H
theorem ZE {i j:Int}:decide (V.int i=V.int j)=(i == j):=by
 rw [Bool.eq_iff_iff];simp
theorem Zcz {i j:Bool}:decide (V.bl i=V.bl j)=(i == j):=by
 rw [Bool.eq_iff_iff];simp
theorem ZG {i j:Str}:decide (V.str i=V.str j)=(i == j):=by
 rw [Bool.eq_iff_iff];simp
theorem ZH {i j:Array UInt8}:decide (V.byt i=V.byt j)=(i.toList == j.toList):=by
 rw [Bool.eq_iff_iff];cases i;cases j;simp
theorem GD {qJ:List (Addr×Obj)}{σ:St}{H:Hp}{s:Shared}{Q:VK}{k k':Bool}(I:Inv X qJ σ H s)(q:Q (.bl k) H)(e:k=k'):EP X qJ σ Q (.bool k') s:=by
 subst e;exact ⟨.bl k,H,I,rfl,q⟩
theorem Xn:OpR X (compareOp .Eq) rEq:=by
 intro qJ s σ H x y v u Q I rx ry h;obtain ⟨hs,q⟩:=h;cases x with
 | non=>
  cases rx;cases y with
  | non=>cases ry;exact PySem.EqNone.eq_none_none (GD I q (by simp))
  | bl j=>cases ry;exact PySem.EqNone.eq_none_bool (GD I q (by simp))
  | int j=>obtain ⟨t',rfl⟩:=ry;exact PySem.EqNone.eq_none_int (GD I q (by simp))
  | str j=>obtain ⟨t',rfl⟩:=ry;exact PySem.EqNone.eq_none_str (GD I q (by simp))
  | _=>exact absurd (show false=true from hs) Yam
 | bl i=>
  cases rx;cases y with
  | non=>cases ry;exact PySem.EqNone.eq_bool_none (GD I q (by simp))
  | bl j=>cases ry;exact eq_bool (GD I q Zcz)
  | str j=>obtain ⟨t',rfl⟩:=ry;exact PySem.EqMixed.eq_bool_str (GD I q (by simp))
  | _=>exact absurd (show false=true from hs) Yam
 | int i=>
  obtain ⟨t,rfl⟩:=rx;cases y with
  | non=>cases ry;exact PySem.EqNone.eq_int_none (GD I q (by simp))
  | int j=>obtain ⟨t',rfl⟩:=ry;exact eq_int (GD I q ZE)
  | str j=>obtain ⟨t',rfl⟩:=ry;exact PySem.EqMixed.eq_int_str (GD I q (by simp))
  | _=>exact absurd (show false=true from hs) Yam
 | str i=>
  obtain ⟨t,rfl⟩:=rx;cases y with
  | non=>cases ry;exact PySem.EqNone.eq_str_none (GD I q (by simp))
  | bl j=>cases ry;exact PySem.EqMixed.eq_str_bool (GD I q (by simp))
  | int j=>obtain ⟨t',rfl⟩:=ry;exact PySem.EqMixed.eq_str_int (GD I q (by simp))
  | str j=>obtain ⟨t',rfl⟩:=ry;exact eq_str (GD I q ZG)
  | _=>exact absurd (show false=true from hs) Yam
 | byt i=>
  obtain ⟨t,rfl⟩:=rx;cases y with
  | byt j=>obtain ⟨t',rfl⟩:=ry;exact W.eq_bytes (GD I q ZH)
  | _=>exact absurd (show false=true from hs) Yam
 | _=>cases y <;> exact absurd (show false=true from hs) Yam
theorem Zc8:OpR X (compareOp .NotEq) rNe:=by
 intro qJ s σ H x y v u Q I rx ry h;obtain ⟨hs,q⟩:=h;cases x with
 | non=>
  cases rx;cases y with
  | non=>cases ry;exact PySem.EqNone.ne_none_none (GD I q (by simp))
  | bl j=>cases ry;exact PySem.EqNone.ne_none_bool (GD I q (by simp))
  | int j=>obtain ⟨t',rfl⟩:=ry;exact PySem.EqNone.ne_none_int (GD I q (by simp))
  | str j=>obtain ⟨t',rfl⟩:=ry;exact PySem.EqNone.ne_none_str (GD I q (by simp))
  | _=>exact absurd (show false=true from hs) Yam
 | bl i=>
  cases rx;cases y with
  | non=>cases ry;exact PySem.EqNone.ne_bool_none (GD I q (by simp))
  | bl j=>cases ry;exact ne_bool (GD I q (Ybc not Zcz))
  | str j=>obtain ⟨t',rfl⟩:=ry;exact PySem.EqMixed.ne_bool_str (GD I q (by simp))
  | _=>exact absurd (show false=true from hs) Yam
 | int i=>
  obtain ⟨t,rfl⟩:=rx;cases y with
  | non=>cases ry;exact PySem.EqNone.ne_int_none (GD I q (by simp))
  | int j=>obtain ⟨t',rfl⟩:=ry;exact ne_int (GD I q (Ybc not ZE))
  | str j=>obtain ⟨t',rfl⟩:=ry;exact PySem.EqMixed.ne_int_str (GD I q (by simp))
  | _=>exact absurd (show false=true from hs) Yam
 | str i=>
  obtain ⟨t,rfl⟩:=rx;cases y with
  | non=>cases ry;exact PySem.EqNone.ne_str_none (GD I q (by simp))
  | bl j=>cases ry;exact PySem.EqMixed.ne_str_bool (GD I q (by simp))
  | int j=>obtain ⟨t',rfl⟩:=ry;exact PySem.EqMixed.ne_str_int (GD I q (by simp))
  | str j=>obtain ⟨t',rfl⟩:=ry;exact ne_str (GD I q (Ybc not ZG))
  | _=>exact absurd (show false=true from hs) Yam
 | byt i=>
  obtain ⟨t,rfl⟩:=rx;cases y with
  | byt j=>obtain ⟨t',rfl⟩:=ry;exact W.ne_bytes (GD I q (Ybc not ZH))
  | _=>exact absurd (show false=true from hs) Yam
 | _=>cases y <;> exact absurd (show false=true from hs) Yam
theorem Zc9:OpR X (compareOp .Lt) (rI0 λi j=>.bl (decide (i<j))):=Zf7 λ_ _ _ _ _ _ _ q=>lt_int q
theorem ZgB:OpR X (compareOp .LtE) (rI0 λi j=>.bl (decide (i<=j))):=Zf7 λ_ _ _ _ _ _ _ q=>le_int q
theorem Zbx:OpR X (compareOp .Gt) (rI0 λi j=>.bl (decide (j<i))):=Zf7 λ_ _ _ _ _ _ _ q=>gt_int q
theorem ZgC:OpR X (compareOp .GtE) (rI0 λi j=>.bl (decide (j<=i))):=Zf7 λ_ _ _ _ _ _ _ q=>ge_int q
theorem Zda:OpR X (compareOp .IsNot) (λx y H Q=>y=.non/\Q (.bl (!decide (x=.non))) H):=by
 intro qJ s σ H x y v u Q I rx ry h;obtain ⟨rfl,q⟩:=h;cases ry;refine isnot_none_gen (GD I q ?_);cases x <;> first
  | (cases rx;rfl)
  | (obtain ⟨t,rfl⟩:=rx;rfl)
theorem Gz (b:Expr){op:CmpOp}(h:op≠.In:=by decide)(h2:op≠.NotIn:=by decide):behindInMarks op b=false:=by
 have e1:(op == CmpOp.In)=false:=by cases op <;> first | rfl | exact absurd rfl h
 have e2:(op == CmpOp.NotIn)=false:=by cases op <;> first | rfl | exact absurd rfl h2
 cases b <;> simp [behindInMarks,e1,e2]
theorem Xo {op:CmpOp}{r:R2}(ho:OpR X (compareOp op) r)(ha:PE X a ta)(hb:PE X b tb)(hm:behindInMarks op b=false):PE X (.Compare a [op] [b] pos) (tOp r ta tb):=by
 intro qJ s σ H Q I h;exact wpAny_Compare1 (ZgA ha hb I h λv u s2 x y H2 I2 rx ry q=>ho qJ s2 σ H2 x y v u Q I2 rx ry q) hm
def ZgD (t:TE):TT:=λσ H Q=>t σ H λx H'=>∃k,x=.bl k/\Q k H'
theorem Gv {op:CmpOp}{r:R2}(ho:OpR X (compareOp op) r)(ha:PE X a ta)(hb:PE X b tb)(hm:behindInMarks op b=false):PT X (.Compare a [op] [b] pos) (ZgD (tOp r ta tb)):=by
 intro qJ s σ H Q I h;refine wpAny_isTrue_Compare1 (thn (ha qJ s σ H _ I h) λv s1 ⟨x,H1,I1,r1,q1⟩=>thn (hb qJ s1 σ H1 _ I1 q1) λu s2 ⟨y,H2,I2,r2,q2⟩=>
  thn (ho qJ s2 σ H2 x y v u _ I2 r1 r2 q2) λc s3 ⟨z,H3,I3,r3,k,e,q3⟩=>?_) hm
 subst e;cases r3;exact Ydv ⟨H3,I3,q3⟩
def ZgE (K:W.Frag)(x:V)(H:Hp)(k:Bool):Prop:=
 match x with
 | .non=>k=false
 | .bl b=>k=b
 | .int i=>k=(i != 0)
 | .str y=>y.length<=sizeLine/\k=((y.length:Int) != 0)
 | .byt y=>y.size<=sizeLine/\k=((y.size:Int) != 0)
 | .ref p=>(∃xs,SqL K H p xs/\k=!xs.isEmpty)\/(∃xs,SqT K H p xs/\k=!xs.isEmpty)\/∃kvs,H p=some (.dK kvs)/\k=!kvs.isEmpty
 | _=>False
theorem YL {κ:Type}{kvs:List (κ×V)}{vs:List (κ×Value)}(r:KV kvs vs):(!vs.isEmpty)=!kvs.isEmpty:=by
 cases r <;> rfl
theorem Vm {xs:List V}{its:List Value}(r:Vals xs its):(!its.toArray.isEmpty)=!xs.isEmpty:=by
 cases r <;> simp
theorem XU:(sizeLine:Nat)<2 ^ 63:=by rw [Ybf];decide
theorem Zeu:ZhG X (λx H Q=>∃k,ZgE X.K x H k/\Q k H):=by
 intro qJ s σ H x v Q I rx h;obtain ⟨k,e,q⟩:=h;have hl:=XU;have hs:sizeLine=16777216:=Ybf;cases x with
 | non=>
  cases rx;have e':k=false:=e;subst e';exact truthy_none ⟨H,I,q⟩
 | bl b=>
  cases rx;have e':k=b:=e;subst e';exact Ydv ⟨H,I,q⟩
 | int i=>
  obtain ⟨t,rfl⟩:=rx;have e':k=(i != 0):=e;subst e';exact PySem.P.truthy_int ⟨H,I,q⟩
 | str y=>
  obtain ⟨t,rfl⟩:=rx;obtain ⟨hy,e'⟩:y.length<=sizeLine/\k=((y.length:Int) != 0):=e;subst e';exact PySem.P.truthy_str (by lia) ⟨H,I.tok _,q⟩
 | byt y=>
  obtain ⟨t,rfl⟩:=rx;obtain ⟨hy,e'⟩:y.size<=sizeLine/\k=((y.size:Int) != 0):=e;subst e';exact W.truthy_bytes (by lia) ⟨H,I.tok _,q⟩
 | ref p=>
  cases rx;have e':(∃xs,SqL X.K H p xs/\k=!xs.isEmpty)\/(∃xs,SqT X.K H p xs/\k=!xs.isEmpty)\/∃kvs,H p=some (.dK kvs)/\k=!kvs.isEmpty:=e;rcases e' with ⟨xs,hx,e'⟩ | ⟨xs,hx,e'⟩ | ⟨kvs,hx,e'⟩
  ·subst e';obtain ⟨its,r,pl,hz⟩:=I.list hx;have qW:=r.length;exact wpAny_truthy_list pl.isList (by simp only [Yaw];lia) ⟨H,I.tok _,by rw [Vm r];exact q⟩
  ·subst e';obtain ⟨its,r,pl,hz⟩:=I.tuple hx;have qW:=r.length;exact truthy_tuple pl (by simp only [Yaw];lia) ⟨H,I.tok _,by rw [Vm r];exact q⟩
  ·subst e';obtain ⟨hz,hS,vs,r,m⟩:kvs.length<=sizeLine/\(p == sysModules)=false/\∃vs,KV kvs vs/\s.heap.DictOf (Jc X.prog X.w) p vs:=I.hok p _ hx;have qW:kvs.length=vs.length:=Ycs r;exact wpAny_truthy_dict hS m (by lia) ⟨H,I.tok _,by rw [YL r];exact q⟩
 | _=>exact (show False from e).elim
theorem UE (ha:PE X a ta)(he:∀whole,isTrue a X.env whole=(do let v <- whole;standAt a.pos;holding [v] (truthy v))) :
  PT X a (λσ H Q=>ta σ H λx H'=>∃k,ZgE X.K x H' k/\Q k H'):=by
 intro qJ s σ H Q I h;exact isTrue_plain (thn (ha qJ s σ H _ I h) λv s1 ⟨x,H1,I1,r1,q1⟩=>Zeu qJ s1 σ H1 x v Q I1 r1 q1) (he _)
theorem Zdb {x:V}{us:List Value}(r:Vals [x] us):∃u,us=[u]/\RelV x u:=by
 cases r with
 | cons r1 r2=>cases r2;exact ⟨_,rfl,r1⟩
theorem ZgF {x y:V}{us:List Value}(r:Vals [x,y] us):∃u w',us=[u,w']/\RelV x u/\RelV y w':=by
 cases r with
 | cons r1 r2=>
  cases r2 with
  | cons r3 r4=>cases r4;exact ⟨_,_,rfl,r1,r3⟩
theorem WA (hc:X.calm=true):Od X (.builtin "max") (λxs H Q=>∃i j,xs=[.int i,.int j]/\Q (.int (if j > i then j else i)) H):=by
 intro qJ s σ H xs us Q I r h;obtain ⟨i,j,rfl,q⟩:=h;obtain ⟨u,w',rfl,⟨t,rfl⟩,⟨t',rfl⟩⟩:=ZgF r;refine max_two_ints (I.ok.hd hc) λh' tk k=>⟨_,H,I.kept k,?_,q⟩;by_cases hj:j > i
 ·rw [if_pos hj,if_pos hj];exact ⟨_,rfl⟩
 ·rw [if_neg hj,if_neg hj];exact ⟨_,rfl⟩
end
structure ObjM (h:Heap)(x dx C:Addr)(mA:Str->Option Value):Prop where
 obj:h.get? x=some (W.instObj C dx)
 ns:h.Ns1 dx mA
 ne:dx≠x
theorem ZI {h:Heap}{dx:Addr}{mA:Str->Option Value}(n:h.Ns1 dx mA):∃od,h.get? dx=some od/\∀name,W.lookIn name od=some (mA name):=by
 obtain ⟨o,es,ep,ho,hd,hk,_,hm⟩:=n;refine ⟨o,ho,λname=>?_⟩;have e:=hm name;unfold nsFind findBy at e;rw [<-Array.find?_toList] at e;unfold W.lookIn;rw [hd];dsimp only;split
 ·rename_i y q;rw [q] at e;exact Ybc some e
 ·rename_i q;rw [q] at e;have a:es.toList.any (·.refKey)=false:=by
   rw [List.any_eq_false];intro y hy;obtain ⟨z,t,hkey⟩:=hk y (Array.mem_toList_iff.mp hy);simp [DictEntry.refKey,hkey]
  have a':¬ es.toList.any (·.refKey)=true:=by rw [a];exact Yam
  rw [if_neg a'];exact Ybc some e
theorem ObjM.look {h:Heap}{x dx C:Addr}{mA:Str->Option Value}(I:ObjM h x dx C mA):∃od,W.InstAt h x (W.instObj C dx) C (some od)/\∀name,W.lookIn name od=some (mA name):=
 let ⟨od,ho,hl⟩:=ZI I.ns
 ⟨od,⟨I.obj,rfl,rfl,ho⟩,hl⟩
section
variable {prog:Program}{w:World}{A:Around}{E:EX}{s:Shared}{K:W.Frag}{x dx C f:Addr}{mA:Str->Option Value}{name:Str}{v:Value}
theorem Zdc {expr:Bool}{Q:EX}(X:K.In s.heap)(I:ObjM s.heap x dx C mA)(hg:W.plainGet K C name=true)(hh:W.hasDictIn K C=true)(ha:W.findIn K (.ref C) name=some none)(hv:mA name=some v)(hv':W.handedIn v=true)(h:Q v { s with toks:=s.toks+1 }) :
  wpAny (model prog w) A (getAttr (.ref x) name expr) Q E s:=by
 obtain ⟨od,J,hl⟩:=I.look;exact W.get_value X J (W.plainGet_of hg).1 (W.findObj_own hh ha rfl (by rw [hl,hv])) hv' h
theorem Zby {pl:Sem Bool}{Q:Value×List Value->Shared->Prop}(X:K.In s.heap)(I:ObjM s.heap x dx C mA)(hg:W.plainGet K C name=true)(hf:W.findIn K (.ref C) name=some (some (.ref f)))(ht:W.isFn K (.ref f)=true)(hv:mA name=none)(h:Q (.ref f,[.ref x]) s) :
  wpAny (model prog w) A (getMethod (.ref x) name pl) Q E s:=by
 obtain ⟨od,J,hl⟩:=I.look;exact W.method_fn X J (W.plainGet_of hg).1 (W.plainGet_of hg).2 hf (Ybg.mp ht) (by show (W.lookIn name od).map (·.isSome)=some false;rw [hl,hv];rfl) h
theorem Zdd {ns:List Str}{Q:Unit->Shared->Prop}(X:K.In s.heap)(I:ObjM s.heap x dx C mA)(hs:W.findIn K (.ref C) "__setattr__" = some (some (.builtin "object.__setattr__")))(hp:W.plainOver K C=true)(ht:W.takerIn K C name=some none)(hh:W.hasDictIn K C=true)(hw:PySem.Within mA ns)(hsz:ns.length<=sizeLine)(h:∀h',ObjM h' x dx C (λy=>if y=name then some v else mA y)->Heap.SameBut dx s.heap h'->Q () { s with heap:=h',toks:=s.toks+2 }) :
  wpAny (model prog w) A (setAttr (.ref x) name v) Q E s:=by
 obtain ⟨od,J,hl⟩:=I.look;refine W.set_plain X J hs (W.osa_open (s:={ s with toks:=s.toks+1 }) (r:=none) X J hp ht λb=>?_);obtain ⟨cd,hc,hd'⟩:=W.any_some hh;have hx:s.heap.get? x=some ⟨.ref C,some dx,.plain,#[]⟩:=I.obj;refine Yaa (Yab (Yaa (Yaa (wpAny_loadPart hx (Yaa (W.Looks.here (s:={ s with toks:=s.toks+1 }) (W.looks_clsIn X hc) ?_))))));rw [hd'];refine Yab (a:=some dx) (Yaa (Yab (Yaa ?_)));refine wpAny_nsSet1 (s:={ s with toks:=s.toks+1 }) I.ns λh' hn2 hs2=>?_;obtain ⟨oD,esD,epD,hoD,hdD,hcD⟩:=hn2.count (PySem.Within.cons name v hw);refine Yaa (wpAny_lookBehind hoD (by rw [hdD];exact pastItsLine_dict (Ybo hcD (by rw [Ybn];lia))) ?_);exact Yab (h _ ⟨(hs2.2 _ (Ne.symm I.ne)).trans I.obj,hn2,I.ne⟩ hs2)
theorem Zbz {R:Result->Shared->Prop}{vs:List Value}{kw:List (Str×Value)}(X:K.In s.heap)(hm:W.makesIn K C=true)(hi:W.findIn K (.ref C) "__init__" = some (some (.ref f)))(hf:W.typeIn K (.ref f)=some (.type "function"))(h:codeAny (model prog w) (A.under (.builtin "type.__call__" ⟨.ref C::vs,kw⟩)) (.call (.ref f) ⟨.ref (s.heap.objs.size+1)::vs,kw⟩) (W.InitBack (s.heap.objs.size+1) R)
   { s with heap:=(s.heap.push W.emptyDict).push (W.instObj C s.heap.objs.size) }) :
  codeAny (model prog w) A (.call (.ref C) ⟨vs,kw⟩) R s:=by
 obtain ⟨hh,g,d,t,os⟩:=s;exact W.make_core (W.makes_of X hm) (W.looks_findIn X hi) (λself=>W.bind_fn X self hf) (.inl rfl) h
end
def Uu (f:Str)(v:V):List (Str×V)->List (Str×V)
 | []=>[(f,v)]
 | (g,x)::r=>if g=f then (g,v)::r else (g,x)::Uu f v r
theorem GE (f g:Str)(v:V):∀fs:List (Str×V),(Uu f v fs).lookup g=if g=f then some v else fs.lookup g
 | []=>by
  show List.lookup g [(f,v)]=_;by_cases h:g=f
  ·have hb:(g == f)=true:=Ybg.mpr h;simp only [List.lookup,hb,if_pos h]
  ·have hb:(g == f)=false:=Ydu.mpr h;simp only [List.lookup,hb,if_neg h]
 | (k,x)::r=>by
  have ih:=GE f g v r;rw [show Uu f v ((k,x)::r)=(if k=f then (k,v)::r else (k,x)::Uu f v r) from rfl];by_cases hk:k=f
  ·rw [if_pos hk];by_cases h:g=k
   ·have hb:(g == k)=true:=Ybg.mpr h;simp only [List.lookup,hb,if_pos (h.trans hk)]
   ·have hb:(g == k)=false:=Ydu.mpr h;simp only [List.lookup,hb,if_neg (λe:g=f=>h (e.trans hk.symm))]
  ·rw [if_neg hk];by_cases h:g=k
   ·have hb:(g == k)=true:=Ybg.mpr h;simp only [List.lookup,hb,if_neg (λe:g=f=>hk (h.symm.trans e))]
   ·have hb:(g == k)=false:=Ydu.mpr h;simp only [List.lookup,hb];exact ih
theorem UU (f:Str)(v:V):∀fs:List (Str×V),f∈(Uu f v fs).map (·.1)/\∀g,g∈fs.map (·.1)->g∈(Uu f v fs).map (·.1)
 | []=>⟨by simp [Uu],λg h=>by simp at h⟩
 | (k,x)::r=>by
  obtain ⟨i1,i2⟩:=UU f v r;rw [show Uu f v ((k,x)::r)=(if k=f then (k,v)::r else (k,x)::Uu f v r) from rfl];by_cases hk:k=f
  ·rw [if_pos hk];subst hk;exact ⟨by simp,λg h=>by simpa using h⟩
  ·rw [if_neg hk];refine ⟨?_,λg h=>?_⟩
   ·rw [Yaq];exact Ybb _ i1
   ·rw [Yaq] at h ⊢;rcases Yas.mp h with e | e
    ·exact Yas.mpr (.inl e)
    ·exact Ybb _ (i2 g e)
theorem UV (f:Str)(v:V):∀fs:List (Str×V),(Uu f v fs).length<=fs.length+1
 | []=>by simp [Uu]
 | (k,x)::r=>by
  have ih:=UV f v r;rw [show Uu f v ((k,x)::r)=(if k=f then (k,v)::r else (k,x)::Uu f v r) from rfl];by_cases hk:k=f
  ·rw [if_pos hk,Ybn,Ybn];lia
  ·rw [if_neg hk,Ybn,Ybn];lia
theorem RelO.some_of {v:V}{o:Option Value}(r:RelO (some v) o):∃u,o=some u/\RelV v u:=by
 cases o with
 | none=>exact (show False from r).elim
 | some u=>exact ⟨u,rfl,r⟩
theorem RelO.none_of {o:Option Value}(r:RelO none o):o=none:=by
 cases o with
 | none=>rfl
 | some u=>exact (show False from r).elim
theorem ZJ {v:V}{u:Value}(r:RelV v u):W.handedIn u=true:=by
 cases v with
 | non=>cases (show u=Value.none from r);rfl
 | bl b=>cases (show u=Value.bool b from r);rfl
 | int i=>obtain ⟨t,e⟩:=(show ∃t,u=Value.int i t from r);cases e;rfl
 | str x=>obtain ⟨t,e⟩:=(show ∃t,u=Value.str x t from r);cases e;rfl
 | byt b=>obtain ⟨t,e⟩:=(show ∃t,u=Value.bytes b t from r);cases e;rfl
 | flt b=>obtain ⟨t,e⟩:=(show ∃t,u=Value.float b t from r);cases e;rfl
 | ref a=>cases (show u=Value.ref a from r);rfl
 | ty n=>cases (show u=Value.type n from r);rfl
section
variable {P:Program}{w:World}{H H':Hp}{h h':Heap}{a C dx:Addr}{fs fs':List (Str×V)}
theorem VN (hok:HOk P w H h)(e:H a=some (.ins C dx fs)):∃mA,ObjM h a dx C mA/\(∀f,RelO (fs.lookup f) (mA f))/\PySem.Within mA (fs.map (·.1))/\fs.length<=1000/\H dx=some (.own a):=by
 obtain ⟨d,z,ne,ob,mA,n,r,q⟩:=(show ObjOk P w H h a (.ins C dx fs) from hok a _ e);exact ⟨mA,⟨ob,n,ne⟩,r,q,z,d⟩
end
structure Cls (K:W.Frag)(C:Addr):Prop where
 pg:W.plainGet K C Str.empty=true
 hd:W.hasDictIn K C=true
 po:W.plainOver K C=true
 sa:W.findIn K (.ref C) "__setattr__" = some (some (.builtin "object.__setattr__"))
theorem Cls.get {K:W.Frag}{C:Addr}(c:Cls K C)(f:Str):W.plainGet K C f=true:=c.pg
def NoAttr (K:W.Frag)(C:Addr)(f:Str):Prop:=W.findIn K (.ref C) f=some none
theorem NoAttr.taker {K:W.Frag}{C:Addr}{f:Str}(n:NoAttr K C f):W.takerIn K C f=some none:=by
 unfold W.takerIn;rw [show W.findIn K (.ref C) f=some none from n]
 rfl
structure ZgG (K:W.Frag)(C:Addr)(m:Str)(f:Addr):Prop where
 at_:W.findIn K (.ref C) m=some (some (.ref f))
 fn:W.isFn K (.ref f)=true
 kp:W.keepIn K (.ref f)=true
section
variable {X:Cx}{qJ:List (Addr×Obj)}{σ:St}{H:Hp}{s:Shared}{a C dx:Addr}{fs:List (Str×V)}{f:Str}{v:V}{A:Around}{E:EX}
theorem YM {b:Bool}{Q:EX}(I:Inv X qJ σ H s)(e:H a=some (.ins C dx fs))(c:Cls X.K C)(n:NoAttr X.K C f)(l:fs.lookup f=some v)(h:∀u s',Inv X qJ σ H s'->RelV v u->Q u s'):wpAny (model X.prog X.w) A (getAttr (.ref a) f b) Q E s:=by
 obtain ⟨mA,O,r,_,_,_⟩:=VN I.hok e;obtain ⟨u,hu,ru⟩:=RelO.some_of (v:=v) (o:=mA f) (by rw [<-l];exact r f);exact Zdc I.kIn O (c.get f) c.hd n hu (ZJ ru) (h u _ (I.tok _) ru)
theorem YN {m:Str}{g:Addr}{pl:Sem Bool}{Q:Value×List Value->Shared->Prop}(I:Inv X qJ σ H s)(e:H a=some (.ins C dx fs))(c:Cls X.K C)(k:ZgG X.K C m g)(l:fs.lookup m=none)(h:Q (.ref g,[.ref a]) s):wpAny (model X.prog X.w) A (getMethod (.ref a) m pl) Q E s:=by
 obtain ⟨mA,O,r,_,_,_⟩:=VN I.hok e;have hn:mA m=none:=RelO.none_of (by rw [<-l];exact r m);exact Zby I.kIn O (c.get m) k.at_ k.fn hn h
theorem YO {y:V}{u:Value}{Q:Unit->Shared->Prop}(I:Inv X qJ σ H s)(e:H a=some (.ins C dx fs))(c:Cls X.K C)(n:NoAttr X.K C f)(hl:fs.length<1000)(ry:RelV y u)(h:∀s',Inv X qJ σ (upd H a (.ins C dx (Uu f y fs))) s'->Q () s'):wpAny (model X.prog X.w) A (setAttr (.ref a) f u) Q E s:=by
 obtain ⟨mA,O,r,wi,_,ho⟩:=VN I.hok e;have hz:(fs.map (·.1)).length<=sizeLine:=by rw [Yac,Ybf];lia
 refine Zdd I.kIn O c.sa c.po n.taker c.hd wi hz λh' O' sb=>h _ ?_;have hd:∃o,h'.get? dx=some o:=let ⟨o,_,_,e',_⟩:=O'.ns;⟨o,e'⟩;refine I.write (x:=a) (e:=dx) (by rw [e];exact True.intro) (.inr ho) (λb q hb z=>(sb.2 b hb).trans z) hd ?_;refine ⟨by rw [Gm O.ne];exact ho,?_,O.ne,O'.obj,_,O'.ns,λg=>?_,λg hg=>?_⟩
 ·have:=UV f y fs;lia
 ·show RelO ((Uu f y fs).lookup g) (if g=f then some u else mA g);rw [GE];by_cases q:g=f
  ·rw [if_pos q,if_pos q];exact ry
  ·rw [if_neg q,if_neg q];exact r g
 ·by_cases q:g=f
  ·rw [q];exact (UU f y fs).1
  ·refine (UU f y fs).2 g (wi g λz=>hg ?_);show (if g=f then some u else mA g)=none;rw [if_neg q];exact z
theorem Inv.made (I:Inv X qJ σ H s):Inv X qJ σ (upd (upd H s.heap.objs.size (.own (s.heap.objs.size+1))) (s.heap.objs.size+1) (.ins C s.heap.objs.size []))
  { s with heap:=(s.heap.push W.emptyDict).push (W.instObj C s.heap.objs.size) }:=by
 have e1:(s.heap.push W.emptyDict).get? s.heap.objs.size=some W.emptyDict:=Ybh s.heap rfl;have e2:((s.heap.push W.emptyDict).push (W.instObj C s.heap.objs.size)).get? (s.heap.objs.size+1)=some (W.instObj C s.heap.objs.size):=by
  have:=Ybh (s.heap.push W.emptyDict) (o:=W.instObj C s.heap.objs.size) rfl
  rwa [Yck] at this
 have e3:(s.heap.push W.emptyDict).Ns s.heap.objs.size (λ_=>none):=⟨W.emptyDict,#[],_,e1,rfl,(λe he=>absurd he (by simp)),λ_=>rfl⟩;have I1:=I.laid (a:=s.heap.objs.size) (o:=.own (s.heap.objs.size+1)) (h':=s.heap.push W.emptyDict) (t':=s.toks) (λb u q=>Yal _ q) (Yad _) ⟨_,e1⟩;refine I1.laid (a:=s.heap.objs.size+1) (o:=.ins C s.heap.objs.size []) (t':=s.toks) (λb u q=>Yal _ q) (Nat.le_of_eq (Yck _ _)) ?_;have ne:s.heap.objs.size≠s.heap.objs.size+1:=Yav (Nat.lt_succ_self _);refine ⟨by rw [Gm ne,Ga],Yar _,ne,e2,λ_=>none,(Heap.Ns1.of_empty e3).at λo q=>Yal _ q,λ_=>True.intro,λy hy=>absurd rfl hy⟩
theorem Zde {prog:Program}{w:World}{env:Env}{e:Expr}{f:Str}{pos:Pos}{s:Shared}{Q:EX}(hb:attributeBase e f env (eval e env)=eval e env)(h:wpAny (model prog w) A (eval e env) (λo s₁=>wpAny (model prog w) A (getAttr o f true) Q E s₁) E s):wpAny (model prog w) A (eval (.Attribute e f pos) env) Q E s:=
 Attribute_any_ h (by rw [arm_eval_Attribute,hb])
end
def ZhH (K:W.Frag)(ta:TE)(f:Str):TE:=λσ H Q=>ta σ H λx H1=>∃a C dx fs v,x=.ref a/\H1 a=some (.ins C dx fs)/\Cls K C/\NoAttr K C f/\fs.lookup f=some v/\Q v H1
def ZhI (K:W.Frag)(ta tv:TE)(f:Str):TS:=λD σ H=>tv σ H λy H1=>ta σ H1 λx H2=>∃a C dx fs,x=.ref a/\H2 a=some (.ins C dx fs)/\Cls K C/\NoAttr K C f/\fs.length<1000 /\
 D.nx σ (upd H2 a (.ins C dx (Uu f y fs)))
section
variable {X:Cx}{o e value:Expr}{f:Str}{pos pos' tpos:Pos}{ta tv:TE}
theorem OO (he:PE X e ta)(hb:attributeBase e f X.env (eval e X.env)=eval e X.env):PE X (.Attribute e f pos) (ZhH X.K ta f):=by
 intro qJ s σ H Q I h;refine Zde hb (thn (he qJ s σ H _ I h) λu s1 ⟨x,H1,I1,rx,a,C,dx,fs,v,ex,ea,c,n,l,q⟩=>?_);subst ex;obtain rfl:u=Value.ref a:=rx;exact YM I1 ea c n l λu' s2 I2 ru=>⟨v,H1,I2,ru,q⟩
theorem ZK (ha:PE X o ta)(hv:PE X value tv)(hs:swapsWith value (some (.Attribute o f pos')) pos.line X.env=pure false):PS X (.Assign [.Attribute o f pos'] value pos) (ZhI X.K ta tv f):=by
 intro qJ s σ H D I h;refine plainObj_wpAny_Assign_Attribute (thn (hv qJ s σ H _ I h) λu s1 ⟨y,H1,I1,ry,q⟩=>thn (ha qJ s1 σ H1 _ I1 q) λov s2 ⟨x,H2,I2,rx,a,C,dx,fs,ex,ea,c,n,l,q2⟩=>?_) hs;subst ex;obtain rfl:ov=Value.ref a:=rx;exact YO I2 ea c n l ry λs3 I3=>⟨σ,_,I3,q2⟩
end
section
variable {X:Cx}{qJ:List (Addr×Obj)}{σ:St}{H:Hp}{s:Shared}{A:Around}{E:EX}{Q:EX}{c:Value}{b:Bool}
inductive YQ (K:W.Frag)(H:Hp):V->Value->Prop where
 | non:YQ K H .non (.type "NoneType")
 | bl (x:Bool):YQ K H (.bl x) (.type "bool")
 | int (i:Int):YQ K H (.int i) (.type "int")
 | str (x:Str):YQ K H (.str x) (.type "str")
 | flt (x:UInt64):YQ K H (.flt x) (.type "float")
 | lst {a:Addr} {xs:List V} (e:H a=some (.lst xs)):YQ K H (.ref a) (.type "list")
 | frz {a:Addr} {o:Obj} {xs:List V} (e:H a=some (.frz o (.lst xs))):YQ K H (.ref a) (.type "list")
 | tup {a:Addr} {xs:List V} (e:H a=some (.tup xs)):YQ K H (.ref a) (.type "tuple")
 | dK {a:Addr} {kvs:List (Key×V)} (e:H a=some (.dK kvs)):YQ K H (.ref a) (.type "dict")
 | dT {a:Addr} {kvs:List (List Key×V)} (e:H a=some (.dT kvs)):YQ K H (.ref a) (.type "dict")
 | ins {a C dx:Addr} {fs:List (Str×V)} (e:H a=some (.ins C dx fs)) (cl:Cls K C) (ha:W.findIn K (.ref C) "__class__" = some (some (.builtin "object.__class__")))
   (hn:W.specialIn K (.builtin "object.__class__") "__get__" = some (some (.builtin "getset_descriptor.__get__"))) (htk:W.takesIn K (.builtin "object.__class__")=some true)
   (hm:W.mroIn K C (.type "object")=some true):YQ K H (.ref a) (.ref C)
theorem ZL {x:V}{u t:Value}(I:Inv X qJ σ H s)(rx:RelV x u)(ty:YQ X.K H x t)(e:W.kitOne X.K t c=some b)(h:∀tk,Q (.bool b) { s with toks:=tk }) :
  wpAny (model X.prog X.w) A (call (.builtin "isinstance") [u,c]) Q E s:=by
 cases ty with
 | non=>cases (show u=Value.none from rx);exact Ycy W.kitx_none I.kIn True.intro e (λz=>nomatch z) h
 | bl y=>cases (show u=Value.bool y from rx);exact Ycy W.kitx_bool I.kIn True.intro e (λz=>nomatch z) h
 | int i=>obtain ⟨t,q⟩:=(show ∃t,u=Value.int i t from rx);cases q;exact Ycy W.kitx_int I.kIn True.intro e (λz=>nomatch z) h
 | str y=>obtain ⟨t,q⟩:=(show ∃t,u=Value.str y t from rx);cases q;exact Ycy W.kitx_str I.kIn True.intro e (λz=>nomatch z) h
 | flt y=>obtain ⟨t,q⟩:=(show ∃t,u=Value.float y t from rx);cases q;exact Ycy W.kitx_float I.kIn True.intro e (λz=>nomatch z) h
 | @lst a xs ea=>
  cases (show u=Value.ref a from rx);obtain ⟨_,_,n,_,h1⟩:=(show ObjOk X.prog X.w H s.heap a (.lst xs) from I.hok a _ ea);exact Ycy W.kitx_list I.kIn ⟨_,h1,rfl⟩ e (λz=>nomatch z) h
 | @frz a ob xs ea=>
  cases (show u=Value.ref a from rx);obtain ⟨_,_,_,n,_,h1⟩:=(show ObjOk X.prog X.w H s.heap a (.frz ob (.lst xs)) from I.hok a _ ea);exact Ycy W.kitx_list I.kIn ⟨_,h1,rfl⟩ e (λz=>nomatch z) h
 | @tup a xs ea=>
  cases (show u=Value.ref a from rx);obtain ⟨_,_,_,p⟩:=(show ObjOk X.prog X.w H s.heap a (.tup xs) from I.hok a _ ea);obtain ⟨o,h1,h2,_⟩:=p;exact Ycy W.kitx_tuple I.kIn ⟨o,h1,h2⟩ e (λz=>nomatch z) h
 | @dK a kvs ea=>
  cases (show u=Value.ref a from rx);obtain ⟨_,_,vs,_,p⟩:=(show ObjOk X.prog X.w H s.heap a (.dK kvs) from I.hok a _ ea);obtain ⟨o,es,ep,h1,h2,_⟩:=p;exact Ycy W.kitx_dict I.kIn ⟨o,h1,h2.1⟩ e (λz=>nomatch z) h
 | @dT a kvs ea=>
  cases (show u=Value.ref a from rx);obtain ⟨_,_,xs,_,o,es,ep,h1,h2,_⟩:=(show ObjOk X.prog X.w H s.heap a (.dT kvs) from I.hok a _ ea);exact Ycy W.kitx_dict I.kIn ⟨o,h1,h2.1⟩ e (λz=>nomatch z) h
 | @ins a C dx fs ea cl ha hn htk hm=>
  cases (show u=Value.ref a from rx);obtain ⟨mA,O,_⟩:=VN I.hok ea;obtain ⟨od,J,_⟩:=O.look;exact Ycy (W.kitx_own (cl.get _) cl.hd ha hn htk hm) I.kIn J e (λz=>nomatch z) h
end
structure Room (k:Nat)(A:Around):Prop where
 hd:A.handled=none
 dp:A.depth+3 * k+5<recursionLimit
 un:A.units+16 * k+200<cLine
theorem Room.mono {j k:Nat}{A:Around}(r:Room k A)(h:j<=k):Room j A:=⟨r.hd,by have:=r.dp;lia,by have:=r.un;lia⟩
theorem Room.deeper {k:Nat}{A:Around}(r:Room (k+1) A)(env:Env):Room k (A.deeper env):=
 ⟨r.hd,by have:=r.dp;show A.depth+1+3 * k+5<_;lia,by have:=r.un;show A.units+3+16 * k+200<_;lia⟩
theorem YR {A:Around}{C:Addr}{us:List Value}{kw:List (Str×Value)}:(A.under (.builtin "type.__call__" ⟨.ref C::us,kw⟩)).depth=A.depth+1:=by
 first | rfl | simp [Around.under,Code.weight,Code.isCreation,Code.isGuard,Code.isCaller,Code.frames,Code.isFrame,guardIds]
theorem YS {A:Around}{C:Addr}{us:List Value}{kw:List (Str×Value)}:(A.under (.builtin "type.__call__" ⟨.ref C::us,kw⟩)).units=A.units+1:=by
 first | rfl | simp [Around.under,Code.cUnits,Code.frames,Code.isFrame]
theorem Room.make {k:Nat}{A:Around}(r:Room (k+1) A)(C:Addr)(us:List Value)(kw:List (Str×Value)):Room k (A.under (.builtin "type.__call__" ⟨.ref C::us,kw⟩)):=
 ⟨r.hd,by have:=r.dp;rw [YR];lia,by have:=r.un;rw [YS];lia⟩
theorem Room.depth {k:Nat}{A:Around}(r:Room k A):A.depth<recursionLimit:=by have:=r.dp;lia
theorem Room.units {k:Nat}{A:Around}(r:Room k A):A.units+64<cLine:=by have:=r.un;lia
def Zev:TA:=λ_ H Q=>Q [] H
def ZM (ta:TE)(tr:TA):TA:=λσ H Q=>ta σ H λx H1=>tr σ H1 λxs H2=>Q (x::xs) H2
section
variable {X:Cx}{e:Expr}{es:List Expr}{te:TE}{t:TA}{pos:Pos}
theorem Gd:PA X [] Zev:=λ_ _ _ _ H Q I h=>Calls.spliced_nil ⟨[],H,I,.nil,h⟩
theorem Gb (ha:PE X e te)(hr:PA X es t)(hs:starEach (e::es) X.env=(false,eval e X.env)::starEach es X.env:=by rfl):PA X (e::es) (ZM te t):=by
 intro pos qJ s σ H Q I h;rw [hs];show wpAny _ _ (spliced ((false,eval e X.env)::backTo pos (starEach es X.env))) _ _ s;refine Calls.spliced_cons (thn (ha qJ s σ H _ I h) λu s1 ⟨x,H1,I1,r1,q1⟩=>?_);exact thn (hr pos qJ s1 σ H1 _ I1 q1) λus s2 ⟨xs,H2,I2,r2,q2⟩=>⟨x::xs,H2,I2,.cons r1 r2,q2⟩
def ZhJ (t:TA):TE:=λσ H Q=>t σ H λxs H1=>xs.length<=sizeLine/\∀p,H1 p=none->Q (.ref p) (upd H1 p (.tup xs))
def Zf8 (t:TA):TE:=λσ H Q=>t σ H λxs H1=>xs.length<=sizeLine/\∀p,H1 p=none->Q (.ref p) (upd H1 p (.lst xs))
theorem Jz {x1}(h:PA X es t):PE X (.Tuple es x1 pos) (ZhJ t):=by
 intro qJ s σ H Q I hq;refine wpAny_Tuple_spliced (thn (h pos qJ s σ H _ I hq) λus s1 ⟨xs,H1,I1,r,z,q⟩=>⟨by rw [<-r.length];exact z,?_⟩);have hf:H1 s1.heap.objs.size=none:=I1.hok.fresh (Yad _);refine ⟨.ref s1.heap.objs.size,upd H1 s1.heap.objs.size (.tup xs),I1.laid (t':=s1.toks) (λb u e=>Yal _ e) (Yad _) ?_,rfl,q _ hf⟩;exact ⟨z,us,r,⟨_,Ybh _ rfl,rfl,_,rfl⟩⟩
theorem GH (h:PA X es t):PE X (.List es pos) (Zf8 t):=by
 intro qJ s σ H Q I hq;refine wpAny_List_spliced (thn (h pos qJ s σ H _ I hq) λus s1 ⟨xs,H1,I1,r,z,q⟩=>⟨by rw [<-r.length];exact z,?_⟩);have hf:H1 s1.heap.objs.size=none:=I1.hok.fresh (Yad _);refine ⟨.ref s1.heap.objs.size,upd H1 s1.heap.objs.size (.lst xs),I1.laid (t':=s1.toks) (λb u e=>Yal _ e) (Yad _) ?_,rfl,q _ hf⟩;exact ⟨z,us,0,r,Ybh _ rfl⟩
end
abbrev Sp:=List V->Hp->VK->XK->Prop
abbrev CXT:=List Env->Hp->Shared->XK->Value->Shared->Prop
structure Env0 (P:Program)(w:World)(K:W.Frag)(mg:Str->Option Value)(base:Heap)(A:Around)(outer:List Env)(s:Shared)(H:Hp):Prop where
 frames:A.frames=some outer
 mod:Mod K mg base
 bs:∀b o,base.get? b=some o->s.heap.get? b=some o/\H b=none
 bsz:base.objs.size<=s.heap.objs.size
 funs:s.heap.FunFrames base outer
 frf:∀b∈frs outer,H b=none
 hok:HOk P w H s.heap
 bare:AllBare s.gens
def CE (outer:List Env)(P:Program)(w:World)(H:Hp)(s:Shared)(Q:VK)(u:Value)(s':Shared):Prop:=
 ∃v H',s'.os=s.os/\AllBare s'.gens/\Un (frs outer) [] H H' s.heap s'.heap/\HOk P w H' s'.heap/\RelV v u/\Q v H'
def CR (CX:CXT)(outer:List Env)(P:Program)(w:World)(H:Hp)(s:Shared)(Q:VK)(E:XK)(r:Result)(s':Shared):Prop:=
 match r with
 | .ok (.ret u)=>CE outer P w H s Q u s'
 | .ok _=>False
 | .error e=>CX outer H s E e s'
structure G4 (P:Program)(w:World)(K:W.Frag)(mg:Str->Option Value)(base:Heap)(CX:CXT)(k:Nat)(f:Addr)(fd:FuncData)(ps:List Str)(sp:Sp):Prop where
 len:∀vs H Q E,sp vs H Q E->vs.length=ps.length
 run:∀(A:Around)(outer:List Env)(s:Shared)(H:Hp)(args:Args)(us:List Value)(vs:List V)(Q:VK)(E:XK),Room k A->Env0 P w K mg base A outer s H->BindsTo s fd args (ps.zip us)->Vals vs us->sp vs H Q E ->
  codeAny (model P w) A (.call (.ref f) args) (CR CX outer P w H s Q E) s
theorem Env0.make {P:Program}{w:World}{K:W.Frag}{mg:Str->Option Value}{base:Heap}{A:Around}{outer:List Env}{s:Shared}{H:Hp}(e:Env0 P w K mg base A outer s H)(C:Addr)(us:List Value)(kw:List (Str×Value)) :
  Env0 P w K mg base (A.under (.builtin "type.__call__" ⟨.ref C::us,kw⟩)) outer s H:=⟨by first | exact e.frames | (simpa [Around.under,Code.envs,Code.isFrame,pushEnvs] using e.frames),e.mod,e.bs,e.bsz,e.funs,e.frf,e.hok,e.bare⟩
section
variable {X:Cx}{qJ:List (Addr×Obj)}{σ:St}{H:Hp}{s s':Shared}
theorem Inv.env0 (I:Inv X qJ σ H s):Env0 X.prog X.w X.K X.mg X.base X.A X.stack s H:=
 ⟨I.ok.frames,I.ok.mod,I.bs,Ybo I.ok.bsz I.sz,I.stack,I.stkFree,I.hok,I.bare⟩
theorem Inv.after {Q:VK}{u:Value}(I:Inv X qJ σ H s)(h:CE X.stack X.prog X.w H s Q u s'):EP X qJ σ Q u s':=by
 obtain ⟨v,H',os,bare,un,hok,r,q⟩:=h;obtain ⟨hh,g,d,t,os'⟩:=s';obtain rfl:os'=s.os:=os;exact ⟨v,H',I.call (h':=hh) (g':=g) (d':=d) (t':=t) (ch:=[]) un hok bare (λb z=>absurd z (by simp)),r,q⟩
end
def Zew (sp:Sp)(dvs:List V)(E:XK)(t:TA):TE:=λσ H Q=>t σ H λvs H1=>sp (vs++dvs) H1 Q E
def ZgH (C:Addr)(m:Str)(sp:Sp)(dvs:List V)(E:XK)(ta:TE)(t:TA):TE:=λσ H Q=>ta σ H λx H1=>∃a dx fs,x=.ref a/\H1 a=some (.ins C dx fs)/\fs.lookup m=none /\
 t σ H1 λvs H2=>sp (x::(vs++dvs)) H2 Q E
def ZgI (C:Addr)(sp:Sp)(dvs:List V)(E:XK)(t:TA):TE:=λσ H Q=>t σ H λvs H1=>∀x dx,H1 x=none->H1 dx=none->dx≠x ->
 sp (.ref x::(vs++dvs)) (upd (upd H1 dx (.own x)) x (.ins C dx [])) (λv H2=>v=.non/\Q (.ref x) H2) E
def Binds (K:W.Frag)(fd:FuncData)(ps:List Str)(ds:List Value):Prop:=
 ∀(s:Shared)(us:List Value),K.In s.heap->(us++ds).length=ps.length->BindsTo s fd ⟨us,[]⟩ (ps.zip (us++ds))
theorem Binds.all {K:W.Frag}{fd:FuncData}{ps:List Str}(h:∀us:List Value,us.length=ps.length->bindArgs fd ⟨us,[]⟩=pure (ps.zip us)):Binds K fd ps []:=λs us _ hl=>by
 rw [Ydw] at hl ⊢;exact .of_eq (h us hl)
def OP (CX:CXT)(X:Cx)(E:XK):Prop:=∀(qJ:List (Addr×Obj))(σ:St)(H:Hp)(s:Shared)(e:Value)(s':Shared),Inv X qJ σ H s->CX X.stack H s E e s'->X.xe e s'
section
variable {X:Cx}{CX:CXT}{k:Nat}{f C:Addr}{fd:FuncData}{ps:List Str}{sp:Sp}{dvs:List V}{ds:List Value}{E:XK}{x m:Str}{p pos apos:Pos}{e o:Expr}{es:List Expr}{ta:TE}{t:TA}
theorem ZN {qJ:List (Addr×Obj)}{σ:St}{H:Hp}{s:Shared}{Q:VK}{us:List Value}{vs:List V}(F:G4 X.prog X.w X.K X.mg X.base CX k f fd ps sp)(hr:Room k X.A)(hb:Binds X.K fd ps ds)(hd:Vals dvs ds)(hx:OP CX X E)(I:Inv X qJ σ H s)(r:Vals vs us)(h:sp (vs++dvs) H Q E):wpAny (model X.prog X.w) X.A (call (.ref f) us) (EP X qJ σ Q) X.xe s:=by
 have r2:Vals (vs++dvs) (us++ds):=r.append hd;have hl:(us++ds).length=ps.length:=by rw [<-r2.length];exact F.len _ _ _ _ h
 refine wpAny_call (codeAny_mono (F.run X.A X.stack s H ⟨us,[]⟩ (us++ds) (vs++dvs) Q E hr I.env0 (hb s us I.kIn hl) r2 h) λr s' hq=>?_);cases r with
 | error e=>exact hx qJ σ H s e s' I hq
 | ok fl=>
  cases fl with
  | ret u=>exact I.after hq
  | next=>exact False.elim hq
  | brk=>exact False.elim hq
  | cont=>exact False.elim hq
theorem Go (F:G4 X.prog X.w X.K X.mg X.base CX k f fd ps sp)(hr:Room k X.A)(hg:Gl X x)(hm:X.mg x=some (.ref f))(hk:W.keepIn X.K (.ref f)=true)(hb:Binds X.K fd ps ds)(hd:Vals dvs ds)(hx:OP CX X E)(ha:PA X (e::es) t)(hdb:(x == ("__debug__" : Str))=false:=by decide)(he:starEach (e::es) X.env=(false,eval e X.env)::starEach es X.env:=by rfl)(hpl:(backTo pos (starEach es X.env)).any (·.1)=false:=by rfl) :
  PE X (.Call (.Name x p) (e::es) [] pos) (Zew sp dvs E t):=by
 intro qJ s σ H Q I h;refine Yfj (VL I hg hm ?_ hdb);refine W.callWith_K (h₀:=X.base) I.ok.mod.kin hk (thn (ha pos qJ s σ H _ I h) λus s1 ⟨vs,H1,I1,r,q⟩=>⟨I1.kIn,?_⟩) he hpl;exact ZN F hr hb hd hx I1 r q
theorem Zdf {pl:Sem Bool}(he:PE X o ta)(c:Cls X.K C)(hm:ZgG X.K C m f)(F:G4 X.prog X.w X.K X.mg X.base CX k f fd ps sp)(hr:Room k X.A)(hb:Binds X.K fd ps ds)(hd:Vals dvs ds)(hx:OP CX X E)(ha:PA X (e::es) t)(hst:starEach (e::es) X.env=(false,eval e X.env)::starEach es X.env:=by rfl)(hpl:(backTo pos (starEach es X.env)).any (·.1)=false:=by rfl)(ht:eval (.Call (.Attribute o m apos) (e::es) [] pos) X.env=(do
   let ov <- eval o X.env
   standAt apos.atName
   let (f,first) <- holding [ov] (getMethod ov m pl)
   callWith pos f first (backTo pos (starEach (e::es) X.env)) (backToKw pos (keywordEach [] X.env))):=by rfl) :
  PE X (.Call (.Attribute o m apos) (e::es) [] pos) (ZgH C m sp dvs E ta t):=by
 intro qJ s σ H Q I h;refine W.methodCall_KW (pl:=pl) (thn (he qJ s σ H _ I h) λu s1 ⟨x,H1,I1,rx,a,dx,fs,ex,ea,l,q⟩=>?_) ht;subst ex;obtain rfl:u=Value.ref a:=rx;refine YN I1 ea c hm l ?_;refine W.callWith_K (first:=[.ref a]) (h₀:=X.base) I.ok.mod.kin hm.kp (thn (ha pos qJ s1 σ H1 _ I1 q) λus s2 ⟨vs,H2,I2,r,q2⟩=>⟨I2.kIn,?_⟩) hst hpl;exact ZN (us:=.ref a::us) (vs:=.ref a::vs) F hr hb hd hx I2 (.cons rfl r) q2
structure Mk (K:W.Frag)(C f:Addr):Prop where
 makes:W.makesIn K C=true
 init:W.findIn K (.ref C) "__init__" = some (some (.ref f))
 fn:W.isFn K (.ref f)=true
 kp:W.keepIn K (.ref C)=true
theorem ZbA {qJ:List (Addr×Obj)}{σ:St}{H:Hp}{s:Shared}{Q:VK}{us:List Value}{vs:List V}(M:Mk X.K C f)(F:G4 X.prog X.w X.K X.mg X.base CX k f fd ps sp)(hr:Room (k+1) X.A)(hb:Binds X.K fd ps ds)(hd:Vals dvs ds)(hx:OP CX X E)(I:Inv X qJ σ H s)(r:Vals vs us)(h:∀x dx,H x=none->H dx=none->dx≠x->sp (.ref x::(vs++dvs)) (upd (upd H dx (.own x)) x (.ins C dx [])) (λv H2=>v=.non/\Q (.ref x) H2) E) :
  wpAny (model X.prog X.w) X.A (call (.ref C) us) (EP X qJ σ Q) X.xe s:=by
 have hq:=h (s.heap.objs.size+1) s.heap.objs.size (I.hok.fresh (Ydf _)) (I.hok.fresh (Yad _)) (Yav (Nat.lt_succ_self _));have I2:=Inv.made (C:=C) I;have r2:Vals (V.ref (s.heap.objs.size+1)::(vs++dvs)) (Value.ref (s.heap.objs.size+1)::(us++ds)):=.cons rfl (r.append hd);have hl:(Value.ref (s.heap.objs.size+1)::us++ds).length=ps.length:=by
  have e:=r2.length;rw [F.len _ _ _ _ hq] at e;exact e.symm
 refine wpAny_call (Zbz (f:=f) I.kIn M.makes M.init (Ybg.mp M.fn) (codeAny_mono (F.run _ X.stack _ _ ⟨Value.ref (s.heap.objs.size+1)::us,[]⟩ (Value.ref (s.heap.objs.size+1)::(us++ds)) _ _ E (hr.make C us [])
  (I2.env0.make C us []) (hb _ (Value.ref (s.heap.objs.size+1)::us) I2.kIn hl) r2 hq) λr s' hq'=>?_))
 cases r with
 | error e=>exact hx qJ σ _ _ e s' I2 hq'
 | ok fl=>
  cases fl with
  | ret u=>
   obtain ⟨v,H',I3,rv,ev,q3⟩:=I2.after hq';subst ev;exact ⟨rv,⟨V.ref (s.heap.objs.size+1),H',I3,rfl,q3⟩⟩
  | next=>exact False.elim hq'
  | brk=>exact False.elim hq'
  | cont=>exact False.elim hq'
theorem Zdg (M:Mk X.K C f)(F:G4 X.prog X.w X.K X.mg X.base CX k f fd ps sp)(hr:Room (k+1) X.A)(hg:Gl X x)(hm:X.mg x=some (.ref C))(hb:Binds X.K fd ps ds)(hd:Vals dvs ds)(hx:OP CX X E)(ha:PA X (e::es) t)(hdb:(x == ("__debug__" : Str))=false:=by decide)(he:starEach (e::es) X.env=(false,eval e X.env)::starEach es X.env:=by rfl)(hpl:(backTo pos (starEach es X.env)).any (·.1)=false:=by rfl) :
  PE X (.Call (.Name x p) (e::es) [] pos) (ZgI C sp dvs E t):=by
 intro qJ s σ H Q I h;refine Yfj (VL I hg hm ?_ hdb);refine W.callWith_K (h₀:=X.base) I.ok.mod.kin M.kp (thn (ha pos qJ s σ H _ I h) λus s1 ⟨vs,H1,I1,r,q⟩=>⟨I1.kIn,?_⟩) he hpl;exact ZbA M F hr hb hd hx I1 r q
end
def PK (X:Cx)(kws:List Keyword)(t:TA):Prop:=
 ∀(pos:Pos)(qJ:List (Addr×Obj))(s:Shared)(σ:St)(H:Hp)(Q:List V->Hp->Prop),Inv X qJ σ H s->t σ H Q->wpAny (model X.prog X.w) X.A (evalAll ((backToKw pos (keywordEach kws X.env)).map (·.2))) (AP X qJ σ Q) X.xe s
section
variable {X:Cx}{CX:CXT}{k:Nat}{f C:Addr}{fd:FuncData}{ps ks:List Str}{sp:Sp}{E:XK}{x m:Str}{p pos apos kpos:Pos}{e o:Expr}{es:List Expr}{kws:List Keyword}{te ta:TE}{t tk:TA}{nm:Option Str}
theorem ZcA:PK X [] Zev:=λ_ _ _ _ H Q I h=>wpAny_evalAll_nil ⟨[],H,I,.nil,h⟩
theorem VO (ha:PE X e te)(hr:PK X kws t):PK X (⟨nm,e,kpos⟩::kws) (ZM te t):=by
 intro pos qJ s σ H Q I h;show wpAny _ _ (evalAll ((do let v <- eval e X.env;standAt pos;pure v)::(backToKw pos (keywordEach kws X.env)).map (·.2))) _ _ s;refine wpAny_evalAll_cons (Yaa (thn (ha qJ s σ H _ I h) λu s1 ⟨x,H1,I1,r1,q1⟩=>Yaa (wpAny_standAt (Yab ?_))));exact thn (hr pos qJ s1 σ H1 _ I1 q1) λus s2 ⟨xs,H2,I2,r2,q2⟩=>⟨x::xs,H2,I2,.cons r1 r2,q2⟩
variable {g:List Value->List Value->List Value}{gV:List V->List V->List V}
end
structure Gp (N P:List Str)(sc:Scope):Prop where
 kind:sc.kind=.function
 co:sc.isCoroutine=false
 gen:sc.isGenerator=false
 nd:N.Nodup
 pre:N.take P.length=P
 par:∀x∈P,sc.names.lookup x=some .local\/sc.names.lookup x=some .cell
 nofree:∀y∈sc.names,y.2≠.free
theorem WB {kindOf:Str->Option NameKind}{x:Str}:∀{binds:List (Str×Value)}{m:Str->Option Value},(∀v,(x,v) ∉ binds)->bindL kindOf binds m x=m x
 | [],_,_=>rfl
 | (n,v)::r,m,h=>by
  unfold bindL;rw [WB λw hw=>h w (Ybb _ hw)];split
  ·have:x≠n:=by rintro rfl;exact h v Ybe
   simp [this]
  ·rfl
theorem WC {kindOf:Str->Option NameKind}{x:Str}:∀{binds:List (Str×Value)}{m:Str->Option Value},(∀v,(x,v) ∉ binds)->bindC kindOf binds m x=m x
 | [],_,_=>rfl
 | (n,v)::r,m,h=>by
  unfold bindC;rw [WC λw hw=>h w (Ybb _ hw)];split
  ·rfl
  ·have:x≠n:=by rintro rfl;exact h v Ybe
   simp [this]
theorem WD {kindOf:Str->Option NameKind}{x:Str}{v:Value}:∀{P:List Str}{vs:List Value}{i:Nat}{m:Str->Option Value},P.Nodup->P[i]?=some x->vs[i]?=some v->kindOf x=some .local ->
  bindL kindOf (P.zip vs) m x=some v
 | [],_,_,_,_,h,_,_=>by simp at h
 | _::_,[],_,_,_,_,h,_=>by simp at h
 | p::P,w::vs,0,m,nd,h1,h2,hk=>by
  simp at h1 h2;subst h1;subst h2;show bindL kindOf ((p,w)::P.zip vs) m p=_;unfold bindL;rw [WB λv hv=>(List.nodup_cons.mp nd).1 (List.of_mem_zip hv).1,if_pos hk];simp
 | p::P,w::vs,i+1,m,nd,h1,h2,hk=>by
  show bindL kindOf ((p,w)::P.zip vs) m x=_;unfold bindL;exact WD (i:=i) (List.nodup_cons.mp nd).2 (by simpa using h1) (by simpa using h2) hk
theorem WE {kindOf:Str->Option NameKind}{x:Str}{v:Value}:∀{P:List Str}{vs:List Value}{i:Nat}{m:Str->Option Value},P.Nodup->P[i]?=some x->vs[i]?=some v->kindOf x≠some .local ->
  bindC kindOf (P.zip vs) m x=some v
 | [],_,_,_,_,h,_,_=>by simp at h
 | _::_,[],_,_,_,_,h,_=>by simp at h
 | p::P,w::vs,0,m,nd,h1,h2,hk=>by
  simp at h1 h2;subst h1;subst h2;show bindC kindOf ((p,w)::P.zip vs) m p=_;unfold bindC;rw [WC λv hv=>(List.nodup_cons.mp nd).1 (List.of_mem_zip hv).1,if_neg hk];simp
 | p::P,w::vs,i+1,m,nd,h1,h2,hk=>by
  show bindC kindOf ((p,w)::P.zip vs) m x=_;unfold bindC;exact WE (i:=i) (List.nodup_cons.mp nd).2 (by simpa using h1) (by simpa using h2) hk
def start (N:List Str)(vs:List V):St:=vs.map some++List.replicate (N.length-vs.length) none
def YT (CX:CXT)(P:Program)(w:World)(K:W.Frag)(mg:Str->Option Value)(base:Heap)(N:List Str)(qual:Str)(scope:Scope)(f:Addr)(cd:Value)(A:Around)(outer:List Env)(s:Shared)(H:Hp)(E:XK):Cx where
 prog:=P
 w:=w
 K:=K
 mg:=mg
 base:=base
 A:=A.deeper (envOfC qual scope s.heap.objs.size f cd)
 N:=N
 s₀:=s
 H₀:=H
 env:=envOfC qual scope s.heap.objs.size f cd
 outer:=outer
 stack:=envOfC qual scope s.heap.objs.size f cd::outer
 ex:=[]
 calm:=true
 fn:=λ_=>true
 pn:=[]
 xe:=λe s'=>wpAny (model P w) (A.deeper (envOfC qual scope s.heap.objs.size f cd)) (leaving (envOfC qual scope s.heap.objs.size f cd) e) (λ_ s''=>CX outer H s E e s'') (λe' s''=>CX outer H s E e' s'') s'
theorem XV {sc:Scope}{n:Nat}{x:Str}(h:sc.names.lookup x=some .cell):∃c,(cellsFrom n sc.names []).lookup x=some c:=by
 have q:=W.cellsFrom_some sc.names n [] (.inl h);exact Yee.mp q
theorem ZO {CX:CXT}{P:Program}{w:World}{K:W.Frag}{mg:Str->Option Value}{base:Heap}{N ps:List Str}{qual:Str}{scope:Scope}{f:Addr}{cd:Value}{A:Around}{outer:List Env}{s s1:Shared}{H:Hp}{E:XK}{us:List Value}{vs:List V}(S:Gp N ps scope)(hd:A.handled=none)(e0:Env0 P w K mg base A outer s H)(hl:vs.length=ps.length)(r:Vals vs us)(x:InCallC s s.heap.objs.size (bindL (envOfC qual scope s.heap.objs.size f cd).kindOf (ps.zip us) λ_=>none) (cellsFrom (s.heap.objs.size+1) scope.names []) (bindC (envOfC qual scope s.heap.objs.size f cd).kindOf (ps.zip us) λ_=>none) s1) :
  Inv (YT CX P w K mg base N qual scope f cd A outer s H E) [] (start N vs) H s1:=by
 have hpl:ps.length<=N.length:=by have:=Ybc List.length S.pre;rw [Ybm] at this;lia
 obtain ⟨h1,tk,rfl,hk⟩:=x.done;have noA:∀b:Addr,b ∉ (YT CX P w K mg base N qual scope f cd A outer s H E).ex:=λb z=>absurd (show b∈([]:List Addr) from z) (by simp);refine ⟨⟨e0.mod,S.kind,rfl,rfl,Yad _,λy z c h1 h2=>?_,λy hy=>?_,λy c _ h=>?_,λ_=>hd,Around.frames_deeper e0.frames,.inr ⟨rfl,rfl⟩,λb z=>absurd z (noA b),e0.bs,e0.bsz,λb _ _=>noA b,λb z=>absurd z (noA b),e0.funs,e0.frf⟩,
  rfl,e0.bare,Un.kept hk,⟨_,x.toInCall.ns,λi y v h1 h2 h3=>?_⟩,λy c h=>⟨_,x.cell y c h⟩,e0.hok.fresh (Yad _),λy c h=>?_,λp hp=>absurd (show p∈([]:List (Addr×Obj)) from hp) (by simp),e0.hok.kept hk,?_⟩
 ·exact name_of_addr x.apart (Ydn h1) (Ydn h2)
 ·have hy:scope.names.lookup y=some .cell\/scope.names.lookup y=some .free:=hy;rcases hy with hy | hy
  ·exact XV hy
  ·exact absurd rfl (S.nofree _ (Ydn hy))
 ·exact Yed (x.above y c (Ydn h))
 ·have hi:i<vs.length:=by
   unfold start at h2;by_cases hi:i<vs.length
   ·exact hi
   ·rw [Yce (by simpa using hi)] at h2;rw [List.getElem?_replicate] at h2;split at h2 <;> cases h2
  have ha:vs[i]?=some v:=by
   unfold start at h2;rw [Yby (by simpa using hi),Yaz] at h2;cases e:vs[i]? with
   | none=>rw [e] at h2;cases h2
   | some a=>rw [e] at h2;cases h2;rfl
  obtain ⟨u,hu,rv⟩:=r.get ha;have hp:ps[i]?=some y:=by
   rw [<-S.pre,List.getElem?_take_of_lt (by lia)];exact h1
  have ndP:ps.Nodup:=by rw [<-S.pre];exact S.nd.sublist (List.take_sublist _ _)
  refine ⟨u,rv,?_⟩;rcases S.par y (Yax hp) with k | k
  ·exact .inl ⟨k,WD ndP hp hu k⟩
  ·obtain ⟨c,e⟩:=XV (n:=s.heap.objs.size+1) k;refine .inr ⟨.inl k,c,e,?_⟩;have q:=x.cell y c e;rw [WE ndP hp hu (by show scope.names.lookup y≠_;rw [k];decide)] at q;exact q
 ·exact e0.hok.fresh (Yed (x.above y c (Ydn h)))
 ·unfold start;show _=N.length;rw [Yai,Yac,List.length_replicate]
  lia
theorem ZP {CX:CXT}{P:Program}{w:World}{K:W.Frag}{mg:Str->Option Value}{base:Heap}{k:Nat}{f:Addr}{name qual:Str}{params:Arguments}{body:List Stmt}{scope:Scope}{dV kV doc pm cdv ct oc:Value}{an od:Option Addr}{osl:Array (Option Value)}{N ps:List Str}{sp:Sp}(lk:K.lookup f=some ⟨oc,od,.func (W.fnOf name qual params body scope dV kV doc pm an cdv ct),osl⟩)(hcd:W.codeIn K cdv qual=true)(S:Gp N ps scope)(len:∀vs H Q E,sp vs H Q E->vs.length=ps.length)(jX:∀(A:Around)(outer:List Env)(s:Shared)(H:Hp)(vs:List V)(Q:VK)(E:XK),Room k (A.deeper (envOfC qual scope s.heap.objs.size f cdv))->sp vs H Q E ->
   ∃t,PSs (YT CX P w K mg base N qual scope f cdv A outer s H E) body t/\t { nx:=λ_ H'=>Q .non H',rt:=Q } (start N vs) H) :
  G4 P w K mg base CX (k+1) f (W.fnOf name qual params body scope dV kV doc pm an cdv ct) ps sp:=by
 refine ⟨len,λA outer s H args us vs Q E hr e0 hb r hsp=>?_⟩;have hl:=len _ _ _ _ hsp;have KX:K.In s.heap:=e0.mod.kin.keeps λb o e=>(e0.bs b o e).1;have lim:s.heap.NoLimit:=e0.mod.nolimit.keeps λb o e=>(e0.bs b o e).1;have hkind:∀y∈ps.zip us,scope.names.lookup y.1=some .local\/(scope.names.lookup y.1=some .cell/\((cellsFrom (s.heap.objs.size+1) scope.names []).lookup y.1).isSome=true):=λ⟨n,v⟩ hy=>by
  rcases S.par n (List.of_mem_zip hy).1 with q | q
  ·exact .inl q
  ·exact .inr ⟨q,W.cellsFrom_some _ _ _ (.inl q)⟩
 refine codeAny_call_function hr.depth (KX _ _ lk) rfl S.co S.gen rfl (W.codeRec_of KX hcd) (hb _ _ _ _ ?_);refine wpAny_newFunctionEnv_cells S.kind hkind λenv he s1 x=>?_;subst he;refine ⟨lim.keeps x.toInCall.keep,codeAny_func ?_⟩;obtain ⟨t,ht,hq⟩:=jX A outer s H vs Q E (hr.deeper _) hsp;have I:Inv (YT CX P w K mg base N qual scope f cdv A outer s H E) [] (start N vs) H s1:=ZO S hr.hd e0 hl r x;refine Ybr (ht [] s1 (start N vs) H _ I hq) (λfl s' hs=>?_) λe s' hs=>hs;have fin:∀{σ':St}{H':Hp}{v:V}{u:Value},Inv (YT CX P w K mg base N qual scope f cdv A outer s H E) [] σ' H' s'->RelV v u->Q v H'->CE outer P w H s Q u s':=
  λ{σ' H' v u} J rv q=>⟨v,H',J.os,J.bare,J.base,J.hok,rv,q⟩
 cases fl with
 | ret u=>
  obtain ⟨v,σ',H',J,rv,q⟩:=hs;exact fin J rv q
 | next=>
  obtain ⟨σ',H',J,q⟩:=hs;exact fin (v:=V.non) (u:=Value.none) J rfl q
 | brk=>
  obtain ⟨_,_,_,q⟩:=hs;exact False.elim q
 | cont=>
  obtain ⟨_,_,_,q⟩:=hs;exact False.elim q
section
variable {X:Cx}{x:Str}{p pos:Pos}{e:Expr}{es:List Expr}{t:TA}{id T:String}{r:List V->Hp->VK->Prop}
def tCB (r:List V->Hp->VK->Prop)(t:TA):TE:=λσ H Q=>t σ H λvs H1=>r vs H1 Q
theorem Gk (hc:Od X (.builtin id) r)(hg:Gl X x)(hm:X.mg x=none)(hv:bootBuiltins x=some (.builtin id))(ha:PA X (e::es) t)(hn:x ≠ "__name__" := by decide)(hdb:(x == ("__debug__" : Str))=false:=by decide)(he:starEach (e::es) X.env=(false,eval e X.env)::starEach es X.env:=by rfl)(hpl:(backTo pos (starEach es X.env)).any (·.1)=false:=by rfl):PE X (.Call (.Name x p) (e::es) [] pos) (tCB r t):=by
 intro qJ s σ H Q I h;refine Yfj (UR I hg hm hv ?_ hn hdb);exact PyProof.Rows.callWith_builtin1 (thn (ha pos qJ s σ H _ I h) λus s1 ⟨vs,H1,I1,r1,q1⟩=>hc qJ s1 σ H1 vs us Q I1 r1 q1) he hpl
theorem Jj (hc:Od X (.type T) r)(hg:Gl X x)(hm:X.mg x=none)(hv:bootBuiltins x=some (.type T))(ha:PA X (e::es) t)(hn:x ≠ "__name__" := by decide)(hdb:(x == ("__debug__" : Str))=false:=by decide)(he:starEach (e::es) X.env=(false,eval e X.env)::starEach es X.env:=by rfl)(hpl:(backTo pos (starEach es X.env)).any (·.1)=false:=by rfl):PE X (.Call (.Name x p) (e::es) [] pos) (tCB r t):=by
 intro qJ s σ H Q I h;refine Yfj (UR I hg hm hv ?_ hn hdb);exact Ygf (thn (ha pos qJ s σ H _ I h) λus s1 ⟨vs,H1,I1,r1,q1⟩=>hc qJ s1 σ H1 vs us Q I1 r1 q1) he hpl
end
end L2
namespace HT
open PySem PyProof.Rows
section
open PySem.SeqAt
open PySem.AutoSeq1 (wpAny_loadPart')
open PySem.MeetsSeq PySem.MeetsSeq2 PySem.MeetsSeq3
end
section
variable {prog:Program}{w:World}{A:Around}{E:EX}{s:Shared}
def sIx (n d:Nat):Option Int->Nat
 | none=>d
 | some v=>if v<0 then (v+(n:Int)).toNat else min v.toNat n
theorem sIx_none (n d:Nat):sIx n d none=d:=rfl
theorem sIx_nat (n d k:Nat):sIx n d (some (k:Int))=min k n:=by
 show (if (k:Int)<0 then ((k:Int)+(n:Int)).toNat else min (k:Int).toNat n)=min k n;rw [if_neg (by lia),Yef]
theorem Zex (n d:Nat)(hd:d<=n)(o:Option Int):sIx n d o<=n:=by
 cases o with
 | none=>exact hd
 | some v=>
  show (if v<0 then (v+(n:Int)).toNat else min v.toNat n)<=n;by_cases hv:v<0
  ·rw [if_pos hv];lia
  ·rw [if_neg hv];exact Nat.min_le_right _ _
theorem ZQ (v:Int)(n d:Nat):(if v<0 then max (v+(n:Int)) 0 else min v (n:Int))=((sIx n d (some v):Nat):Int):=by
 show (if v<0 then max (v+(n:Int)) 0 else min v (n:Int))=(((if v<0 then (v+(n:Int)).toNat else min v.toNat n):Nat):Int);by_cases hv:v<0
 ·simp only [if_pos hv];lia
 ·simp only [if_neg hv];lia
theorem YU (lo hi:Option Int)(n:Nat):Builtin.Slice.sliceAdjust lo hi 1 (n:Int)=(((sIx n 0 lo:Nat):Int),((sIx n n hi:Nat):Int)):=by
 have h1:¬ ((1:Int)<0):=by lia
 unfold Builtin.Slice.sliceAdjust;simp only [h1,Ycu];refine Prod.ext ?_ ?_
 ·cases lo with
  | none=>rfl
  | some v=>exact ZQ v n 0
 ·cases hi with
  | none=>rfl
  | some v=>exact ZQ v n n
theorem YV (i j:Nat):Builtin.Slice.slicePlaces (i:Int) (j:Int) 1=j-i:=by
 unfold Builtin.Slice.slicePlaces;have h1:(1:Int) > 0:=by lia
 simp only [h1,if_true,Int.ediv_one];split <;> lia
theorem Vn {v:Value}{o:Option Int}{Q:Option Int->Shared->Prop}(p:IsPart v o)(h:Q o s):wpAny (model prog w) A (Builtin.Slice.slicePartIndex v) Q E s:=by
 cases p with
 | none=>exact slicePart_none h
 | int i t=>exact slicePart_int h
theorem sliceApplied_gen {sl:Addr}{vl vu:Value}{lo hi:Option Int}{n:Nat}{Q:Int×Int×Nat->Shared->Prop}(hs:s.heap.IsSliceOf sl vl vu .none)(pl:IsPart vl lo)(pu:IsPart vu hi)(h:Q (((sIx n 0 lo:Nat):Int),1,sIx n n hi-sIx n 0 lo) s):wpAny (model prog w) A (Builtin.Slice.sliceApplied (.ref sl) (pure (n:Int))) Q E s:=by
 obtain ⟨os,hos,hcs,hds⟩:=id hs;unfold Builtin.Slice.sliceApplied Builtin.Slice.sliceFields;refine Yaa (Yaa (wpAny_field hos hds (x:=vl) rfl (Yaa (wpAny_field hos hds (x:=vu) rfl (Yaa (wpAny_field hos hds (x:=.none) rfl (Yab ?_)))))));refine Yaa (slicePart_none ?_);show wpAny _ _ (if ((1:Int) == 0)=true then _ else _) _ _ s;rw [if_neg (by decide)];refine Yaa (Vn pl (Yaa (Vn pu (Yaa (Yab ?_)))));show wpAny _ _ (match Builtin.Slice.sliceAdjust lo hi 1 (n:Int) with | (lo,hi)=>pure (lo,(1:Int),Builtin.Slice.slicePlaces lo hi 1)) _ _ s;rw [YU lo hi n];show wpAny _ _ (pure (((sIx n 0 lo:Nat):Int),(1:Int),Builtin.Slice.slicePlaces ((sIx n 0 lo:Nat):Int) ((sIx n n hi:Nat):Int) 1)) _ _ s;rw [YV];exact Yab h
theorem ZbB (xs:Array Value)(i k:Nat):((List.range k).filterMap λ(m:Nat)=>xs[((i:Int)+(m:Int) * 1).toNat]?).toArray=((xs.toList.drop i).take k).toArray:=by
 have e:(λ(m:Nat)=>xs[((i:Int)+(m:Int) * 1).toNat]?)=λm=>xs[i+m]?:=by
  funext m
  have:((i:Int)+(m:Int) * 1).toNat=i+m:=by lia
  rw [this]
 rw [e];have:=pick_run xs i k;rw [List.filterMap_map] at this;have e2:((λx=>xs[x]?)∘λx=>i+x)=λm=>xs[i+m]?:=rfl;rw [e2] at this;rw [this]
theorem getItem_tuple_cut {t sl:Addr}{items:Array Value}{vl vu:Value}{lo hi:Option Int}{Q:EX}(ht:IsTup s.heap t items)(hs:s.heap.IsSliceOf sl vl vu .none)(pl:IsPart vl lo)(pu:IsPart vu hi)(hw:¬ (sIx items.size 0 lo=0/\sIx items.size items.size hi=items.size))(h:Q (.ref s.heap.objs.size) { s with heap:=s.heap.push { cls:=.type "tuple", data:=.seq ((items.toList.drop (sIx items.size 0 lo)).take (sIx items.size items.size hi-sIx items.size 0 lo)).toArray } })(hsz:items.size<=sizeLine):wpAny (model prog w) A (getItem (.ref t) (.ref sl)) Q E s:=by
 have htake:sizeOk (.seq ((items.toList.drop (sIx items.size 0 lo)).take (sIx items.size items.size hi-sIx items.size 0 lo)).toArray):=by
  show ((items.toList.drop (sIx items.size 0 lo)).take (sIx items.size items.size hi-sIx items.size 0 lo)).toArray.size<=sizeLine;rw [Yaw,Ybm,Ycl,Yan]
  lia
 have hj:sIx items.size items.size hi<=items.size:=Zex _ _ (Yad _) hi;obtain ⟨os,hos,hcs,hds⟩:=id hs;have hTs:s.TypeIs (.ref sl) "slice" := ⟨os,hos,hcs⟩;unfold getItem
 try with_reducible refine Yci ?_
 first | refine Yaa (Yab ?_) | skip
 refine Yaa (wpAny_sequenceKey ht.typeIs (by decide) ?_);refine Yaa (Yfk (name:=Str.ofString "__getitem__") ht.typeIs Ygg
  (Ycv Ygg ht.typeIs entry_tuple_getitem ?_ (args_tuple_getitem _ _)))
 show wpAny _ _ (Builtin.Tuple.tupleItemsOf (.ref t) >>= _) _ _ s;refine Yaa (tupleItemsOf_ ht ?_);refine Yaa (Ydx hTs ?_);rw [if_pos (by decide)];refine Yaa (sliceApplied_gen hs pl pu ?_);have hno:¬ ((((sIx items.size 0 lo:Nat):Int) == 0 && (1:Int) == 1 && (sIx items.size items.size hi-sIx items.size 0 lo) == items.size)=true):=by
  intro q;rw [Ycc,Ycc] at q;have q1:((sIx items.size 0 lo:Nat):Int)=0:=eq_of_beq q.1.1;have q2:sIx items.size items.size hi-sIx items.size 0 lo=items.size:=eq_of_beq q.2;exact hw ⟨by lia,by lia⟩
 show wpAny _ _ (if (((sIx items.size 0 lo:Nat):Int) == 0 && (1:Int) == 1 && (sIx items.size items.size hi-sIx items.size 0 lo) == items.size)=true then _ else _) _ _ s;rw [if_neg hno,ZbB]
 first
  | exact Yaa (m:=Builtin.Tuple.tupleExact _) (Ydy (Yab ⟨_,rfl,Yab h⟩) htake)
  | exact Yaa (m:=Builtin.Tuple.tupleExact _) (Ydy (Yaa (Yab (Yab ⟨_,rfl,Yab h⟩))) htake)
  | exact Yaa (Yaa (m:=Builtin.Tuple.tupleExact _) (Ydy (Yab (Yab ⟨_,rfl,Yab h⟩)) htake))
  | exact Yaa (Yaa (m:=Builtin.Tuple.tupleExact _) (Ydy (Yab ⟨_,rfl,Yab h⟩) htake))
end
end HT
namespace L2
open PySem PySem.Spec PyProof.Rows
abbrev TO:=St->Hp->(Option Int->Hp->Prop)->Prop
def PO (X:Cx)(e:Option Expr)(t:TO):Prop:=
 ∀(qJ:List (Addr×Obj))(s:Shared)(σ:St)(H:Hp)(Q:Option Int->Hp->Prop),Inv X qJ σ H s->t σ H Q ->
  wpAny (model X.prog X.w) X.A (evalPart e X.env) (λu s'=>∃o H',Inv X qJ σ H' s'/\IsPart u o/\Q o H') X.xe s
def Ue:TO:=λ_ H Q=>Q none H
def Zdh (t:TE):TO:=λσ H Q=>t σ H λx H1=>∃i,x=.int i/\Q (some i) H1
theorem J0 {ns:List Int}:∀{us:List Value},Vals (ns.map V.int) us->IntsAre us ns:=by
 induction ns with
 | nil=>intro us r;rw [List.map_nil] at r;cases r;exact .nil
 | cons n ns ih=>
  intro us r;rw [Yaq] at r;cases r with
  | cons r1 r2=>
   obtain ⟨t,e⟩:=r1;subst e;exact .cons n t (ih r2)
section
variable {X:Cx}{e:Expr}{te:TE}{lo hi:Option Expr}{tl th:TO}{pos p2:Pos}
theorem Jk:PO X none Ue:=by
 intro qJ s σ H Q I h;rw [evalPart_none];exact Yab ⟨none,H,I,.none,h⟩
theorem G5 (h:PE X e te):PO X (some e) (Zdh te):=by
 intro qJ s σ H Q I hw;rw [evalPart_some];refine thn (h qJ s σ H _ I hw) λu s1 ⟨x,H1,I1,r1,q1⟩=>?_;obtain ⟨i,rfl,q⟩:=q1;obtain ⟨t,rfl⟩:=r1;exact ⟨some i,H1,I1,.int i t,q⟩
def SlR (X:Cx)(r:V->Option Int->Option Int->Hp->VK->Prop):Prop:=
 ∀(qJ:List (Addr×Obj))(s:Shared)(σ:St)(H:Hp)(x:V)(v vl vu:Value)(lo hi:Option Int)(sl:Addr)(Q:VK),Inv X qJ σ H s->RelV x v->s.heap.IsSliceOf sl vl vu .none->IsPart vl lo->IsPart vu hi->r x lo hi H Q ->
  ∃T id,typeLookup (.type T) "__getitem__" = pure (some (.builtin id))/\s.TypeIs v T/\wpAny (model X.prog X.w) X.A (getItem v (.ref sl)) (EP X qJ σ Q) X.xe s
def tSl (r:V->Option Int->Option Int->Hp->VK->Prop)(te:TE)(tl th:TO):TE:=λσ H Q=>te σ H λx H1=>tl σ H1 λl H2=>th σ H2 λu H3=>r x l u H3 Q
theorem GQ {r:V->Option Int->Option Int->Hp->VK->Prop}(hr:SlR X r)(he:PE X e te)(hl:PO X lo tl)(hu:PO X hi th):PE X (.Subscript e (.Slice lo hi none p2) pos) (tSl r te tl th):=by
 intro qJ s σ H Q I h;refine Subscript_ (thn (he qJ s σ H _ I h) λv s1 ⟨x,H1,I1,r1,q1⟩=>?_);refine wpAny_Slice (thn (hl qJ s1 σ H1 _ I1 q1) λvl s2 ⟨l,H2,I2,pl,q2⟩=>thn (hu qJ s2 σ H2 _ I2 q2) λvu s3 ⟨u,H3,I3,pu,q3⟩=>?_);rw [evalPart_none];refine Yab ?_;have I4:Inv X qJ σ H3 { s3 with heap:=s3.heap.push { cls:=.type "slice", data:=.fields #[vl,vu,.none] } }:=I3.kept (t':=s3.toks) λb ob q=>Yal _ q;obtain ⟨T,id,hT,ht,hg⟩:=hr qJ { s3 with heap:=s3.heap.push { cls:=.type "slice", data:=.fields #[vl,vu,.none] } } σ H3 x v vl vu l u s3.heap.objs.size Q I4 r1 (Heap.IsSliceOf.new ..) pl pu q3;show wpAny (model X.prog X.w) X.A (subscriptTail e (.Slice lo hi none p2) v (.ref s3.heap.objs.size)) (EP X qJ σ Q) X.xe { s3 with heap:=s3.heap.push { cls:=.type "slice", data:=.fields #[vl,vu,.none] } };exact tail_any (ops:=[.ref s3.heap.objs.size,v]) ht hT hg (by with_unfolding_all rfl)
def Uf (xs:List V)(lo hi:Option Int):List V:=(xs.drop (HT.sIx xs.length 0 lo)).take (HT.sIx xs.length xs.length hi-HT.sIx xs.length 0 lo)
theorem UW (xs:List V)(lo hi:Option Int):(Uf xs lo hi).length<=xs.length:=by
 unfold Uf;rw [Ybm,Ycl]
 lia
def Zhl (K:W.Frag):V->Option Int->Option Int->Hp->VK->Prop:=λx lo hi H Q=>∃a xs,x=.ref a/\SqT K H a xs /\
 ¬ (HT.sIx xs.length 0 lo=0/\HT.sIx xs.length xs.length hi=xs.length)/\∀p,H p=none->Q (.ref p) (upd H p (.tup (Uf xs lo hi)))
theorem ZcB:SlR X (Zhl X.K):=by
 intro qJ s σ H x v vl vu lo hi sl Q I rx hs pl pu h;obtain ⟨a,xs,rfl,hx,hw,q⟩:=h;cases rx;obtain ⟨its,r,ht,hz⟩:=I.tuple hx;have qW:its.toArray.size=xs.length:=by rw [Yaw];exact r.length.symm
 refine ⟨"tuple", _,PyProof.Rows.slot_tuple_getitem.lookup,ht.typeIs,?_⟩;refine HT.getItem_tuple_cut ht hs pl pu (by rw [qW];exact hw) ?_ (by rw [qW];exact hz);rw [qW];refine ⟨.ref s.heap.objs.size,_,I.laid (t':=s.toks) (o:=.tup (Uf xs lo hi)) (λb ob q=>Yal _ q) (Yad _) ?_,rfl,q _ (I.hok.fresh (Yad _))⟩;exact ⟨Ybo (UW xs lo hi) hz,_,(r.drop (HT.sIx xs.length 0 lo)).take (HT.sIx xs.length xs.length hi-HT.sIx xs.length 0 lo),IsTup.new _ _⟩
end
def ixN (n:Nat)(i:Int):Option Nat:=if 0<=i then (if i<n then some i.toNat else none) else if -(n:Int)<=i then some (i+n).toNat else none
def atI {α:Type}(xs:List α)(i:Int):Option α:=(ixN xs.length i).bind λj=>xs[j]?
theorem Zdi {n:Nat}{i:Int}{j:Nat}(h:ixN n i=some j):seqIndex? i n=some j/\j<n/\-(n:Int)<=i/\i<n:=by
 unfold ixN at h;by_cases h0:0<=i
 ·rw [if_pos h0] at h;by_cases h1:i<n
  ·rw [if_pos h1] at h;have e:i.toNat=j:=Ybl h;exact ⟨by rw [seqIndex_of h0 h1,e],by lia,by lia,h1⟩
  ·rw [if_neg h1] at h;cases h
 ·rw [if_neg h0] at h;by_cases h1:-(n:Int)<=i
  ·rw [if_pos h1] at h;have e:(i+n).toNat=j:=Ybl h;exact ⟨by rw [seqIndex_neg (by lia) h1,e],by lia,h1,by lia⟩
  ·rw [if_neg h1] at h;cases h
theorem ZR {α:Type}{xs:List α}{i:Int}{v:α}(h:atI xs i=some v):∃j,seqIndex? i xs.length=some j/\xs[j]?=some v/\j<xs.length/\-(xs.length:Int)<=i/\i<xs.length:=by
 unfold atI at h;cases e:ixN xs.length i with
 | none=>rw [e] at h;cases h
 | some j=>
  rw [e] at h;obtain ⟨h1,h2,h3,h4⟩:=Zdi e;exact ⟨j,h1,h,h2,h3,h4⟩
theorem GB {α:Type}{xs:List α}{j:Nat}{v:α}(h:xs[j]?=some v):atI xs (j:Int)=some v:=by
 have hj:j<xs.length:=(Yao.mp h).1;have e:ixN xs.length (j:Int)=some j:=by
  unfold ixN;rw [if_pos (by lia),if_pos (by lia)];simp
 unfold atI;rw [e];exact h
def Zdj (b:Expr):Prop:=∀o i,subscripted b false o i=operate [o,i] (getItem o i)
def IxR (X:Cx)(r:R2):Prop:=
 ∀(value slice:Expr)(qJ:List (Addr×Obj))(s:Shared)(σ:St)(H:Hp)(x y:V)(v u:Value)(Q:VK),Inv X qJ σ H s->RelV x v->RelV y u->r x y H Q ->
  subscripted slice false v u=operate [v,u] (getItem v u)->wpAny (model X.prog X.w) X.A (subscriptTail value slice v u) (EP X qJ σ Q) X.xe s
def MtR (X:Cx)(id:String)(r:V->List V->Hp->VK->Prop):Prop:=
 ∀(qJ:List (Addr×Obj))(s:Shared)(σ:St)(H:Hp)(x:V)(xs:List V)(v:Value)(us:List Value)(Q:VK),Inv X qJ σ H s->RelV x v->Vals xs us->r x xs H Q ->
  wpAny (model X.prog X.w) X.A (call (.builtin id) (v::us)) (EP X qJ σ Q) X.xe s
section
variable {X:Cx}{a b:Expr}{ta tb:TE}{pos:Pos}
theorem GV {r:R2}(hr:IxR X r)(ha:PE X a ta)(hb:PE X b tb)(hs:Zdj b):PE X (.Subscript a b pos) (tOp r ta tb):=by
 intro qJ s σ H Q I h;exact Subscript_ (ZgA ha hb I h λv u s2 x y H2 I2 rx ry q=>hr a b qJ s2 σ H2 x y v u Q I2 rx ry q (hs _ _))
def Zhm (K:W.Frag):R2:=λx y H Q=>∃p xs i v,x=.ref p/\y=.int i/\SqL K H p xs/\atI xs i=some v/\Q v H
def Zhn (K:W.Frag):R2:=λx y H Q=>∃p xs i v,x=.ref p/\y=.int i/\SqT K H p xs/\atI xs i=some v/\Q v H
theorem Zdk:IxR X (Zhm X.K):=by
 intro value slice qJ s σ H x y v u Q I rx ry h hs;obtain ⟨p,xs,i,z,rfl,rfl,hq,he,q⟩:=h;cases rx;obtain ⟨t,rfl⟩:=ry;obtain ⟨its,r,pl,hz⟩:=I.list hq;obtain ⟨j,h1,h2,h3,h4,h5⟩:=ZR he;obtain ⟨w,ew,rw'⟩:=r.get h2;have hl:=r.length;have hn:=XU;have fin:EP X qJ σ Q w s:=⟨z,H,I,rw',q⟩;by_cases h0:0<=i
 ·have hj:i.toNat=j:=by
   rw [seqIndex_of h0 h5] at h1;exact Ybl h1
  exact item_listR pl.isList h0 (by lia) (by rw [hj];simpa using ew) fin hs
 ·have hj:(i+(its.toArray.size:Int)).toNat=j:=by
   rw [seqIndex_neg (by lia) h4] at h1;rw [Yaw,<-hl];exact Ybl h1
  exact subscriptTail_builtinR (x:=w) pl.isList.typeIs slot_list_getitem.lookup
   (wpAny_getItem_list_neg (Q:=λr s'=>r=w/\EP X qJ σ Q r s') pl.isList (by lia) (by rw [Yaw] <;> lia) (by lia) (by rw [hj];simpa using ew) ⟨rfl,fin⟩) hs
theorem Zey:IxR X (Zhn X.K):=by
 intro value slice qJ s σ H x y v u Q I rx ry h hs;obtain ⟨p,xs,i,z,rfl,rfl,hq,he,q⟩:=h;cases rx;obtain ⟨t,rfl⟩:=ry;obtain ⟨its,r,pl,hz⟩:=I.tuple hq;obtain ⟨j,h1,h2,h3,h4,h5⟩:=ZR he;obtain ⟨w,ew,rw'⟩:=r.get h2;have hl:=r.length;have hn:=XU;have fin:EP X qJ σ Q w s:=⟨z,H,I,rw',q⟩;exact subscriptTail_builtinR (x:=w) pl.typeIs slot_tuple_getitem.lookup
  (getItem_tuple (j:=j) (Q:=λr s'=>r=w/\EP X qJ σ Q r s') pl (by lia) (by lia) (by rw [Yaw,<-hl];exact h1) (by simpa using ew) ⟨rfl,fin⟩) hs
theorem WF (lo hi:Option Int)(n:Nat):(sliceBounds lo hi none n).1=((HT.sIx n 0 lo:Nat):Int)/\(sliceBounds lo hi none n).2.1=((HT.sIx n n hi:Nat):Int)/\(sliceBounds lo hi none n).2.2=1:=by
 refine ⟨?_,?_,rfl⟩
 ·cases lo with
  | none=>simp [sliceBounds,HT.sIx]
  | some i=>
   simp only [sliceBounds,HT.sIx,Option.getD_none,show (1:Int) > 0 by decide,if_true];by_cases h:i<0
   ·simp only [h,if_true] <;> lia
   ·simp only [h,Ycu] <;> lia
 ·cases hi with
  | none=>simp [sliceBounds,HT.sIx]
  | some i=>
   simp only [sliceBounds,HT.sIx,Option.getD_none,show (1:Int) > 0 by decide,if_true];by_cases h:i<0
   ·simp only [h,if_true] <;> lia
   ·simp only [h,Ycu] <;> lia
theorem VP (its:List Value)(lo hi:Option Int):slicePick its.toArray lo hi none=((its.drop (HT.sIx its.length 0 lo)).take (HT.sIx its.length its.length hi-HT.sIx its.length 0 lo)).toArray:=by
 obtain ⟨h1,h2,h3⟩:=WF lo hi its.toArray.size;unfold slicePick;rw [h1,h2,h3];simp only [sliceRange_one,pick_run,Yaw] <;> rfl
def Zf9 (K:W.Frag):V->Option Int->Option Int->Hp->VK->Prop:=λx lo hi H Q=>∃a xs,x=.ref a/\SqL K H a xs/\∀p,H p=none->Q (.ref p) (upd H p (.lst (Uf xs lo hi)))
theorem Zdl:SlR X (Zf9 X.K):=by
 intro qJ s σ H x v vl vu lo hi sl Q I rx hs pl pu h;obtain ⟨a,xs,rfl,hx,q⟩:=h;cases rx;obtain ⟨its,r,ht,hz⟩:=I.list hx;have qW:=r.length;refine ⟨"list", _,slot_list_getitem.lookup,ht.isList.typeIs,?_⟩;refine wpAny_getItem_list_slice ht.isList hs pl pu .none (by simp) ?_ (by rw [Yaw] <;> lia);rw [VP,<-qW];refine ⟨.ref s.heap.objs.size,_,I.laid (t':=s.toks) (o:=.lst (Uf xs lo hi)) (λb ob q=>Yal _ q) (Yad _) ?_,rfl,q _ (I.hok.fresh (Yad _))⟩;exact ⟨Ybo (UW xs lo hi) hz,_,0,(r.drop (HT.sIx xs.length 0 lo)).take (HT.sIx xs.length xs.length hi-HT.sIx xs.length 0 lo),Ybh _ rfl⟩
def VQ:V->Bool
 | .non=>true
 | .bl _=>true
 | .int _=>true
 | .str _=>true
 | _=>false
def eqV:V->V->Bool
 | .non,.non=>true
 | .bl a,.bl b=>a == b
 | .bl a,.int b=>(if a then 1 else 0) == b
 | .int a,.bl b=>a == (if b then 1 else 0)
 | .int a,.int b=>a == b
 | .str a,.str b=>a == b
 | _,_=>false
theorem Zez {A:Around}{s:Shared}{y x:V}{u v:Value}(ry:RelV y u)(rx:RelV x v)(fy:VQ y=true)(fx:VQ x=true):SeqAt.EqAt A s u v (eqV y x):=by
 cases y with
 | non=>
  cases ry;cases x with
  | non=>cases rx;exact SeqAt.EqAt.same _
  | bl b=>cases rx;exact SeqAt.EqAt.none_bool b
  | int b=>obtain ⟨t,rfl⟩:=rx;exact SeqAt.EqAt.none_int b t
  | str b=>obtain ⟨t,rfl⟩:=rx;exact SeqAt.EqAt.none_str b t
  | _=>exact absurd (show false=true from fx) Yam
 | bl a=>
  cases ry;cases x with
  | non=>cases rx;exact SeqAt.EqAt.bool_none a
  | bl b=>cases rx;exact SeqAt.EqAt.bool_bool a b
  | int b=>obtain ⟨t,rfl⟩:=rx;exact SeqAt.EqAt.bool_int a b t
  | str b=>obtain ⟨t,rfl⟩:=rx;exact SeqAt.EqAt.bool_str a b t
  | _=>exact absurd (show false=true from fx) Yam
 | int a=>
  obtain ⟨t',rfl⟩:=ry;cases x with
  | non=>cases rx;exact SeqAt.EqAt.int_none a t'
  | bl b=>cases rx;exact SeqAt.EqAt.int_bool a t' b
  | int b=>obtain ⟨t,rfl⟩:=rx;exact SeqAt.EqAt.int_int a t' b t
  | str b=>obtain ⟨t,rfl⟩:=rx;exact SeqAt.EqAt.int_str a t' b t
  | _=>exact absurd (show false=true from fx) Yam
 | str a=>
  obtain ⟨t',rfl⟩:=ry;cases x with
  | non=>cases rx;exact SeqAt.EqAt.str_none a t'
  | bl b=>cases rx;exact SeqAt.EqAt.str_bool a t' b
  | int b=>obtain ⟨t,rfl⟩:=rx;exact SeqAt.EqAt.str_int a t' b t
  | str b=>obtain ⟨t,rfl⟩:=rx;exact SeqAt.EqAt.str_str a t' b t
  | _=>exact absurd (show false=true from fx) Yam
 | _=>exact absurd (show false=true from fy) Yam
def eqU (x:V)(u:Value):Bool:=match u with
 | .none=>eqV .non x
 | .bool b=>eqV (.bl b) x
 | .int i _=>eqV (.int i) x
 | .str z _=>eqV (.str z) x
 | _=>false
theorem ZcC {x y:V}{u:Value}(r:RelV y u)(f:VQ y=true):eqU x u=eqV y x:=by
 cases y with
 | non=>cases r;rfl
 | bl b=>cases r;rfl
 | int i=>obtain ⟨t,rfl⟩:=r;rfl
 | str z=>obtain ⟨t,rfl⟩:=r;rfl
 | _=>exact absurd (show false=true from f) Yam
theorem Xp {x:V}:∀{xs:List V}{us:List Value},Vals xs us->xs.all VQ=true->us.any (eqU x)=xs.any λy=>eqV y x
 | _,_,.nil,_=>rfl
 | y::xs,u::us,.cons r t,f=>by
  rw [List.all_cons,Ycc] at f;rw [List.any_cons,List.any_cons,ZcC r f.1,Xp t f.2]
theorem VR {A:Around}{s:Shared}{x:V}{v:Value}(rx:RelV x v)(fx:VQ x=true):∀{xs:List V}{us:List Value},Vals xs us->xs.all VQ=true->∀u∈us,SeqAt.EqAt A s u v (eqU x u)
 | _,_,.nil,_=>λu hu=>by cases hu
 | y::xs,u::us,.cons r t,f=>λu' hu=>by
  rw [List.all_cons,Ycc] at f;rcases Yas.mp hu with rfl | hu
  ·rw [ZcC r f.1];exact Zez r rx f.1 fx
  ·exact VR rx fx t f.2 u' hu
def inV (x:V)(xs:List V):Bool:=xs.any λy=>eqV y x
def rIn (K:W.Frag)(neg:Bool):R2:=λx y H Q=>∃p xs,y=.ref p/\(SqL K H p xs\/SqT K H p xs)/\VQ x=true/\xs.all VQ=true/\Q (.bl (if neg then !inV x xs else inV x xs)) H
theorem ZS:OpR X (compareOp .In) (rIn X.K false):=by
 intro qJ s σ H x y v u Q I rx ry h;obtain ⟨p,xs,rfl,hq,fx,fs,q⟩:=h;cases ry;rcases hq with hq | hq
 ·obtain ⟨its,r,pl,hz⟩:=I.list hq;refine SeqAt.in_listAt (eqU x) pl.isList (λw hw=>VR rx fx r fs w (by simpa using hw)) ⟨.bl _,H,I,rfl,?_⟩;rw [show its.toArray.any (eqU x)=its.any (eqU x) by simp,Xp r fs];exact q
 ·obtain ⟨its,r,pl,hz⟩:=I.tuple hq;refine SeqAt.in_tupleAt (eqU x) pl (λw hw=>VR rx fx r fs w (by simpa using hw)) ⟨.bl _,H,I,rfl,?_⟩;rw [show its.toArray.any (eqU x)=its.any (eqU x) by simp,Xp r fs];exact q
theorem WG:Od X (.builtin "len") (λxs H Q=>∃p ys,xs=[.ref p]/\(SqL X.K H p ys\/SqT X.K H p ys)/\Q (.int ys.length) H):=by
 intro qJ s σ H xs us Q I r h;obtain ⟨p,ys,rfl,hq,q⟩:=h;obtain ⟨u,rfl,rx⟩:=Zdb r;cases rx;have hn:=XU;rcases hq with hq | hq
 ·obtain ⟨its,r',pl,hz⟩:=I.list hq;have qW:=r'.length;exact Calls.call_len_list pl.isList (by simp only [Yaw] <;> lia) ⟨.int ys.length,H,I.tok _,⟨s.toks+1,by rw [Yaw,qW]⟩,q⟩
 ·obtain ⟨its,r',pl,hz⟩:=I.tuple hq;have qW:=r'.length;exact len_tuple pl (by simp only [Yaw] <;> lia) ⟨.int ys.length,H,I.tok _,⟨s.toks+1,by rw [Yaw,qW]⟩,q⟩
theorem WH:Od X (.type "list") (λxs H Q=>∃p ys,xs=[.ref p]/\(SqL X.K H p ys\/SqT X.K H p ys)/\∀l,H l=none->Q (.ref l) (upd H l (.lst ys))):=by
 intro qJ s σ H xs us Q I r h;obtain ⟨p,ys,rfl,hq,q⟩:=h;obtain ⟨u,rfl,rx⟩:=Zdb r;cases rx;have fin:∀(its:List Value),Vals ys its->ys.length<=sizeLine->∀(h':Heap)(c':Nat),(∀b o',s.heap.get? b=some o'->h'.get? b=some o') ->
   h'.get? s.heap.objs.size=some { cls:=.type "list", dict:=none,data:=.seq its.toArray c',slots:=#[] }->EP X qJ σ Q (.ref s.heap.objs.size) { s with heap:=h' }:=λits r' hz h' c' kp e=>
  ⟨.ref s.heap.objs.size,_,I.laid (t':=s.toks) kp (Yad _) (show ObjOk X.prog X.w _ h' _ (.lst ys) from ⟨hz,its,c',r',e⟩),rfl,q _ (I.hok.fresh (Yad _))⟩
 rcases hq with hq | hq
 ·obtain ⟨its,r',pl,hz⟩:=I.list hq;have qW:=r'.length;obtain ⟨o,ho,hc,n,hd⟩:=pl.isList;exact call_list_seq p (.inl rfl) ho hc hd (λh' c' kp e=>fin its r' hz h' c' kp e) (by simp only [Yaw] <;> lia)
 ·obtain ⟨its,r',pl,hz⟩:=I.tuple hq;have qW:=r'.length;obtain ⟨o,ho,hc,n,hd⟩:=pl;exact call_list_seq p (.inr rfl) ho hc hd (λh' c' kp e=>fin its r' hz h' c' kp e) (by simp only [Yaw] <;> lia)
theorem VS:Od X (.type "tuple") (λxs H Q=>∃p ys,xs=[.ref p]/\((SqL X.K H p ys/\∀l,H l=none->Q (.ref l) (upd H l (.tup ys)))\/(SqT X.K H p ys/\Q (.ref p) H))):=by
 intro qJ s σ H xs us Q I r h;obtain ⟨p,ys,rfl,h⟩:=h;obtain ⟨u,rfl,rx⟩:=Zdb r;cases rx;rcases h with ⟨hq,q⟩ | ⟨hq,q⟩
 ·obtain ⟨its,r',pl,hz⟩:=I.list hq;have qW:=r'.length;refine call_tuple_list pl.isList (λh' kp=>?_) (by simp only [Yaw] <;> lia);have I1:Inv X qJ σ H { s with heap:=h' }:=I.kept (t':=s.toks) kp;have I2:Inv X qJ σ (upd H h'.objs.size (.tup ys)) { s with heap:=h'.push { cls:=.type "tuple", data:=.seq its.toArray } }:=
   I1.laid (t':=s.toks) (λb o e=>Yal _ e) (Yad _) (show ObjOk X.prog X.w _ _ _ (.tup ys) from ⟨hz,its,r',IsTup.new _ _⟩)
  exact ⟨.ref h'.objs.size,_,I2,rfl,q _ (I1.hok.fresh (Yad _))⟩
 ·obtain ⟨its,r',pl,hz⟩:=I.tuple hq;exact call_tuple_same pl ⟨.ref p,H,I,rfl,q⟩
def tyV (K:W.Frag)(T:String)(x:V)(H:Hp):Prop:=match x with
 | .str _=>T = "str"
 | .int _=>T = "int"
 | .ref p=>(T = "list" /\ ∃xs,SqL K H p xs)\/(T = "tuple" /\ ∃o,K.lookup p=some o/\o.cls=.type "tuple" /\ o.dict=none) \/
   (T = "dict" /\ ((∃kvs,H p=some (.dK kvs))\/∃kvs,H p=some (.dT kvs)))\/(T = "set" /\ ∃S n,H p=some (.set S n))
 | _=>False
theorem ZcD {qJ:List (Addr×Obj)}{σ:St}{H:Hp}{s:Shared}{T:String}{x:V}{v:Value}(I:Inv X qJ σ H s)(r:RelV x v)(ty:tyV X.K T x H) :
  s.TypeIs v T/\∀a,v=.ref a->∃ob,s.heap.get? a=some ob/\ob.dict=none:=by
 cases x with
 | str z=>
  obtain ⟨t,rfl⟩:=r;cases (show T = "str" from ty);exact ⟨typeIs_str s z t,λ_ e=>nomatch e⟩
 | int i=>
  obtain ⟨t,rfl⟩:=r;cases (show T = "int" from ty);exact ⟨typeIs_int s i t,λ_ e=>nomatch e⟩
 | ref p=>
  cases r;rcases ty with ⟨rfl,xs,hq⟩ | ⟨rfl,o,hk,hc,hd⟩ | ⟨rfl,hk⟩ | ⟨rfl,S,n,hk⟩
  ·obtain ⟨its,_,pl,_⟩:=I.list hq;refine ⟨pl.isList.typeIs,λa e=>?_⟩;cases e;obtain ⟨o,n,e,c,hd,_⟩:=pl;exact ⟨o,e,hd⟩
  ·refine ⟨⟨o,I.kIn p o hk,hc⟩,λa e=>?_⟩;cases e;exact ⟨o,I.kIn _ o hk,hd⟩
  ·have z:∃o,s.heap.get? p=some o/\o.ExactDict:=by
    rcases hk with ⟨kvs,hk⟩ | ⟨kvs,hk⟩
    ·obtain ⟨_,_,_,_,o,_,_,e,ex,_⟩:=I.hok p _ hk;exact ⟨o,e,ex⟩
    ·obtain ⟨_,_,_,_,o,_,_,e,ex,_⟩:=I.hok p _ hk;exact ⟨o,e,ex⟩
   obtain ⟨o,e,ex⟩:=z;refine ⟨⟨o,e,ex.1⟩,λa e2=>?_⟩;cases e2;exact ⟨o,e,ex.2.1⟩
  ·obtain ⟨o,_,_,_,e,ex,_⟩:=I.hok p _ hk;refine ⟨⟨o,e,ex.1⟩,λa e2=>?_⟩;cases e2;exact ⟨o,e,ex.2.1⟩
 | _=>exact False.elim ty
def ZhK (K:W.Frag)(T:String)(r:V->List V->Hp->VK->Prop)(to:TE):TE:=λσ H Q=>to σ H λx H1=>tyV K T x H1/\r x [] H1 Q
def tBM (K:W.Frag)(T:String)(r:V->List V->Hp->VK->Prop)(to:TE)(t:TA):TE:=λσ H Q=>to σ H λx H1=>tyV K T x H1/\t σ H1 λxs H2=>r x xs H2 Q
variable {o e:Expr}{es:List Expr}{to:TE}{t:TA}{name:Str}{apos jQ:Pos}{T id:String}{r:V->List V->Hp->VK->Prop}
theorem ZeA (pa:PlainAttrs T)(slot:Slot T name id)(hty:typeOf (.builtin id)=pure (.type "method_descriptor"))(hm:MtR X id r)(ho:PE X o to)(hbase:attributeBase o name X.env (eval o X.env)=eval o X.env:=by rfl)(hline:(apos.endLine == jQ.line)=true:=by rfl):PE X (.Call (.Attribute o name apos) [] [] jQ) (ZhK X.K T r to):=by
 intro qJ s σ H Q I h;refine wpAny_Call_method0_late hbase hline (thn (ho qJ s σ H _ I h) λv s1 ⟨x,H1,I1,r1,ty,q1⟩=>?_);obtain ⟨h1,h2⟩:=ZcD I1 r1 ty;exact ⟨T,id,pa,slot,hty,h1,h2,Calls.callWith_builtin rfl (PySem.evalArgs_none (hm qJ s1 σ H1 x [] v [] Q I1 r1 .nil q1))⟩
theorem Ug (pa:PlainAttrs T)(slot:Slot T name id)(hty:typeOf (.builtin id)=pure (.type "method_descriptor"))(hm:MtR X id r)(ho:PE X o to)(ha:PA X (e::es) t)(hbase:attributeBase o name X.env (eval o X.env)=eval o X.env:=by rfl)(hfew:((backTo jQ (starEach (e::es) X.env)).all (λx=>!x.1) && (backToKw jQ (keywordEach [] X.env)).all (λx=>x.1.isSome)
   && decide ((e::es).length+([]:List Keyword).length+(if ([]:List Keyword).isEmpty then 0 else 1)<30))=true:=by rfl)(hline:(apos.endLine == jQ.line)=true:=by rfl)(hs:starEach (e::es) X.env=(false,eval e X.env)::starEach es X.env:=by rfl)(hplain:(backTo jQ (starEach es X.env)).any (·.1)=false:=by rfl) :
  PE X (.Call (.Attribute o name apos) (e::es) [] jQ) (tBM X.K T r to t):=by
 intro qJ s σ H Q I h;refine wpAny_Call_method_late hbase hfew hline rfl (thn (ho qJ s σ H _ I h) λv s1 ⟨x,H1,I1,r1,ty,q1⟩=>?_);obtain ⟨h1,h2⟩:=ZcD I1 r1 ty;refine ⟨T,id,pa,slot,hty,h1,h2,?_⟩;have hA:=ha jQ qJ s1 σ H1 _ I1 q1;rw [hs] at hA ⊢;refine Calls.callWith_builtin (by show (false || (backTo jQ (starEach es X.env)).any (·.1))=false;rw [hplain] <;> rfl) (Calls.evalArgs_plain ?_);exact thn hA λus s2 ⟨vs,H2,I2,r2,q2⟩=>hm qJ s2 σ H2 x vs v us Q I2 r1 r2 q2
end
def MtM (X:Cx)(id:String)(r:V->List V->Hp->VK->Prop):Prop:=
 ∀(qJ:List (Addr×Obj))(s:Shared)(σ:St)(H:Hp)(x:V)(xs:List V)(v:Value)(us:List Value)(Q:VK),Inv X qJ σ H s->RelV x v->Vals xs us->r x xs H Q ->
  wpAny (model X.prog X.w) X.A (call (.builtin id) (v::us)) (EP X qJ σ Q) X.xe s
theorem Vals.one:∀{x:V}{us:List Value},Vals [x] us->∃u,us=[u]/\RelV x u
 | _,_,.cons r .nil=>⟨_,rfl,r⟩
theorem Vals.two:∀{x y:V}{us:List Value},Vals [x,y] us->∃u v,us=[u,v]/\RelV x u/\RelV y v
 | _,_,_,.cons r (.cons q .nil)=>⟨_,_,rfl,r,q⟩
theorem Vals.zero:∀{us:List Value},Vals [] us->us=[]
 | _,.nil=>rfl
theorem Vals.dropLast {xs:List V}{us:List Value}(h:Vals xs us):Vals xs.dropLast us.dropLast:=by
 induction h with
 | nil=>exact .nil
 | cons r t ih=>
  cases t with
  | nil=>exact .nil
  | cons q t'=>exact .cons r ih
theorem Vals.reverse {xs:List V}{us:List Value}(h:Vals xs us):Vals xs.reverse us.reverse:=by
 induction h with
 | nil=>exact .nil
 | cons r t ih=>rw [List.reverse_cons,List.reverse_cons];exact Vals.append ih (.cons r .nil)
theorem Vals.rep {xs:List V}{us:List Value}(h:Vals xs us):∀k:Nat,Vals (List.replicate k xs).flatten (List.replicate k us).flatten
 | 0=>.nil
 | k+1=>by
  rw [Yfz,Yfz,List.flatten_cons,List.flatten_cons];exact Vals.append h (Vals.rep h k)
theorem YW {α:Type}(l:List α):l.eraseIdx (l.length-1)=l.dropLast:=by
 induction l with
 | nil=>rfl
 | cons a r ih=>
  cases r with
  | nil=>rfl
  | cons b r=>
   have e:(a::b::r).length-1=((b::r).length-1)+1:=by
    have h1:(a::b::r).length=r.length+2:=rfl;have h2:(b::r).length=r.length+1:=rfl
    lia
   rw [e,List.eraseIdx_cons_succ,ih]
   all_goals rfl
theorem WI (its:List Value):∀(k:Nat)(acc:List Value),
  List.foldl (λx1 x2=>x1++x2) acc.toArray (List.replicate k its.toArray)=(acc++(List.replicate k its).flatten).toArray
 | 0,acc=>by simp
 | k+1,acc=>by
  have e:acc.toArray++its.toArray=(acc++its).toArray:=by simp
  have e2:(acc++its)++(List.replicate k its).flatten=acc++(List.replicate (k+1) its).flatten:=by
   rw [Yfz,List.flatten_cons,Ybs]
  rw [<-e2,<-WI its k (acc++its),<-e,Yfz,List.foldl_cons]
section
variable {X:Cx}{qJ:List (Addr×Obj)}{σ:St}{H:Hp}{s:Shared}{l b:Addr}{xs ys zs:List V}
theorem Inv.lset {its its':List Value}{n:Nat}{f:Array Value->Array Value}{t':Nat}(I:Inv X qJ σ H s)(hH:H l=some (.lst xs))(e:s.heap.get? l=some { cls:=.type "list", data:=.seq its.toArray n })(hf:f its.toArray=its'.toArray)(hv:Vals ys its')(hz:ys.length<=sizeLine) :
  Inv X qJ σ (upd H l (.lst ys)) { s with heap:=s.heap.update l (Obj.mapSeq f),toks:=t' }:=by
 have q:=PySem.IsL.update e f;rw [hf] at q;refine I.write (x:=l) (e:=l) (by rw [hH];exact trivial) (.inl rfl) (λb' u hb hu=>(Ycm s.heap (Obj.mapSeq f) (Ne.symm hb)).trans hu) ⟨_,q⟩ ?_;exact ⟨hz,its',_,hv,q⟩
theorem Inv.lnew {its:List Value}{t':Nat}(I:Inv X qJ σ H s)(hv:Vals ys its)(hz:ys.length<=sizeLine) :
  Inv X qJ σ (upd H s.heap.objs.size (.lst ys)) { s with heap:=s.heap.push { cls:=.type "list", data:=.seq its.toArray },toks:=t' }:=
 I.laid (λ_ _ q=>Yal _ q) (Yad _) ⟨hz,its,0,hv,Ybh _ rfl⟩
theorem Inv.fresh (I:Inv X qJ σ H s):H s.heap.objs.size=none:=I.hok.fresh (Yad _)
theorem Inv.lstM (I:Inv X qJ σ H s)(hH:H l=some (.lst xs)):xs.length<=sizeLine/\∃(its:List Value)(n:Nat),Vals xs its/\xs.length=its.length/\s.heap.get? l=some { cls:=.type "list", data:=.seq its.toArray n }:=by
 obtain ⟨z,its,n,r,e⟩:=I.hok l _ hH;exact ⟨z,its,n,r,r.length,e⟩
theorem XW {n:Nat}(h:n<=sizeLine):Builtin.List.listTooLong n=false:=by
 unfold Builtin.List.listTooLong;exact Ybx (by lia)
end
section
variable {X:Cx}
def Zdm:V->List V->Hp->VK->Prop:=λx vs H Q=>∃l xs y,x=.ref l/\vs=[y]/\H l=some (.lst xs)/\xs.length<sizeLine/\Q .non (upd H l (.lst (xs++[y])))
theorem GY:MtM X "list.append" Zdm:=by
 intro qJ s σ H x vs v us Q I rx rv h;obtain ⟨l,xs,y,rfl,rfl,hH,hz,q⟩:=h;cases rx;obtain ⟨u,rfl,ru⟩:=rv.one;obtain ⟨z,its,n,r,hl,e⟩:=I.lstM hH;refine call_meets F.slot_list_append ⟨_,e,rfl⟩ F.entry_list_append (F.args_list_append_2 _ _) (PySem.list_append l its.toArray n u (by rw [Yaw];lia)) ⟨e,?_⟩;refine ⟨.non,_,I.lset (its':=its++[u]) hH e (by simp) (r.append (.cons ru .nil)) ?_,rfl,q⟩;rw [Yai,Yat]
 lia
def ZhL:V->List V->Hp->VK->Prop:=λx vs H Q=>∃l xs y,x=.ref l/\vs=[]/\H l=some (.lst xs)/\xs[xs.length-1]?=some y/\Q y (upd H l (.lst xs.dropLast))
theorem ZeB:MtM X "list.pop" ZhL:=by
 intro qJ s σ H x vs v us Q I rx rv h;obtain ⟨l,xs,y,rfl,rfl,hH,hy,q⟩:=h;cases rx;have hus:=rv.zero;subst hus;obtain ⟨z,its,n,r,hl,e⟩:=I.lstM hH;obtain ⟨u,hu,ru⟩:=r.get hy;have hy':its.toArray[its.toArray.size-1]?=some u:=by
  show its.toArray[its.length-1]?=some u;rw [<-Yay,<-hl];exact hu
 refine call_meets F.slot_list_pop ⟨_,e,rfl⟩ F.entry_list_pop (F.args_list_pop_1 _) (MeetsSeq.list_pop_last l its.toArray n u hy' (by rw [Yaw];lia)) ⟨e,?_⟩;refine ⟨y,_,I.lset (its':=its.dropLast) hH e ?_ r.dropLast ?_,ru,q⟩
 ·show its.toArray.eraseIdxIfInBounds (its.toArray.size-1)=its.dropLast.toArray;rw [Yaw,List.eraseIdxIfInBounds_toArray,YW]
 ·rw [List.length_dropLast]
  lia
def Zga:R2:=λx y H Q=>∃l b xs zs,x=.ref l/\y=.ref b/\H l=some (.lst xs)/\H b=some (.lst zs)/\xs.length+zs.length<=sizeLine/\∀p,H p=none->Q (.ref p) (upd H p (.lst (xs++zs)))
theorem Of:OpR X (binaryOp .Add) Zga:=by
 intro qJ s σ H x y v u Q I rx ry h;obtain ⟨l,b,xs,zs,rfl,rfl,hH,hB,hz,q⟩:=h;cases rx;cases ry;obtain ⟨z,its,n,r,hl,e⟩:=I.lstM hH;obtain ⟨z2,its2,n2,r2,hl2,e2⟩:=I.lstM hB;refine PySem.P.add_list e e2 ?_ (by rw [Yaw,Yaw];lia);have ea:its.toArray++its2.toArray=(its++its2).toArray:=by simp
 rw [ea];exact ⟨.ref _,_,I.lnew (t':=s.toks) (r.append r2) (by rw [Yai];lia),rfl,q _ I.fresh⟩
def ZhM:R2:=λx y H Q=>∃l k xs,x=.ref l/\y=.int k/\H l=some (.lst xs)/\-(2 ^ 63)<=k/\k<2 ^ 63/\xs.length * k.toNat<=sizeLine /\
 ∀p,H p=none->Q (.ref p) (upd H p (.lst (List.replicate k.toNat xs).flatten))
theorem Zdn {α:Type}(xs:List α)(k:Nat):(List.replicate k xs).flatten.length=k * xs.length:=by
 induction k with
 | zero=>simp
 | succ k ih=>rw [Yfz,List.flatten_cons,Yai,ih,Nat.succ_mul,Nat.add_comm]
theorem ZeC:OpR X (binaryOp .Mult) ZhM:=by
 intro qJ s σ H x y v u Q I rx ry h;obtain ⟨l,k,xs,rfl,rfl,hH,h1,h2,hz,q⟩:=h;cases rx;obtain ⟨t,rfl⟩:=ry;obtain ⟨z,its,n,r,hl,e⟩:=I.lstM hH;have qW:its.toArray.size * k.toNat<=sizeLine:=by rw [Yaw,<-hl];exact hz
 have hcap:¬ its.toArray.size * k.toNat > (2 ^ 63-1) / 8:=by
  have:(sizeLine:Nat)<=(2 ^ 63-1) / 8:=by decide
  lia
 have hfit:¬ (!Builtin.List.listFitsIndex k)=true:=by
  rw [fitsIndex_both h1 h2];exact Yam
 have hlong:¬ Builtin.List.listTooLong (its.toArray.size * k.toNat)=true:=by
  rw [XW qW];exact Yam
 have hnew:List.foldl (λx1 x2=>x1++x2) #[] (List.replicate (if its.toArray.isEmpty=true then 0 else k.toNat) its.toArray)=(List.replicate k.toNat its).flatten.toArray:=by
  have f0:∀m:Nat,List.foldl (λx1 x2=>x1++x2) #[] (List.replicate m its.toArray)=(List.replicate m its).flatten.toArray:=λm=>by
   have:=WI its m [];rw [List.nil_append] at this;exact this
  rw [f0];cases its with
  | nil=>simp
  | cons a r'=>rw [if_neg (by simp)]
 refine wpAny_binaryOp_repeat_ref (T := "list") (U := "int") (by decide) ⟨_,e,rfl⟩ (λs'=>typeIs_int s' k t) noFill_list_mul F.fills_int_mul F.slot_int_rmul repeat_list F.slot_int_index.lookup
  (call_meets F.slot_int_rmul (typeIs_int s k t) F.entry_int_rmul (F.args_int_rmul_2 _ _) (int___rmul___int_list k t l its.toArray n)
   ⟨e,rfl,⟨_,e,rfl⟩,call_meets F.slot_list_mul ⟨_,e,rfl⟩ F.entry_list_mul (F.args_list_mul_2 _ _) (AutoListH.list___mul___list_int_3 l its.toArray n k t hfit hcap hlong) ⟨e,?_⟩⟩)
 rw [hnew];exact ⟨.ref _,_,I.lnew (t':=s.toks) (r.rep k.toNat) (by rw [Zdn,Nat.mul_comm];exact hz),rfl,q _ I.fresh⟩
end
section
variable {prog:Program}{w:World}{A:Around}{E:EX}{s:Shared}
end
section
variable {X:Cx}
end
end L2
namespace Att
open PySem PySem.W PySem.Calls PyProof.Rows
theorem UX {P:Params}{h:Heap}:∀(ns:List Int)(vs:List Value),WellAll P h vs (ns.map WData.int)->IntsAre vs ns:=by
 intro ns
 induction ns with
 | nil=>
  intro vs w;rw [List.map_nil] at w;cases w;exact .nil
 | cons n ns ih=>
  intro vs w;rw [Yaq] at w;cases w with
  | cons a b=>
   cases a;exact .cons _ _ (ih _ b)
theorem ZT {l:OpenLaw}{n:Nat}(hn:l.most=some n){P:Params}{h:Heap}{args:List WData}{vals:List Value}(hpre:l.row.toRowW.claim.pre args=true)(hwl:WellAll P h vals args) :
  ∃a vs ns,vals=[Value.ref a]/\args=[WData.list (ns.map WData.int)]/\h.get? a=some { cls:=.type "list", data:=.seq vs.toArray }/\IntsAre vs ns/\ns.length<=n:=by
 have hsh:WShape.hasAll [] args [.list .int]=true:=(pre_splitW hpre).1;have hc:l.pre.holds [] { args:=args }=true:=(pre_splitW hpre).2;obtain ⟨d,r,rfl,h1,h2⟩:=hasAllW_cons hsh;obtain rfl:=hasAllW_nil h2;obtain ⟨xs,rfl,h3⟩:=hasW_list h1;obtain ⟨ns,rfl⟩:=items_int h3;have qW:ns.length<=n:=by
  unfold OpenLaw.pre at hc;have h4:(WTm.not (.lt (.lit (.int (n:Int))) (.len (.arg 0)))).holds [] { args:=[.list (ns.map .int)] }=true:=by
   have h4:=(holds_andW hc).1;rw [hn] at h4;exact h4
  have h5:=condW_of h4 (w_not (w_lt w_lit (w_len_list (w_arg rfl))));rw [Yac] at h5;refine Nat.le_of_not_lt λq=>?_;have q':(n:Int)<((ns.length:Nat):Int):=by lia
  first
   | (rw [Ybi q'] at h5;exact absurd h5 (by decide))
   | (simp at h5;lia)
 cases hwl with
 | cons w1 w2=>
  cases w2;cases w1 with
  | list ho qG=>exact ⟨_,_,ns,rfl,rfl,ho,UX ns _ qG,qW⟩
theorem ZU (l:OpenLaw)(args:List WData):l.row.toRowW.claim.post args (.bool true) args=true:=
 postW_of (r:=l.row.toRowW) (X:=(true == true))
  (show WShape.has [] (.bool true) .bool=true by first | rfl | decide | simp [WShape.has,WShape.arms,WShape.armsAll])
  (show (WTm.eq .res (.lit (.bool true))).value [] { args:=args,res:=some (.bool true),after:=args }=some (.bool (true == true)) from w_eq_bool (w_res rfl) w_lit) rfl
theorem attach_call {l:OpenLaw}{n:Nat}{q:Program}{loose:List Str}{XP:(Str->Option Value)->Heap->Prop}{YP:World->Heap->Prop}{d:DefRec}(hn:l.most=some n)(hdf:d.params.defaults=[])(call:∀(w:World)(s₀ s₁:Shared)(mg mb:Str->Option Value)(fa:Addr)(o:Obj)(pm cd doc:Value)(a:Addr)(vs:List Value)(ns:List Int),
   Ground q loose [] XP w s₀ mg mb s₁.heap->YP w s₁.heap ->
   s₁.heap.get? fa=some o->o.data=.func (docDef d.name d.params d.body d.scope pm cd doc)->s₁.heap.CodeRec cd d.name->mg d.name=some (.ref fa) ->
   s₁.heap.get? a=some { cls:=.type "list", data:=.seq vs.toArray }->IntsAre vs ns->ns.length<=n->s₁.gens=#[] ->
   codeAny (model l.prog w) callerA (.call (.ref fa) ⟨[.ref a],[]⟩) (λr s'=>r=.ok (.ret (.bool true))/\OldK s₁.heap s'.heap/\s'.os=s₁.os/\AllBare s'.gens) s₁) :
  WalkO q loose XP YP l.row.toRowW d [] (λf vs=>PySem.call f vs):=by
 intro w s₀ s₁ mg mb G Y fa o pm cd doc dV kV ho hd hcd hD hmg hg args vals as hpre hlay hrd hwl hlo;obtain rfl:dV=.none:=Dflts.none hD hdf;obtain rfl:kV=.none:=Dflts.noKw hD;obtain ⟨a,vs,ns,rfl,rfl,hobj,hints,qW⟩:=ZT hn hpre hwl;refine enter_call (codeAny_mono (call w s₀ s₁ mg mb fa o pm cd doc a vs ns G Y ho (fd_plain hd) hcd hmg hobj hints qW hg) λr s' hq=>?_);obtain ⟨rfl,h2,h3,h4⟩:=hq;exact ⟨.inl ⟨.bool true,.bool true,[],rfl,λ_=>rfl,.bool true,ZU l _,λ_=>⟨List.Pairwise.nil,λ_ hm=>(nomatch hm)⟩⟩,h2,h3,h4⟩
section
variable {prog:Program}{w:World}{A:Around}{E:EX}{s:Shared}{K:Frag}
end
end Att
namespace L2
open PySem PySem.Spec PyProof.Rows
theorem UY:∀{vs:List Value}{ns:List Int},IntsAre vs ns->Vals (ns.map V.int) vs
 | _,_,.nil=>.nil
 | _,_,.cons n t h=>.cons ⟨t,rfl⟩ (UY h)
def ZV (s:Stmt)(j:Nat):Stmt:=match s with
 | .ClassDef _ _ _ body _ _ _ _ _ _ _=>body.getD j (.Pass ⟨0,0,0,0⟩)
 | _=>.Pass ⟨0,0,0,0⟩
def Ju (s:Stmt):Arguments:=match s with
 | .FunctionDef _ a _ _ _ _ _ _ _ _=>a
 | _=>{ posonlyargs:=[],args:=[],vararg:=none,kwonlyargs:=[],kw_defaults:=[],kwarg:=none,defaults:=[] }
def G0 (s:Stmt):List Stmt:=match s with
 | .FunctionDef _ _ b _ _ _ _ _ _ _=>b
 | _=>[]
def Gf (s:Stmt):Scope:=match s with
 | .FunctionDef _ _ _ _ _ _ sc _ _ _=>sc
 | _=>{ kind:=.function,names:=[],isGenerator:=false,isCoroutine:=false }
abbrev CX0:CXT:=λ_ _ _ _ _ _=>False
abbrev E0:XK:=λ_ _ _=>False
theorem Je {X:Cx}:OP CX0 X E0:=λ_ _ _ _ _ _ _ h=>h.elim
structure Fun (K:W.Frag)(x qual:Str)(st:Stmt)(f:Addr)(fd:FuncData):Prop where
 ex:∃(oc:Value)(od:Option Addr)(kV doc pm:Value)(an:Option Addr)(cdv ct:Value)(osl:Array (Option Value)),
  fd=W.fnOf x qual (Ju st) (G0 st) (Gf st) .none kV doc pm an cdv ct/\K.lookup f=some ⟨oc,od,.func fd,osl⟩/\W.codeIn K cdv qual=true
 kp:W.keepIn K (.ref f)=true
section
variable {P:Program}{w:World}{K:W.Frag}{mg:Str->Option Value}{base:Heap}
theorem Fun.ok {x qual:Str}{st:Stmt}{f:Addr}{fd:FuncData}{N ps:List Str}{k:Nat}{sp:Sp}(F:Fun K x qual st f fd)(S:Gp N ps (Gf st))(len:∀vs H Q E,sp vs H Q E->vs.length=ps.length)(jX:∀(cdv:Value)(A:Around)(outer:List Env)(s:Shared)(H:Hp)(vs:List V)(Q:VK)(E:XK),Room k (A.deeper (envOfC qual (Gf st) s.heap.objs.size f cdv))->sp vs H Q E ->
   ∃t,PSs (YT CX0 P w K mg base N qual (Gf st) f cdv A outer s H E).nox (G0 st) t/\t { nx:=λ_ H'=>Q .non H',rt:=Q } (start N vs) H):G4 P w K mg base CX0 (k+1) f fd ps sp:=by
 obtain ⟨oc,od,kV,doc,pm,an,cdv,ct,osl,rfl,lk,hcd⟩:=F.ex;refine ZP lk hcd S len λA outer s H vs Q E hr hsp=>?_;obtain ⟨t,h,q⟩:=jX cdv A outer s H vs Q E hr hsp;exact ⟨t,h.nox,q⟩
theorem Fun.binds {x qual:Str}{st:Stmt}{f:Addr}{fd:FuncData}{ps:List Str}(F:Fun K x qual st f fd)(h:∀(kV doc pm:Value)(an:Option Addr)(cdv ct:Value)(us:List Value),us.length=ps.length->bindArgs (W.fnOf x qual (Ju st) (G0 st) (Gf st) .none kV doc pm an cdv ct) ⟨us,[]⟩=pure (ps.zip us)):Binds K fd ps []:=by
 obtain ⟨oc,od,kV,doc,pm,an,cdv,ct,osl,rfl,lk,hcd⟩:=F.ex;exact .all (h kV doc pm an cdv ct)
theorem ZW {x qual:Str}{st:Stmt}{f:Addr}{oc:Value}{od an:Option Addr}{osl:Array (Option Value)}{kV doc pm cdv ct:Value}(l:K.lookup f=some ⟨oc,od,.func (W.fnOf x qual (Ju st) (G0 st) (Gf st) .none kV doc pm an cdv ct),osl⟩)(c:W.codeIn K cdv qual=true)(k:W.keepIn K (.ref f)=true):Fun K x qual st f (W.fnOf x qual (Ju st) (G0 st) (Gf st) .none kV doc pm an cdv ct):=⟨⟨oc,od,kV,doc,pm,an,cdv,ct,osl,rfl,l,c⟩,k⟩
end
section
variable {X:Cx}
theorem pv (i:Nat){x:Str}{pos:Pos}(hN:X.N[i]?=some x:=by rfl)(hv:Vis X.env.scope x:=by first | exact Or.inl rfl | exact Or.inr (Or.inl rfl) | exact Or.inr (Or.inr rfl))(hd:(x == ("__debug__" : Str))=false:=by decide)(hcd:(x == ("__classdict__" : Str))=false:=by decide):PE X (.Name x pos) (Zbu i):=Zej hN hv hd hcd
end
theorem Os {A B:Prop}(h:B):if false=true then A else B:=by
 rw [if_neg Yam];exact h
theorem OQ {A B:Prop}(h:A):if true=true then A else B:=by
 rw [if_pos rfl];exact h
theorem Vf {c A B:Prop}[Decidable c](h1:c->A)(h2:¬ c->B):if c then A else B:=by
 by_cases h:c
 ·rw [if_pos h];exact h1 h
 ·rw [if_neg h];exact h2 h
def Same (H H':Hp):Prop:=∀b o,H b=some o->H' b=some o
theorem Same.refl (H:Hp):Same H H:=λ_ _ h=>h
theorem Same.trans {H H1 H2:Hp}(a:Same H H1)(b:Same H1 H2):Same H H2:=λc o h=>b c o (a c o h)
theorem Same.free {H H':Hp}(e:Same H H'){l:Addr}(h:H' l=Option.none):H l=Option.none:=by
 cases q:H l with
 | none=>rfl
 | some o=>
  rw [e l o q] at h;cases h
theorem Same.seq {K:W.Frag}{H H':Hp}{a:Addr}{xs:List V}(e:Same H H')(h:SqL K H a xs):SqL K H' a xs:=by
 rcases h with (h | ⟨o,h⟩) | h
 ·exact .inl (.inl (e _ _ h))
 ·exact .inl (.inr ⟨o,e _ _ h⟩)
 ·exact .inr h
section
variable {prog:Program}{w:World}{A:Around}{R:Result->Shared->Prop}{s:Shared}
theorem WJ {elt qY iter:Expr}{ifs:List Expr}{scope:Scope}{pos:Pos}{it acc:Value}{env:Env}(I:Nat->Shared->Prop)(turn:∀n s,I n s->wpAny (model prog w) A (pyNext it) (λr s1=>match r with
   | none=>R (.ok .next) s1
   | some v=>wpAny (model prog w) A (letOwnedTupleGo qY it v) (λ_ s1'=>wpAny (model prog w) A (assign qY env v) (λ_ s2=>
     wpAny (model prog w) A (forIn ifs true λc r=>if r=true then do let ok <- isTrue c env (eval c env);pure (ForInStep.yield ok) else pure (ForInStep.yield r)) (λok s3=>
      if ok=true then wpAny (model prog w) A (eval elt env) (λx s4=>
       wpAny (model prog w) A (call (.builtin "list.append") [acc,x]) (λ_ s5=>∃m,m<n/\I m s5) (λ_ _=>False) s4) (λ_ _=>False) s3
      else ∃m,m<n/\I m s3) (λ_ _=>False) s2) (λ_ _=>False) s1') (λ_ _=>False) s1) (λ_ _=>False) s)(n:Nat)(h:I n s) :
  codeAny (model prog w) A (.compLoop (.ListComp elt [⟨qY,iter,ifs,0⟩] scope pos) 0 it acc env) R s:=by
 have ff:∀{E:EX},∀(x:Value)(s:Shared),(λ(_:Value) (_:Shared)=>False) x s->E x s:=λ_ _ z=>False.elim z;refine codeAny_loop rfl I (λn s hI=>?_) n h;show wpAny _ A ((compTurn (.ListComp elt [⟨qY,iter,ifs,0⟩] scope pos) 0 it acc env).onRaise (λx=>do noteFrame x env;theTreesLotGoes x)) _ _ s;refine wpAny_noted ?_;rw [compTurn_list];refine Yaa (wpAny_standAt (Yaa (Ybr (turn n s hI) (λr s1 h1=>?_) ff)));cases r with
 | none=>exact Yab h1
 | some v=>
  refine Yaa (Ybr h1 (λ_ s1' h1'=>?_) ff);refine Yaa (Ybr h1' (λ_ s2 h2=>Yaa (Ybr h2 (λok s3 h3=>?_) ff)) ff);cases ok with
  | false=>exact Yab ⟨rfl,h3⟩
  | true=>
   exact Yaa (Yaa (Ybr h3 (λx s4 h4=>Yaa (Ybr h4 (λ_ s5 h5=>Yab (Yab ⟨rfl,h5⟩)) ff)) ff))
end
def Cx.comp (X:Cx)(scope:Scope)(cl:List (Str×Addr))(N:List Str)(C:Addr)(s:Shared)(H:Hp)(fp:List Addr):Cx:=
 { X with N:=N,s₀:=s,H₀:=H,env:=compEnvC scope cl C X.env,outer:=X.stack,ex:=fp,fn:=λ_=>false,pn:=[],xe:=λ_ _=>False }
def ZeD (X:Cx)(ifs:List Expr)(t:TT):Prop:=
 ∀(qJ:List (Addr×Obj))(s:Shared)(σ:St)(H:Hp)(Q:Bool->Hp->Prop),Inv X qJ σ H s->t σ H Q ->
  wpAny (model X.prog X.w) X.A (forIn ifs true λc r=>if r=true then do let ok <- isTrue c X.env (eval c X.env);pure (ForInStep.yield ok) else pure (ForInStep.yield r)) (TP X qJ σ Q) X.xe s
def ZbC:TT:=λ_ H Q=>Q true H
theorem JR {X:Cx}:ZeD X [] ZbC:=λ_ _ _ H _ I h=>wpAny_tests_nil ⟨H,I,h⟩
theorem JS {X:Cx}{c:Expr}{t:TT}(h:PT X c t):ZeD X [c] t:=λqJ s σ H Q I hw=>wpAny_tests_one (h qJ s σ H Q I hw)
structure J1 (X:Cx)(scope:Scope)(cl:List (Str×Addr))(own:List Str)(fr:List (Str×Nat)):Prop where
 clos:closureFor scope X.env=pure cl
 nocell:∀y∈scope.names,y.2≠.cell
 kind:scope.kind=.function
 names:∀y∈scope.names,y.2=.local->scope.names.lookup y.1=some .local
 cls:∀y c,cl.lookup y=some c->X.env.cells.lookup y=some c
 has:∀y,((relabel scope X.env).names.lookup y=some .cell\/(relabel scope X.env).names.lookup y=some .free)->∃c,cl.lookup y=some c
 free:∀p∈fr,X.N[p.2]?=some p.1/\(X.env.kindOf p.1=some .cell\/X.env.kindOf p.1=some .free)/\((relabel scope X.env).names.lookup p.1=some .cell\/(relabel scope X.env).names.lookup p.1=some .free)
def JT (own:List Str)(fr:List (Str×Nat))(σ:St):St:=own.map (λ_=>none)++fr.map λp=>(σ[p.2]?).join
def Ob:St->St->Prop
 | [],[]=>True
 | none::r,_::r'=>Ob r r'
 | some v::r,some v'::r'=>v=v'/\Ob r r'
 | _,_=>False
theorem Ot:∀{a b:St},Ob a b->∀(i:Nat)(v:V),a[i]?=some (some v)->b[i]?=some (some v)
 | [],[],_,i,v,h=>by simp at h
 | [],_::_,z,_,_,_=>z.elim
 | none::r,[],z,_,_,_=>z.elim
 | some _::r,[],z,_,_,_=>z.elim
 | some _::r,none::_,z,_,_,_=>z.elim
 | none::r,_::r',z,0,v,h=>by simp at h
 | none::r,_::r',z,i+1,v,h=>by
  have:=Ot (a:=r) (b:=r') z i v (by simpa using h);simpa using this
 | some x::r,some x'::r',z,0,v,h=>by
  obtain ⟨e,_⟩:=z;subst e;simpa using h
 | some x::r,some x'::r',z,i+1,v,h=>by
  have:=Ot (a:=r) (b:=r') z.2 i v (by simpa using h);simpa using this
def J2 (J:It)(D:Addr)(g:TG)(tc:TT)(te:TE)(σ0:St)(W:Nat->Nat->List V->Hp->Prop)(R:Hp->Prop):Prop:=
 ∀i m ys H2,W i m ys H2->(J.stop i H2/\R H2)\/(J.go i H2/\∃N:List V->Hp->Prop,(∀ys' H',N ys' H'->∃m',m'<m/\W (i+1) m' ys' H')/\∀x H3,J.yld i H2 x H3->g x σ0 H3 λσ4 H4=>Ob σ0 σ4/\tc σ4 H4 λb H5=>
  if b=true then te σ4 H5 λy H6=>H6 D=some (.lst ys)/\ys.length<sizeLine/\N (ys++[y]) (upd H6 D (.lst (ys++[y])))
  else N ys H5)
def ZeE (wi:TI)(g:TG)(tc:TT)(te:TE)(own:List Str)(fr:List (Str×Nat)):TE:=λσ H Q=>wi σ H λJ H1=>∀D,H1 D=none ->
 ∃W:Nat->Nat->List V->Hp->Prop,(∃m,W 0 m [] (upd H1 D (.lst [])))/\J2 J D g tc te (JT own fr σ) W λH2=>Q (.ref D) H2
section
variable {X:Cx}{qY iter elt:Expr}{ifs:List Expr}{scope:Scope}{cl:List (Str×Addr)}{own:List Str}{fr:List (Str×Nat)}{pos:Pos}{wi:TI}{g:TG}{tc:TT}{te:TE}
theorem Inv.sub_pins {qJ pins':List (Addr×Obj)}{σ:St}{H:Hp}{s:Shared}(I:Inv X qJ σ H s)(h:∀p∈pins',p∈qJ):Inv X pins' σ H s:=I.pins_of λp hp=>I.pin p (Ycb _ (h p hp))
theorem Zdo {qJ:List (Addr×Obj)}{σ:St}{H:Hp}{s:Shared}{C:Addr}{fp:List Addr}(S:J1 X scope cl own fr)(I:Inv X qJ σ H s)(hf:∀b∈fp,Zbo X qJ H b)(hC:s.heap.objs.size<=C)(hfl:∀b∈fp,b<s.heap.objs.size) :
  (X.comp scope cl (own++fr.map (·.1)) C s H fp).Ok:=by
 refine ⟨I.ok.mod,?_,I.ok.glob,I.ok.blt,hC,λx y c h1 h2=>I.ok.inj x y c (S.cls x c h1) (S.cls y c h2),S.has,λx c z=>absurd z (by simp [Cx.comp]),I.ok.hd,I.ok.frames,.inl rfl,
  λb hb=>⟨Yav (Ybk (hfl b hb) hC),λx c h=>(hf b hb).2.2.2.2.1 x c (S.cls x c h)⟩,I.bs,Ybo I.ok.bsz I.sz,λb o e hb=>?_,λb hb z=>?_,I.stack,I.stkFree⟩
 ·show (relabel scope X.env).kind=.function;exact S.kind
 ·rcases (hf b hb).2.2.2.1 with z | z
  ·exact I.ok.noex b o e z
  ·exact absurd (Ybk (Yak e) (Ybo I.ok.bsz z)) (Yct _)
 ·rcases Yas.mp (I.stkSub b z) with q | q
  ·exact (hf b hb).2.1 q
  ·exact (hf b hb).2.2.1 q
theorem Vo (own:List Str)(fr:List (Str×Nat))(σ:St):(JT own fr σ).length=(own++fr.map (·.1)).length:=by
 unfold JT;simp
theorem Vp {qJ:List (Addr×Obj)}{σ:St}{H:Hp}{s:Shared}{it:Addr}{fp:List Addr}{tn:Nat->Heap->Prop}{J:It}{E:EX}{RR:Value->Addr->Result->Shared->Prop}{Rf:Addr->Hp->Prop}(hc:X.calm=true)(S:J1 X scope cl own fr)(I:Inv X qJ σ H s)(T:Zc5 X.prog X.w X.K qY J fp it tn)(st:tn 0 s.heap)(hf:∀b∈fp,Zbo X qJ H b)(hg:∀C s H fp,PG (X.comp scope cl (own++fr.map (·.1)) C s H fp) qY g)(ht:∀C s H fp,ZeD (X.comp scope cl (own++fr.map (·.1)) C s H fp) ifs tc)(he:∀C s H fp,PE (X.comp scope cl (own++fr.map (·.1)) C s H fp) elt te)(hw:∀D,H D=none->∃W:Nat->Nat->List V->Hp->Prop,(∃m,W 0 m [] (upd H D (.lst [])))/\J2 J D g tc te (JT own fr σ) W (Rf D))(hRR:∀D C s' H',s.heap.objs.size<=C->C≠D->(∃m,s'.heap.Ns C m)->H' C=none->Un (frs X.stack) fp H H' s.heap s'.heap->HOk X.prog X.w H' s'.heap->AllBare s'.gens->s'.os=s.os->Rf D H'->RR (.ref D) C (.ok .next) s') :
  wpAny (model X.prog X.w) X.A (newList []) (λacc s3=>wpAny (model X.prog X.w) X.A (newFunctionEnv scope X.env.globals cl [] X.env.qual none .none (some X.env)) (λcenv s4=>
   codeAny (model X.prog X.w) X.A (.compStart (.ListComp elt [⟨qY,iter,ifs,0⟩] scope pos) 0 (.ref it) acc { cenv with scope:=relabel scope X.env }) (RR acc cenv.locals) s4) E s3) E s:=by
 have hfl:∀b∈fp,b<s.heap.objs.size:=λb hb=>by
  obtain ⟨o,e,_⟩:=T.obj 0 s.heap st b hb;exact Yak e
 have hD:H s.heap.objs.size=none:=I.fresh;obtain ⟨W,⟨m0,w0⟩,turns⟩:=hw s.heap.objs.size hD;have I1:Inv X qJ σ (upd H s.heap.objs.size (.lst [])) { s with heap:=s.heap.push { cls:=.type "list", data:=.seq ([]:List Value).toArray },toks:=s.toks }:=I.lnew .nil (Yar _);refine Ydy (wpAny_newFunctionEnv S.nocell (by intro y hy;simp at hy) (λh1 hns1 hsb1=>?_) S.kind);dsimp only at hns1 hsb1 ⊢;generalize hH2:s.heap.push { cls:=.type "list", dict:=none,data:=.seq ([]:List Value).toArray }=H2 at hns1 hsb1 ⊢ I1;have hCs:H2.objs.size=s.heap.objs.size+1:=by rw [<-hH2,Yck]
 have hCle:s.heap.objs.size<=H2.objs.size:=by lia
 have hDC:s.heap.objs.size≠H2.objs.size:=by lia
 have up1:∀b o,H2.get? b=some o->h1.get? b=some o:=λb o e=>hsb1.extBut b o (Yav (Yak e)) (Yal _ e);have up:∀b o,s.heap.get? b=some o->h1.get? b=some o:=λb o e=>up1 b o (hH2▸Yal _ e);have okY:=Zdo (C:=H2.objs.size) S I hf hCle hfl;have I0:∀tk,Inv (X.comp scope cl (own++fr.map (·.1)) H2.objs.size s H fp) [] (JT own fr σ) (upd H s.heap.objs.size (.lst [])) { s with heap:=h1,toks:=tk }:=by
  intro tk;have hok1:HOk X.prog X.w (upd H s.heap.objs.size (.lst [])) h1:=I1.hok.kept up1;refine ⟨okY,rfl,I.bare,⟨λb o e n _ _=>up b o e,λb o e n _ _=>⟨o.slots,up b o e⟩,λb o e n _=>?_,λb o e _=>⟨o,up b o e⟩,λb xs q=>?_,λb o u q=>?_,λb ps q=>⟨#[],?_⟩⟩,
   ⟨_,hns1,λi x v e1 e2 e3=>?_⟩,λx c e=>?_,?_,λx c e=>?_,λp hp=>?_,hok1,Vo own fr σ⟩
  ·have e':s.heap.get? b=some o:=e;show upd H s.heap.objs.size (.lst []) b=none;rw [Gm (Yav (Yak e'))];exact n
  ·rw [Gm (Gh q hD)];exact q
  ·rw [Gm (Gh q hD)];exact q
  ·have q':H b=some (.tbl ps):=q;rw [Gm (Gh q' hD),q'];simp
  ·-- the free names
   have e2':(JT own fr σ)[i]?=some (some v):=e2;have e1':(own++fr.map (·.1))[i]?=some x:=e1;unfold JT at e2';by_cases hi:i<own.length
   ·rw [Yby (by simpa using hi),Yaz] at e2';cases q:own[i]? with
    | none=>rw [q] at e2';cases e2'
    | some y=>rw [q] at e2';cases e2'
   ·rw [Yce (by simpa using hi),Yac,Yaz] at e2';rw [Yce (by lia),Yaz] at e1';cases q:fr[i-own.length]? with
    | none=>rw [q] at e2';cases e2'
    | some p=>
     rw [q] at e1' e2';have ex:p.1=x:=Ybl e1';have ev:(σ[p.2]?).join=some v:=Ybl e2';have ev':σ[p.2]?=some (some v):=by
      cases z:σ[p.2]? with
      | none=>rw [z] at ev;cases ev
      | some o=>rw [z] at ev;cases o with
       | none=>cases ev
       | some v'=>have:v'=v:=Ybl ev;rw [this]
     obtain ⟨f1,f2,f3⟩:=S.free p (Yax q);subst ex;obtain ⟨m,hn,hl⟩:=I.loc;have vis:Vis X.env.scope p.1:=by
      rcases f2 with f2 | f2
      ·exact .inr (.inl f2)
      ·exact .inr (.inr f2)
     obtain ⟨u,ru,lk⟩:=hl p.2 p.1 v f1 ev' vis;refine ⟨u,ru,?_⟩;rcases lk with ⟨k,_⟩ | ⟨k,c,e,z⟩
     ·rcases f2 with f2 | f2 <;> (rw [f2] at k;cases k)
     ·obtain ⟨c',hc'⟩:=S.has p.1 f3;have e':=S.cls _ _ hc';rw [e] at e';cases e';obtain ⟨oc,ho,hd⟩:=z;exact .inr ⟨f3,c,hc',⟨oc,up _ _ ho,hd⟩⟩
  ·obtain ⟨v,oc,ho,hd⟩:=I.cell x c (S.cls x c e);exact ⟨v,oc,up _ _ ho,hd⟩
  ·show upd H s.heap.objs.size (.lst []) H2.objs.size=none;rw [Gm (Ne.symm hDC)];exact I.hok.fresh hCle
  ·obtain ⟨v,z⟩:=I.cell x c (S.cls x c e);show upd H s.heap.objs.size (.lst []) c=none;rw [Gm (Yav z.lt)];exact I.freeC x c (S.cls x c e)
  ·exact absurd (show p∈([]:List (Addr×Obj)) from hp) (by simp)
 have fpf:∀b∈fp,upd H s.heap.objs.size (.lst []) b=none:=λb hb=>by rw [Gm (Yav (hfl b hb))];exact (hf b hb).1
 have st1:tn 0 h1:=T.keep 0 _ _ st λb hb o e=>up b o e;have stat:∀{H':Hp},(∀b∈fp,H' b=none)->∀b∈fp,Zbo (X.comp scope cl (own++fr.map (·.1)) H2.objs.size s H fp) [] H' b:=λhn b hb=>
  ⟨hn b hb,(okY.exf b hb).1,okY.exfs b hb,.inl hb,(okY.exf b hb).2,λp hp=>absurd (show p∈([]:List (Addr×Obj)) from hp) (by simp)⟩
 have loop:∀s3:Shared,(∃tk,s3={ s with heap:=h1,toks:=tk }) ->
   codeAny (model X.prog X.w) X.A (.compLoop (.ListComp elt [⟨qY,iter,ifs,0⟩] scope pos) 0 (.ref it) (.ref s.heap.objs.size) (compEnvC scope cl H2.objs.size X.env)) (RR (.ref s.heap.objs.size) H2.objs.size) s3:=by
  rintro s3 ⟨tk,rfl⟩;refine WJ (λn s'=>∃i ys H',Inv (X.comp scope cl (own++fr.map (·.1)) H2.objs.size s H fp) [] (JT own fr σ) H' s'/\tn i s'.heap/\(∀b∈fp,H' b=none)/\W i n ys H') ?_ m0 ⟨0,[],_,I0 tk,st1,fpf,w0⟩;rintro n s4 ⟨i,ys,H4,I4,st4,fr4,w4⟩;rcases turns i n ys H4 w4 with ⟨stop,q⟩ | ⟨go,N,hN,step⟩
  ·refine thn (T.done (X.comp scope cl (own++fr.map (·.1)) H2.objs.size s H fp) rfl rfl rfl hc i [] s4 _ H4 _ I4 (stat fr4) st4 stop) λr s5 ⟨hr,I5⟩=>?_;subst hr;exact hRR _ _ s5 H4 hCle (Ne.symm hDC) ⟨_,I5.loc.choose_spec.1⟩ I5.free I5.base I5.hok I5.bare I5.os q
  ·refine thn (T.item (X.comp scope cl (own++fr.map (·.1)) H2.objs.size s H fp) rfl rfl rfl hc i [] s4 _ H4 _ I4 (stat fr4) st4 go) λr s5 ⟨u,hr,h5⟩=>?_;subst hr;refine thn h5 λ_ s6 ⟨x,H6,I6,r6,y6,st6,fr6⟩=>?_;have I6':=I6.pinned (stat fr6) (T.obj _ _ st6);refine thn (hg H2.objs.size s H fp _ s6 _ H6 x u _ I6' r6 (step x H6 y6)) λ_ s7 ⟨σ7,H7,I7,k7,q7⟩=>?_;refine thn (ht H2.objs.size s H fp _ s7 σ7 H7 _ I7 q7) λok s8 ⟨H8,I8,q8⟩=>?_;have again:∀{s9:Shared}{σ9:St}{H9:Hp}{zs:List V},Inv (X.comp scope cl (own++fr.map (·.1)) H2.objs.size s H fp) ([]++Wz fp s6.heap) σ9 H9 s9->(∀(i:Nat) v,(JT own fr σ)[i]?=some (some v)->σ9[i]?=some (some v))->(∃m',m'<n/\W (i+1) m' zs H9) ->
     ∃m,m<n/\∃i ys H',Inv (X.comp scope cl (own++fr.map (·.1)) H2.objs.size s H fp) [] (JT own fr σ) H' s9/\tn i s9.heap/\(∀b∈fp,H' b=none)/\W i m ys H':=by
    intro s9 σ9 H9 zs I9 hσ ⟨m',hm,w9⟩;refine ⟨m',hm,i+1,zs,H9,(I9.sub_pins (λp hp=>absurd (show p∈([]:List (Addr×Obj)) from hp) (by simp))).weak ?_ hσ,T.keep _ _ _ st6 λb hb o e=>(I9.pin (b,o) (Ycb _ (Ycb _ (Oq hb e)))).1,λb hb=>?_,w9⟩
    ·rw [I9.len];exact Vo own fr σ
    ·obtain ⟨o,e,d⟩:=T.obj _ _ st6 b hb;exact (I9.pin (b,o) (Ycb _ (Ycb _ (Oq hb e)))).2.1
   cases ok with
   | false=>exact (if_neg Yam).mpr (again I8 (Ot k7) (hN _ _ ((if_neg Yam).mp q8)))
   | true=>
    refine (if_pos rfl).mpr ?_;have q8':=(if_pos rfl).mp q8;refine thn (he H2.objs.size s H fp _ s8 σ7 H8 _ I8 q8') λy s9 ⟨yv,H9,I9,r9,hD9,hz,q9⟩=>?_;refine thn (GY _ s9 σ7 H9 (.ref s.heap.objs.size) [yv] (.ref s.heap.objs.size) [y] (λ_ H'=>H'=upd H9 s.heap.objs.size (.lst (ys++[yv]))) I9 rfl (.cons r9 .nil) ⟨_,ys,yv,rfl,rfl,hD9,hz,rfl⟩) λ_ s10 ⟨_,H10,I10,_,e10⟩=>?_;subst e10;exact again I10 (Ot k7) (hN _ _ q9)
 exact codeAny_compStart_list (loop _ ⟨_,rfl⟩) (T.self _ 0 _ _ _ st1 (loop _ ⟨_,rfl⟩))
theorem Vq {qJ:List (Addr×Obj)}{σ:St}{H H':Hp}{s s':Shared}{fp:List Addr}(I:Inv X qJ σ H s)(hf:∀b∈fp,Zbo X qJ H b)(un:Un (frs X.stack) fp H H' s.heap s'.heap)(hok:HOk X.prog X.w H' s'.heap)(bare:AllBare s'.gens)(os:s'.os=s.os):Inv X qJ σ H' s':=
 I.call' os un hok bare λb hb=>⟨(hf b hb).2.2.2.1,(hf b hb).2.1,(hf b hb).2.2.2.2.1,(hf b hb).2.2.2.2.2⟩
theorem XX {qJ:List (Addr×Obj)}{σ σ':St}{H H':Hp}{s s':Shared}{C:Addr}{h':Heap}(I:Inv X qJ σ H s)(hC:s.heap.objs.size<=C)(hn:H' C=none)(I':Inv X qJ σ' H' s')(sb:Heap.SameBut C s'.heap h') :
  Inv X qJ σ' H' { s' with heap:=h' }:=by
 obtain ⟨f0,f1,f2,f3,f4,f5⟩:=I.fpOk hC hn;exact I'.turned (t':=s'.toks) (λb o hb e=>(sb.2 b hb).trans e) f0 f1 f3 f4 f5
theorem Jl (hc:X.calm=true)(S:J1 X scope cl own fr)(hi:PI X qY iter wi)(hg:∀C s H fp,PG (X.comp scope cl (own++fr.map (·.1)) C s H fp) qY g)(ht:∀C s H fp,ZeD (X.comp scope cl (own++fr.map (·.1)) C s H fp) ifs tc)(he:∀C s H fp,PE (X.comp scope cl (own++fr.map (·.1)) C s H fp) elt te)(hs:∀x,foldedSetIterable iter X.env x=pure x:=by intro _;rfl):PE X (.ListComp elt [⟨qY,iter,ifs,0⟩] scope pos) (ZeE wi g tc te own fr):=by
 intro qJ s σ H Q I h;rw [eval_ListComp];refine wpAny_comprehension_free (use:=none) rfl hs S.clos S.kind S.names (thn (hi qJ s σ H _ I h) λv s1 h1=>thn h1 λitv s2 h2=>?_);obtain ⟨it,fp,tn,J,H2,e,I2,T,st2,f2,hw⟩:=h2;subst e;refine Vp (RR:=λacc C=>compPost (model X.prog X.w) X.A X.xe none (EP X qJ σ Q) acc C) hc S I2 T st2 f2 hg ht he hw ?_;rintro D C s' H' hC hDC ⟨m,hn⟩ hCf un hok bare os q;refine ⟨m,hn,λh' hs'=>⟨.ref D,H',?_,rfl,q⟩⟩;exact XX (C:=C) (σ:=σ) I2 hC hCf (Vq I2 f2 un hok bare os) hs'
theorem ZX {i:Nat}{y:Str}{py spos:Pos}(hN:X.N.Nodup)(hi':X.N[i]?=some y)(hx:Loc X.env.scope y)(hc:X.calm=true)(S:J1 X scope cl own fr)(hi:PI X qY iter wi)(hg:∀C s H fp,PG (X.comp scope cl (own++fr.map (·.1)) C s H fp) qY g)(ht:∀C s H fp,ZeD (X.comp scope cl (own++fr.map (·.1)) C s H fp) ifs tc)(he:∀C s H fp,PE (X.comp scope cl (own++fr.map (·.1)) C s H fp) elt te)(hf:X.fn y=true\/X.env.scope.names.lookup y=some .local:=by first | exact .inl rfl | exact .inr rfl | assumption)(hsw:swapsWith (.ListComp elt [⟨qY,iter,ifs,0⟩] scope pos) (some (.Name y py)) spos.line X.env=pure true:=by rfl)(hs:∀x,foldedSetIterable iter X.env x=pure x:=by intro _;rfl):PS X (.Assign [.Name y py] (.ListComp elt [⟨qY,iter,ifs,0⟩] scope pos) spos) (Zgy (ZeE wi g tc te own fr) (GX i)):=by
 intro qJ s σ H Dn I h;rw [exec_Assign_Name_used _ _ _ _ hsw];refine Yaa (wpAny_standAt (Yaa ?_));show wpAny _ X.A (do let _ <- comprehension (.ListComp elt [⟨qY,iter,ifs,0⟩] scope pos) scope X.env _ (newList []) false (eval iter X.env) (some (assign (.Name y py) X.env))) _ _ s;refine Yaa (Ybr (wpAny_comprehension_free (use:=some (assign (.Name y py) X.env)) (Q:=λ_ s'=>SP X qJ Dn .next s') rfl hs S.clos S.kind S.names (thn (hi qJ s σ H _ I h) λv s1 h1=>thn h1 λitv s2 h2=>?_))
  (λ_ s' hq=>Yab (Yab hq)) λ_ _ e=>e)
 obtain ⟨it,fp,tn,J,H2,e,I2,T,st2,f2,hw⟩:=h2;subst e;refine Vp (RR:=λacc C=>compPost (model X.prog X.w) X.A X.xe (some (assign (.Name y py) X.env)) (λ_ s'=>SP X qJ Dn .next s') acc C) hc S I2 T st2 f2 hg ht he hw ?_;rintro D C s' H' hC hDC ⟨m,hn⟩ hCf un hok bare os q;have I3:Inv X qJ σ H' s':=Vq I2 f2 un hok bare os;show wpAny _ X.A (assign (.Name y py) X.env (.ref D)) _ _ s';refine wpAny_assign_Name (Wx I3 hN hi' hx (v:=.ref D) rfl (λs4 I4 ⟨a,hsa,ha⟩=>?_) hf);have hCa:C≠a:=by
  rcases ha with z | z
  ·rw [z];exact Ydm (Ybk I2.lt hC)
  ·obtain ⟨v,q⟩:=I2.cell y a z;exact Ydm (Ybk q.lt hC)
 refine ⟨m,hn.sameBut hsa hCa,λh' hs'=>⟨_,H',XX (C:=C) (σ:=σ) I2 hC hCf I4 hs',q⟩⟩
end
theorem Jm {K:PySem.W.Frag}{a D:Addr}{xs:List V}{g:TG}{tc:TT}{te:TE}{σ0:St}{R:Hp->Prop}{H1:Hp}(Pv:Nat->List V->Hp->Prop)(h0:Pv 0 [] (upd H1 D (.lst [])))(hl:∀i ys H,i<=xs.length->Pv i ys H->SqL K H a xs)(hs:∀i x ys H,xs[i]?=some x->Pv i ys H->g x σ0 H λσ4 H4=>Ob σ0 σ4/\tc σ4 H4 λb H5=>if b=true then te σ4 H5 λy H6=>H6 D=some (.lst ys)/\ys.length<sizeLine/\Pv (i+1) (ys++[y]) (upd H6 D (.lst (ys++[y]))) else Pv (i+1) ys H5)(hd:∀ys H,Pv xs.length ys H->R H):∃W:Nat->Nat->List V->Hp->Prop,(∃m,W 0 m [] (upd H1 D (.lst [])))/\J2 (Itl K a) D g tc te σ0 W R:=by
 refine ⟨λi m ys H=>m=xs.length-i/\i<=xs.length/\Pv i ys H,⟨_,rfl,Yar _,h0⟩,?_⟩;rintro i m ys H ⟨rfl,hi,p⟩;have q:=hl i ys H hi p;by_cases hlt:i<xs.length
 ·refine .inr ⟨⟨xs,xs[i],q,by simp [hlt]⟩,Pv (i+1),λys' H' p'=>⟨xs.length-(i+1),by lia,rfl,hlt,p'⟩,λx H' y=>?_⟩;obtain ⟨e,y⟩:=y;subst e;exact hs i x ys _ (y xs q) p
 ·have e:i=xs.length:=by lia
  subst e;exact .inl ⟨⟨xs,q,Yad _⟩,hd ys H p⟩
theorem Vr {lo:Int}{n:Nat}{D:Addr}{g:TG}{tc:TT}{te:TE}{σ0:St}{R:Hp->Prop}{H1:Hp}(Pv:Nat->List V->Hp->Prop)(h0:Pv 0 [] (upd H1 D (.lst [])))(hs:∀i ys H,i<n->Pv i ys H->g (.int (lo+i)) σ0 H λσ4 H4=>Ob σ0 σ4/\tc σ4 H4 λb H5=>if b=true then te σ4 H5 λy H6=>H6 D=some (.lst ys)/\ys.length<sizeLine/\Pv (i+1) (ys++[y]) (upd H6 D (.lst (ys++[y]))) else Pv (i+1) ys H5)(hd:∀ys H,Pv n ys H->R H):∃W:Nat->Nat->List V->Hp->Prop,(∃m,W 0 m [] (upd H1 D (.lst [])))/\J2 (Itr lo n) D g tc te σ0 W R:=by
 refine ⟨λi m ys H=>m=n-i/\i<=n/\Pv i ys H,⟨_,rfl,Yar _,h0⟩,?_⟩;rintro i m ys H ⟨rfl,hi,p⟩;by_cases hlt:i<n
 ·refine .inr ⟨hlt,Pv (i+1),λys' H' p'=>⟨n-(i+1),by lia,rfl,hlt,p'⟩,λx H' y=>?_⟩;obtain ⟨e,y⟩:=y;subst e y;exact hs i ys _ hlt p
 ·have e:i=n:=by lia
  subst e;exact .inl ⟨Yad _,hd ys H p⟩
theorem GM {X:Cx}{scope:Scope}{own:List Str}(hf:∀y∈scope.names,y.2≠.free)(hc:∀y∈scope.names,y.2≠.cell)(hk:scope.kind=.function)(hn:∀y∈scope.names,y.2=.local->scope.names.lookup y.1=some .local):J1 X scope [] own []:=by
 have rel:(relabel scope X.env).names=scope.names:=by
  unfold relabel;dsimp only;refine (List.map_congr_left λp hp=>?_).trans (List.map_id _);obtain ⟨n,k⟩:=p;have:(k == NameKind.free)=false:=by
   have:=hf _ hp;cases k <;> first | rfl | exact absurd rfl this
  simp [this]
 refine ⟨closureFor_none hf,hc,hk,hn,λy c h=>by simp at h,λy h=>?_,λp hp=>by simp at hp⟩;rw [rel] at h;rcases h with h | h
 ·exact absurd rfl (hc _ (Ydn h))
 ·exact absurd rfl (hf _ (Ydn h))
def ZbD (a C:Addr)(h:Heap):Prop:=∃ob vs,h.get? a=some ob/\ob.cls=.ref C/\ob.data=.fields vs
def Zho (a C:Addr):HO:=.ext (ZbD a C)
theorem ObjOk.there {P:Program}{w:World}{H:Hp}{h:Heap}{a:Addr}{u:HO}(ok:ObjOk P w H h a u):∃v,h.get? a=some v:=by
 cases u with
 | lst xs=>obtain ⟨_,_,_,_,e⟩:=ok;exact ⟨_,e⟩
 | tup xs=>obtain ⟨_,_,_,o,e,_⟩:=ok;exact ⟨_,e⟩
 | dK kvs=>obtain ⟨_,_,_,_,o,_,_,e,_⟩:=ok;exact ⟨_,e⟩
 | dT kvs=>obtain ⟨_,_,_,_,o,_,_,e,_⟩:=ok;exact ⟨_,e⟩
 | set S n=>obtain ⟨o,_,_,_,e,_⟩:=ok;exact ⟨_,e⟩
 | ins C dx fs=>obtain ⟨_,_,_,e,_⟩:=ok;exact ⟨_,e⟩
 | own y=>obtain ⟨_,e⟩:=ok;exact ⟨_,e⟩
 | xd fs=>obtain ⟨_,⟨_,_,_,e,_⟩,_⟩:=ok;exact ⟨_,e⟩
 | rng lo hi=>obtain ⟨_,_,_,e⟩:=ok;exact ⟨_,e⟩
 | frz ob u=>obtain ⟨e,_⟩:=ok;exact ⟨_,e⟩
 | tbl ps=>exact ⟨_,show h.get? a=some _ from ok⟩
 | met f y=>exact ⟨_,show h.get? a=some _ from ok⟩
 | ext φ=>obtain ⟨_,⟨_,e⟩,_⟩:=ok;exact ⟨_,e⟩
def ZgJ (P:Program)(w:World)(outer:List Env)(H H':Hp)(s:Shared)(a C:Addr)(s':Shared):Prop:=
 ∃(t:Addr)(B:Heap),s'.os=s.os/\AllBare s'.gens/\Un (frs outer) [] H H' s.heap s'.heap/\HOk P w H' s'.heap/\Heap.FlyingW B outer a (.ref C) (.ref t) s'.heap /\
  (∀b o,s'.heap.get? b=some o->H' b≠none->B.get? b=some o)/\(∀b o0 o,s.heap.get? b=some o0->s'.heap.get? b=some o->b ∉ frs outer->B.get? b=some o)
def CXr (P:Program)(w:World):CXT:=λouter H s E e s'=>∃(a C:Addr)(H':Hp),e=.ref a/\ZgJ P w outer H H' s a C s'/\E (.ref C) none H'
section
variable {X:Cx}{qJ:List (Addr×Obj)}{σ:St}{H:Hp}{s:Shared}
def XY (X:Cx)(E:XK):Prop:=∀(qJ:List (Addr×Obj))(σ:St)(H:Hp)(s:Shared)(h':Heap)(a C:Addr)(vs:List Value),Inv X qJ σ H s->Heap.MadeExcOf s.heap h' a (.ref C) vs->E (.ref C) none H->X.xe (.ref a) { s with heap:=h' }
theorem Uv {P:Program}{w:World}{K:W.Frag}{mg:Str->Option Value}{base:Heap}{N:List Str}{qual:Str}{scope:Scope}{f:Addr}{cd:Value}{A:Around}{outer:List Env}{s:Shared}{H:Hp}{E:XK} :
  XY (YT (CXr P w) P w K mg base N qual scope f cd A outer s H E) E:=by
 intro qJ σ H1 s1 h' a C vs I hx hE;have hfr:=I.ok.frames;have hst:s1.heap.FunFrames base (envOfC qual scope s.heap.objs.size f cd::outer):=I.stack;have hin:∀env∈(envOfC qual scope s.heap.objs.size f cd::outer),∀b,env.frame=some b->b∈frs (envOfC qual scope s.heap.objs.size f cd::outer):=λenv he b hb=>Yde.mpr ⟨env,he,hb⟩;have inB:∀b o,s1.heap.get? b=some o->b ∉ frs (envOfC qual scope s.heap.objs.size f cd::outer)->(W.hideAll s1.heap (frs (envOfC qual scope s.heap.objs.size f cd::outer))).get? b=some o:=λb o e n=>W.hideAll_get _ e n;refine wpAny_leaves_madeW (base:=W.hideAll s1.heap (frs (envOfC qual scope s.heap.objs.size f cd::outer))) hfr rfl (λb o q=>W.of_hideAll _ q) (W.funFrames_hide hst hin) hx λh2 t fl tu tn sm=>?_;refine ⟨a,C,H1,rfl,⟨t,_,I.os,I.bare,⟨λb o e n hb _=>?_,λb o e n hb _=>?_,λb o e n _=>?_,λb o e _=>?_,I.base.tups,I.base.frzs,I.base.tbls⟩,λb u e=>?_,fl,λb o e n=>?_,λb o0 o e0 e nb=>?_⟩,hE⟩
 ·have e1:s1.heap.get? b=some o:=I.base.keep b o e n hb (by intro z;exact absurd (show b∈([]:List Addr) from z) (by simp));refine fl.1 b o (inB b o e1 λz=>?_);rcases Yas.mp (I.stkSub b z) with q | q
  ·exact absurd (Ybk (Yak e) I.ok.above) (by rw [q];exact Yct _)
  ·exact hb q
 ·obtain ⟨sl,e1⟩:=I.base.slot b o e n hb (by intro z;exact absurd (show b∈([]:List Addr) from z) (by simp));have nf:∀vs,o.data≠.fields vs:=by
   obtain ⟨_,o',ho',hnf⟩:=I.funs.mem (show b∈(outer.filterMap (·.frame)) from hb);rw [e1] at ho';cases ho';exact hnf
  obtain ⟨sl',e2⟩:=sm b { o with slots:=sl } (hx.keeps b _ e1) nf;exact ⟨sl',e2⟩
 ·exact I.base.free b o e n (by intro z;exact absurd (show b∈([]:List Addr) from z) (by simp))
 ·obtain ⟨o1,e1⟩:=I.base.there b o e (by intro z;exact absurd (show b∈([]:List Addr) from z) (by simp));by_cases hb:b∈frs (envOfC qual scope s.heap.objs.size f cd::outer)
  ·obtain ⟨_,o',ho',hnf⟩:=hst.mem hb;rw [e1] at ho';cases ho';obtain ⟨sl',e2⟩:=sm b o1 (hx.keeps b _ e1) hnf;exact ⟨_,e2⟩
  ·exact ⟨o1,fl.1 b o1 (inB b o1 e1 hb)⟩
 ·have trk:∀c v,s1.heap.get? c=some v->H1 c≠none->h2.get? c=some v:=λc v q hc=>fl.1 c v (inB c v q λz=>hc (I.stkFree c z));refine (I.hok b u e).stay (λc v hc q=>trk c v q ?_) (λ_ q=>q) λ_ _ q=>q;rcases hc with z | z
  ·rw [z,e];simp
  ·rw [z];simp
 ·cases q':H1 b with
  | none=>exact absurd q' n
  | some u=>
   obtain ⟨v,q⟩:=(I.hok b u q').there;have nb:b ∉ frs (envOfC qual scope s.heap.objs.size f cd::outer):=λz=>n (I.stkFree b z);have e2:=fl.1 b v (inB b v q nb);rw [e] at e2;cases e2;exact inB b _ q nb
 ·obtain ⟨o1,e1⟩:=I.base.there b o0 e0 (by intro z;exact absurd (show b∈([]:List Addr) from z) (by simp));have nb':b ∉ frs (envOfC qual scope s.heap.objs.size f cd::outer):=λz=>by
   rcases Yas.mp (I.stkSub b z) with q | q
   ·exact absurd (Ybk (Yak e0) I.ok.above) (by rw [q];exact Yct _)
   ·exact nb q
  have e2:=fl.1 b o1 (inB b o1 e1 nb');have e':h2.get? b=some o:=e;rw [e'] at e2;cases e2;exact inB b _ e1 nb'
theorem ZbE {P:Program}{w:World}{outer:List Env}{H H':Hp}{s s':Shared}{a C t:Addr}{B h2:Heap}(un:Un (frs outer) [] H H' s.heap s'.heap)(hok:HOk P w H' s'.heap)(fr:s'.heap.FunFrames B outer)(trk:∀b o,s'.heap.get? b=some o->H' b≠none->B.get? b=some o)(old:∀b o0 o,s.heap.get? b=some o0->s'.heap.get? b=some o->b ∉ frs outer->B.get? b=some o)(st:B.StaysIn h2)(sm:s'.heap.UpToSlots h2) :
  Un (frs outer) [] H H' s.heap h2/\HOk P w H' h2:=by
 refine ⟨⟨λb o e n hb hx=>st b o (old b o o e (un.keep b o e n hb hx) hb),λb o e n hb hx=>?_,un.free,λb o e hx=>?_,un.tups,un.frzs,un.tbls⟩,λb u e=>?_⟩
 ·obtain ⟨sl,e1⟩:=un.slot b o e n hb hx;obtain ⟨_,o',ho',hnf⟩:=fr.mem hb;rw [e1] at ho';cases ho';obtain ⟨sl',e2⟩:=sm b _ e1 hnf;exact ⟨sl',e2⟩
 ·obtain ⟨o1,e1⟩:=un.there b o e hx;by_cases hb:b∈frs outer
  ·obtain ⟨_,o',ho',hnf⟩:=fr.mem hb;rw [e1] at ho';cases ho';obtain ⟨sl',e2⟩:=sm b _ e1 hnf;exact ⟨_,e2⟩
  ·exact ⟨o1,st b o1 (old b o o1 e e1 hb)⟩
 ·refine (hok b u e).stay (λc v hc q=>st c v (trk c v q ?_)) (λ_ q=>q) λ_ _ q=>q;rcases hc with z | z
  ·rw [z,e];simp
  ·rw [z];simp
end
abbrev Zhp:List Value:=[.type "ValueError", .type "Exception", .type "BaseException", .type "object"]
abbrev ExcC (K:W.Frag)(C:Addr):Prop:=W.excIn K C Zhp "ValueError.__new__" = true
theorem Xq {K:W.Frag}{h:Heap}{C:Addr}(KX:K.In h)(ex:ExcC K C):∃mro' ns' mN',(∃nm' qn' bs' hd' sn' sub' ab' col' dd' j0 j1 j2 j3 j5,
  h.get? C=some (excClassObj nm' qn' C ns' bs' mro' hd' sn' sub' ab' col' dd' j0 j1 j2 j3 j5 "ValueError.__new__"))/\h.Ns ns' mN'/\mN' "__init__" = none/\OwnTail h Zhp mro':=by
 have ex':=ex;unfold ExcC W.excIn at ex';split at ex'
 ·rename_i dd' cd' sl' lk;have lk':=KX _ _ lk;split at ex'
  ·rename_i C' rest' j0 j1 j2 j3 n' j5 hm hs;rw [Ycc,Ycc,Ycc,Ycc,Ycc,Ybg,Ybg,Ybg] at ex';obtain ⟨⟨⟨⟨⟨z1,z2⟩,z3⟩,z4⟩,z5⟩,z6⟩:=ex';have z3':cd'.hasDel=false:=by simpa using z3
   subst z1 z2;cases cd' with
   | mk a1 a2 a3 a4 a5 a6 a7 a8 a9 a10 a11=>
    have hm':a3=.ref C'::rest':=hm;have h11:a11=false:=z3';subst hm' h11;have es:sl'=#[j0,j1,j2,j3,some (.builtin "ValueError.__new__"),j5]:=by
     cases sl' with
     | mk l=>exact Ybc Array.mk hs
    subst es;exact ⟨rest',a4,_,⟨_,_,_,_,_,_,_,_,_,_,_,_,_,_,lk'⟩,.of_isNs (W.isNs_of_in KX z5),W.nsMap_none_of_in KX z5 z6,W.tail_of_in KX z4⟩
  ·cases ex'
 ·cases ex'
section
variable {X:Cx}
def ZeF (C:Addr)(E:XK)(t:TA):TS:=λ_ σ H=>t σ H λvs H1=>vs.length<=sizeLine/\E (.ref C) none H1
theorem XZ {C:Addr}{E:XK}{x:Str}{np jQ pos:Pos}{e:Expr}{es:List Expr}{t:TA}(hc:X.calm=true)(hR:XY X E)(hg:Gl X x)(hm:X.mg x=some (.ref C))(ex:ExcC X.K C)(ha:PA X (e::es) t)(hdb:(x == ("__debug__" : Str))=false:=by decide)(he:starEach (e::es) X.env=(false,eval e X.env)::starEach es X.env:=by rfl)(hpl:(backTo jQ (starEach es X.env)).any (·.1)=false:=by rfl) :
  PS X (.Raise (some (.Call (.Name x np) (e::es) [] jQ)) none pos) (ZeF C E t):=by
 intro qJ s σ H D I h;obtain ⟨mro',ns',mN',⟨nm',qn',bs',hd',sn',sub',ab',col',dd',j0,j1,j2,j3,j5,hC⟩,hN,hni,T⟩:=Xq I.mod.kin ex;refine wpAny_Raise_call_subT (C:=C) (nm:=nm') (q:=qn') (N:=ns') (bs:=bs') (bm:=mro') (hdct:=hd') (sn:=sn') (sub:=sub') (ab:=ab') (col:=col') (dd:=dd') (k0:=j0) (k1:=j1) (k2:=j2) (k3:=j3) (k5:=j5)
  PySem.F.excBase_ValueError (mN:=mN') (T.hasType PySem.F.excBase_ValueError.hasBase) (I.ok.hd hc) (by rw [he];show (false || (backTo jQ (starEach es X.env)).any (·.1))=false;rw [hpl];rfl) hni (VL I hg hm ⟨rfl,?_⟩ hdb)
 have hA:=ha jQ qJ s σ H _ I h;rw [he] at hA ⊢;refine Calls.evalArgs_plain (thn hA λus s2 ⟨vs,H2,I2,r2,hl,q2⟩=>?_);exact ⟨rfl,by rw [<-r2.length];exact hl,I2.bk _ _ hC,hN.keeps I2.bk,T.keeps I2.bk,λh' a hm=>hR qJ σ H2 s2 h' a C us I2 hm q2⟩
variable {qJ:List (Addr×Obj)}{σ:St}{H:Hp}{s:Shared}
end
theorem X0 {M:Model}{h:Heap}{a C:Addr}(hx:ZbD a C h):W.Looks M h (typeOf (.ref a)) (.ref C):=by
 obtain ⟨ob,vs,e,c,d⟩:=hx;exact c▸(W.Looks.ld e).andThen .now
section
variable {X:Cx}{k:Nat}{f:Addr}{fd:FuncData}{ps:List Str}{sp:Sp}{dvs:List V}{ds:List Value}{fx:Str}{fp jQ bpos np hpos pos:Pos}{e:Expr}{es:List Expr}{t:TA}
end
theorem ZY {K:W.Frag}{prog:Program}{w:World}{A:Around}{E:EX}{Q:Option Value->Shared->Prop}{s:Shared}{a C:Addr}(KX:K.In s.heap)(hx:ZbD a C s.heap)(hga:W.findIn K (.ref C) "__getattribute__" = some (some (.builtin "BaseException.__getattribute__")))(hnga:W.findIn K (.ref C) "__getattr__" = some none)(hcl:W.findIn K (.ref C) "__class__" = some (some (.builtin "object.__class__")))(hm:W.mroIn K C (.type "object")=some true)(hB:W.subIn K (.ref C) (.type "BaseException")=some true)(h:Q (some (.ref C)) { s with toks:=s.toks+1 }):wpAny (model prog w) A (getAttr? (.ref a) "__class__") Q E s:=by
 have L0:=X0 (M:=model prog w) hx;have L1:=W.looks_findIn (M:=model prog w) KX hga;have L2:=W.looks_findIn (M:=model prog w) KX hnga;have L3:=W.looks_findIn (M:=model prog w) KX hcl;have L4:=W.looks_subIn (M:=model prog w) KX hB;obtain ⟨h0,g,d,t,os⟩:=s;have f3:=PySem.F.attr_ValueError.ga.bind (.ref a);unfold getAttr? getAttrBy? getAttrBy;refine Yaa (wpAny_mkText (Yaa (Ydz (Yci (Yaa (L0.at (Yaa (L1.at ?_))))))));dsimp only;have hx2:(onTheHeap (Value.ref C) && Value.builtin "BaseException.__getattribute__" == Value.builtin "object.__getattribute__")=false:=by
  have z:(Value.builtin "BaseException.__getattribute__" == Value.builtin "object.__getattribute__")=false:=by decide +kernel
  rw [z,Bool.and_false]
 rw [hx2];simp only [Yeg,Ycu];unfold getAttrByItsOwn
 repeat (any_goals (first | assumption | with_reducible refine L0.at ?_ | with_reducible refine L2.at ?_ | wp_step))
 have hsp:splitId "BaseException.__getattribute__" = some ("BaseException", "__getattribute__"):=by decide +kernel
 have hkd:builtinKind "BaseException.__getattribute__" = some .slot:=by decide +kernel
 have har:=PySem.F.args_bexc_ga (.ref a) (.str (Str.ofString "__class__") t);refine codeAny_call_builtin PySem.F.attr_ValueError.ga.plain PySem.F.entry_bexc_ga ?_;show wpAny _ _ (checkBuiltinCall "BaseException.__getattribute__" ⟨[.ref a,.str (Str.ofString "__class__") t],[]⟩) _ _ _;simp only [checkBuiltinCall,hkd,hsp];refine Yaa ?_;unfold isInstance;have f5:=PySem.F.typeOf_object_class;have f6:=PySem.F.slot_gs_get.lookup;have f7:=PySem.F.slot_gs_set.lookup;have hT5:(⟨h0,g,d,t+1,os⟩:Shared).TypeIs (.builtin "object.__class__") "getset_descriptor" := PySem.F.typeOf_object_class;refine Yaa (L0.at (L4.at ?_))
 repeat (any_goals (first | assumption | with_reducible refine L0.at ?_ | with_reducible refine L3.at ?_ | wp_step))
 have Lo:W.Looks (model prog w) h0 (isSubtype (.ref C) (.type (".".intercalate ("object.__class__".cutAt '.').dropLast))) true:=by
  rw [PySem.F.owner_object_class];exact W.looks_mroIn KX hm
 have hT6:(⟨h0,g,d,t+1,os⟩:Shared).TypeIs (.builtin "object.__class__") "getset_descriptor" := PySem.F.typeOf_object_class;refine codeAny_call_builtin PySem.F.slot_gs_get.plain PySem.F.entry_gs_get (PySem.F.slot_gs_get.check _ _ _ _ _ _ _ _ hT6 (PySem.F.args_gs_get _ _ _) ?_)
 repeat (any_goals (first | assumption | with_reducible refine L0.at ?_ | with_reducible refine Lo.at ?_ | wp_step))
 refine ⟨Code.quiet_builtin _ (by decide +kernel),Ycz PySem.F.entry_object_class ?_⟩
 repeat (any_goals (first | assumption | with_reducible refine L0.at ?_ | wp_step))
structure ZgK (K:W.Frag)(C:Addr):Prop where
 ex:ExcC K C
 ga:W.findIn K (.ref C) "__getattribute__" = some (some (.builtin "BaseException.__getattribute__"))
 nga:W.findIn K (.ref C) "__getattr__" = some none
 cl:W.findIn K (.ref C) "__class__" = some (some (.builtin "object.__class__"))
 ob:W.mroIn K C (.type "object")=some true
 be:W.subIn K (.ref C) (.type "BaseException")=some true
theorem X1 {K:W.Frag}{a C:Addr}(k:ZgK K C):W.KitX K (.ref a) (.ref C) (ZbD a C) where
 ty:=λ_ _ _ p=>X0 p
 it:=λM h KX _=>by
  obtain ⟨_,_,_,⟨_,_,_,_,_,_,_,_,_,_,_,_,_,_,hC⟩,_⟩:=Xq KX k.ex;intro A Q E s kk q;unfold isType loadHead;exact Yaa (wpAny_loadPart (kk _ _ hC) (Yab q))
 ne:=λh tp dd its n sl KX htp=>by
  obtain ⟨_,_,_,⟨_,_,_,_,_,_,_,_,_,_,_,_,_,_,hC⟩,_⟩:=Xq KX k.ex;refine Yev.mpr λq=>?_;have e:C=tp:=Value.ref.inj (Ybg.mp q);rw [<-e,hC] at htp;have z:=Ybc Obj.data (Ybl htp);unfold excClassObj at z;cases z
 ca:=λKX p q=>ZY KX p k.ga k.nga k.cl k.ob k.be q
def WK:V->Value
 | .ty n=>.type n
 | .ref a=>.ref a
 | _=>.none
def ZZ:V->Bool
 | .ty _=>true
 | .ref _=>true
 | _=>false
theorem RelV.cls {c:V}{u:Value}(r:RelV c u)(h:ZZ c=true):u=WK c:=by
 cases c with
 | ty n=>exact r
 | ref a=>exact r
 | _=>cases h
theorem Vals.cls:∀{cs:List V}{us:List Value},Vals cs us->cs.all ZZ=true->us=cs.map WK
 | _,_,.nil,_=>rfl
 | _,_,.cons r t,h=>by
  rw [List.all_cons,Ycc] at h;rw [Yaq,r.cls h.1,Vals.cls t h.2]
def Zhq (K:W.Frag):List V->Hp->VK->Prop:=λxs H Q=>∃x c b,xs=[x,c]/\Q (.bl b) H /\
 ((∃t,YQ K H x t/\ZZ c=true/\W.kitOne K t (WK c)=some b) \/
  (∃a C,x=.ref a/\H a=some (Zho a C)/\ZgK K C/\ZZ c=true/\W.kitOne K (.ref C) (WK c)=some b) \/
  (∃a C tp cs,x=.ref a/\H a=some (Zho a C)/\ZgK K C/\c=.ref tp/\H tp=some (.tup cs)/\cs.all ZZ=true/\W.kitAny K (.ref C) (cs.map WK)=some b))
theorem ZbF {X:Cx}:Od X (.builtin "isinstance") (Zhq X.K):=by
 intro qJ s σ H xs us Q I rv h;obtain ⟨x,c,b,rfl,q,h⟩:=h;obtain ⟨u,cv,rfl,ru,rc⟩:=rv.two;have fin:∀tk,EP X qJ σ Q (.bool b) { s with toks:=tk }:=λtk=>⟨.bl b,H,I.tok tk,rfl,q⟩;rcases h with ⟨t,ty,hc,e⟩ | ⟨a,C,rfl,ha,k,hc,e⟩ | ⟨a,C,tp,cs,rfl,ha,k,rfl,ht,hc,e⟩
 ·rw [rc.cls hc];exact ZL I ru ty e fin
 ·rw [rc.cls hc];cases (show u=Value.ref a from ru);obtain ⟨p,_⟩:=I.hok a _ ha;exact Ycy (X1 k) I.kIn p e (λz=>nomatch z) fin
 ·cases (show u=Value.ref a from ru);cases (show cv=Value.ref tp from rc);obtain ⟨p,_⟩:=I.hok a _ ha;obtain ⟨_,its,r,o,eo,co,n,dn⟩:=I.hok tp _ ht;obtain ⟨ocl,odi,oda,osl⟩:=o;cases (show ocl=.type "tuple" from co);cases (show oda=.seq its.toArray n from dn);exact W.kia_tup (its:=its) (X1 k) I.kIn p eo (by rw [r.cls hc];exact e) (λz=>nomatch z) fin
mutual
inductive DatV (K:W.Frag)(H:Hp):V->PyData->Prop
 | non:DatV K H .non .none
 | bl (b:Bool):DatV K H (.bl b) (.bool b)
 | int (i:Int):DatV K H (.int i) (.int i)
 | str (x:Str):DatV K H (.str x) (.str x)
 | lst {a:Addr} {xs:List V} {ds:List PyData}:SqL K H a xs->DatVs K H xs ds->DatV K H (.ref a) (.list ds)
 | tup {a:Addr} {xs:List V} {ds:List PyData}:SqT K H a xs->DatVs K H xs ds->DatV K H (.ref a) (.tuple ds)
inductive DatVs (K:W.Frag)(H:Hp):List V->List PyData->Prop
 | nil:DatVs K H [] []
 | cons {x:V} {d:PyData} {xs:List V} {ds:List PyData}:DatV K H x d->DatVs K H xs ds->DatVs K H (x::xs) (d::ds)
end
section
variable {X:Cx}{qJ:List (Addr×Obj)}{σ:St}{H:Hp}{s:Shared}
mutual
theorem DatV.reads (I:Inv X qJ σ H s):∀{x:V}{d:PyData}{u:Value},DatV X.K H x d->RelV x u->∃as,Reads s.heap u d as
 | _,_,_,.non,r=>by cases r;exact ⟨_,.none⟩
 | _,_,_,.bl b,r=>by cases r;exact ⟨_,.bool b⟩
 | _,_,_,.int i,r=>by obtain ⟨t,rfl⟩:=r;exact ⟨_,.int i t⟩
 | _,_,_,.str x,r=>by obtain ⟨t,rfl⟩:=r;exact ⟨_,.str x t⟩
 | _,_,_,.lst hq hs,r=>by
  cases r;obtain ⟨its,rv,⟨o,n,e,c,dd,dt⟩,_⟩:=I.list hq;obtain ⟨as,ra⟩:=DatVs.reads I hs rv;exact ⟨_,.list e c dt (by simpa using ra)⟩
 | _,_,_,.tup hq hs,r=>by
  cases r;obtain ⟨its,rv,⟨o,e,c,n,dt⟩,_⟩:=I.tuple hq;obtain ⟨as,ra⟩:=DatVs.reads I hs rv;exact ⟨_,.tuple e c dt (by simpa using ra)⟩
theorem DatVs.reads (I:Inv X qJ σ H s):∀{xs:List V}{ds:List PyData}{us:List Value},DatVs X.K H xs ds->Vals xs us->∃as,ReadsAll s.heap us ds as
 | _,_,_,.nil,.nil=>⟨_,.nil⟩
 | _,_,_,.cons h hs,.cons r rs=>by
  obtain ⟨as,ra⟩:=DatV.reads I h r;obtain ⟨bs,rb⟩:=DatVs.reads I hs rs;exact ⟨_,.cons ra rb⟩
end
end
noncomputable def Zgb (K:W.Frag)(neg:Bool):R2:=λx y H Q=>∃d1 d2,DatV K H x d1/\DatV K H y d2/\SeqAt.shaped d1=true/\SeqAt.shaped d2=true/\Q (.bl (neg != PyData.eqv d1 d2)) H
theorem ZeG {X:Cx}(hu:X.A.units+64<cLine):OpR X (compareOp .Eq) (Zgb X.K false):=by
 intro qJ s σ H x y v u Q I rx ry h;obtain ⟨d1,d2,h1,h2,s1,s2,q⟩:=h;obtain ⟨as,r1⟩:=h1.reads I rx;obtain ⟨bs,r2⟩:=h2.reads I ry;exact eq_dataH r1 r2 s1 s2 hu ⟨.bl _,H,I,by cases PyData.eqv d1 d2 <;> rfl,q⟩
theorem ZeH {X:Cx}(hu:X.A.units+64<cLine):OpR X (compareOp .NotEq) (Zgb X.K true):=by
 intro qJ s σ H x y v u Q I rx ry h;obtain ⟨d1,d2,h1,h2,s1,s2,q⟩:=h;obtain ⟨as,r1⟩:=h1.reads I rx;obtain ⟨bs,r2⟩:=h2.reads I ry;exact ne_dataH r1 r2 s1 s2 hu ⟨.bl _,H,I,by cases PyData.eqv d1 d2 <;> rfl,q⟩
noncomputable def Lt2 (p:Nat)(a:Int):Prop:=a.natAbs<2 ^ p
noncomputable def ZgL (i j:Int):Prop:=0<j/\Lt2 9000 j
theorem JU {X:Cx}:OpR X (binaryOp .FloorDiv) (rI ZgL λi j=>.int (i / j)):=opI λi j _ _ _ _ _ hc q=>by
 have h1:(0:Int)<j:=hc.1;have h2:j.natAbs<2 ^ 9000:=hc.2;refine floordiv_int (by lia) (by rw [Int.fdiv_eq_ediv_of_nonneg i (by lia)];exact q) (.inl (PyProof.noPylong_of_log2 ?_));exact (Nat.log2_lt (by lia)).mpr h2
theorem Same.new {H:Hp}{p:Addr}{o:HO}(h:H p=none):Same H (upd H p o):=λb u e=>by rw [Gm (Gh e h)];exact e
theorem Same.put {H H1:Hp}{p:Addr}{o:HO}(s:Same H H1)(h:H p=none):Same H (upd H1 p o):=λb u e=>by rw [Gm (Gh e h)];exact s b u e
theorem Gj {H:Hp}{p b:Addr}{o u:HO}(h:H b=some u)(n:b≠p):upd H p o b=some u:=by rw [Gm n];exact h
theorem G6 {H:Hp}{l:Addr}{zs:List V}{o:HO}(h:H l=some (.lst zs)):∀p ys,H p=some (.tup ys)->upd H l o p=some (.tup ys):=λp ys e=>Gj e (Jd e h (λz=>by cases z))
section
variable {P:Program}{w:World}{K:W.Frag}{mg:Str->Option Value}{base:Heap}
theorem Fun.okR {x qual:Str}{st:Stmt}{f:Addr}{fd:FuncData}{N ps:List Str}{k:Nat}{sp:Sp}(F:Fun K x qual st f fd)(S:Gp N ps (Gf st))(len:∀vs H Q E,sp vs H Q E->vs.length=ps.length)(jX:∀(cdv:Value)(A:Around)(outer:List Env)(s:Shared)(H:Hp)(vs:List V)(Q:VK)(E:XK),Room k (A.deeper (envOfC qual (Gf st) s.heap.objs.size f cdv))->sp vs H Q E ->
   ∃t,PSs (YT (CXr P w) P w K mg base N qual (Gf st) f cdv A outer s H E) (G0 st) t/\t { nx:=λ_ H'=>Q .non H',rt:=Q } (start N vs) H):G4 P w K mg base (CXr P w) (k+1) f fd ps sp:=by
 obtain ⟨oc,od,kV,doc,pm,an,cdv,ct,osl,rfl,lk,hcd⟩:=F.ex;refine ZP lk hcd S len λA outer s H vs Q E hr hsp=>?_;obtain ⟨t,h,q⟩:=jX cdv A outer s H vs Q E hr hsp;exact ⟨t,h,q⟩
theorem Z0 {X:Cx}:OP (CXr X.prog X.w) X E0:=λ_ _ _ _ _ _ _ ⟨_,_,_,_,_,h⟩=>h.elim
end
section
variable {X:Cx}
theorem OA {x:Str}{T:String}{pos:Pos}(hm:X.mg x=none)(hv:bootBuiltins x=some (.type T))(hg:Gl X x:=by rfl)(hn:x ≠ "__name__" := by decide)(hd:(x == ("__debug__" : Str))=false:=by decide):PE X (.Name x pos) (tC (.ty T)):=Zc4 hg hm hv rfl hn hd
end
theorem Jv:bootBuiltins "isinstance" = some (.builtin "isinstance"):=by first | rfl | decide +kernel
theorem Jh:bootBuiltins "tuple" = some (.type "tuple"):=by first | rfl | decide +kernel
theorem JK:bootBuiltins "list" = some (.type "list"):=by first | rfl | decide +kernel
theorem Z1:bootBuiltins "bool" = some (.type "bool"):=by first | rfl | decide +kernel
theorem X2:bootBuiltins "int" = some (.type "int"):=by first | rfl | decide +kernel
theorem JD {K:W.Frag}{t:Value}:W.kitOne K t t=some true:=by
 unfold W.kitOne;rw [if_pos (Yfl t)]
section
variable {X:Cx}(K:W.Frag)
theorem Zbp (h:X.K=K:=by rfl):Od X (.builtin "isinstance") (Zhq K):=h▸ZbF
theorem Vg (h:X.K=K:=by rfl):IxR X (Zhm K):=h▸Zdk
theorem WL (h:X.K=K:=by rfl):IxR X (Zhn K):=h▸Zey
theorem kIn (h:X.K=K:=by rfl):OpR X (compareOp .In) (rIn K false):=h▸ZS
theorem Xj (h:X.K=K:=by rfl):Od X (.builtin "len") (λxs H Q=>∃p ys,xs=[.ref p]/\(SqL K H p ys\/SqT K H p ys)/\Q (.int ys.length) H):=h▸WG
theorem VT (h:X.K=K:=by rfl):Od X (.type "list") (λxs H Q=>∃p ys,xs=[.ref p]/\(SqL K H p ys\/SqT K H p ys)/\∀l,H l=none->Q (.ref l) (upd H l (.lst ys))):=h▸WH
theorem Zdp (hu:X.A.units+64<cLine)(h:X.K=K:=by rfl):OpR X (compareOp .Eq) (Zgb K false):=h▸ZeG hu
theorem Zec (hu:X.A.units+64<cLine)(h:X.K=K:=by rfl):OpR X (compareOp .NotEq) (Zgb K true):=h▸ZeH hu
theorem kSl (h:X.K=K:=by rfl):SlR X (Zf9 K):=h▸Zdl
theorem Zbq {es:List Expr}{k:Nat}{t:TGs}{n:Nat}{pos:Pos}(hc:X.calm=true)(h:PGs X es t)(hK:X.K=K:=by rfl)(hn:(assignEach es X.env).length=n:=by rfl)(hst:(assignEach es X.env).findIdx? (·.1)=none:=by rfl):PG X (.Tuple es k pos) (Zhh K n t):=hK▸Zep hc h hn hst
theorem J3 {tg l:Expr}{tl:TE}(hl:PE X l tl)(h:X.K=K:=by rfl):PI X tg l (Zer K tl):=h▸Zc6 hl
end
end L2
namespace L2
open PySem
end L2
namespace L2
open PySem PySem.Spec PyProof.Rows
noncomputable def AllP {α:Type}(P:α->Prop):List α->Prop
 | []=>True
 | x::r=>P x/\AllP P r
theorem AllP.mem {α:Type}{P:α->Prop}:∀{l:List α},AllP P l->∀x∈l,P x
 | _::_,h,_,.head _=>h.1
 | _::_,h,x,.tail _ m=>AllP.mem h.2 x m
theorem Gw {X:Cx}{scope:Scope}{cl:List (Str×Addr)}{own:List Str}{fr:List (Str×Nat)}(L:List (Str×NameKind))(hcl:closureFor scope X.env=pure cl)(hL:(relabel scope X.env).names=L)(hc:∀y∈scope.names,y.2≠.cell)(hk:scope.kind=.function)(hn:∀y∈scope.names,y.2=.local->scope.names.lookup y.1=some .local)(hcs:AllP (λp=>X.env.cells.lookup p.1=some p.2) cl)(qG:AllP (λp=>(p.2=.cell\/p.2=.free)->∃c,cl.lookup p.1=some c) L)(hfr:AllP (λp=>X.N[p.2]?=some p.1/\(X.env.kindOf p.1=some .cell\/X.env.kindOf p.1=some .free)/\(L.lookup p.1=some .cell\/L.lookup p.1=some .free)) fr):J1 X scope cl own fr:=
 ⟨hcl,hc,hk,hn,λy c h=>hcs.mem (y,c) (Ydn h),λy h=>by
  rw [hL] at h;rcases h with h | h
  ·exact qG.mem _ (Ydn h) (.inl rfl)
  ·exact qG.mem _ (Ydn h) (.inr rfl),λp hp=>by
  rw [hL];exact hfr.mem p hp⟩
theorem JE {k:NameKind}{P:Prop}(h:k=.cell\/k=.free)(h1:(k == .cell)=false:=by rfl)(h2:(k == .free)=false:=by rfl):P:=by
 rcases h with z | z
 ·subst z;exact absurd h1 (by decide)
 ·subst z;exact absurd h2 (by decide)
theorem ZbG:bootBuiltins "min" = some (.builtin "min"):=by first | rfl | decide +kernel
section
variable {H0 H H':Hp}{d p:Addr}{o:HO}
end
theorem Gy {t u:TS}{D:Zy}{σ:St}{H:Hp}(Pm:St->Hp->Prop)(h2:∀ σ' H',Pm σ' H'->u D σ' H')(h1:(∀ σ' H',Pm σ' H'->u D σ' H')->t { D with nx:=u D } σ H):Zeo t u D σ H:=h1 h2
theorem X3 {α:Type}:∀(ps rs:List α)(k:Nat)(y:α),ps[k]?=some y->((rs++[y])++ps.eraseIdx k).Perm (rs++ps)
 | [],_,k,y,h=>by simp at h
 | x::r,rs,0,y,h=>by
  simp at h;subst h;rw [Ybs];exact List.Perm.refl _
 | x::r,rs,k+1,y,h=>by
  have ih:=X3 r [] k y (by simpa using h);rw [List.eraseIdx_cons_succ,Ybs];refine Yga rs ?_;have ih':(y::r.eraseIdx k).Perm r:=by simpa using ih
  exact (List.Perm.swap x y _).trans (ih'.cons x)
section
variable {X:Cx}(K:W.Frag)
end
section
variable {X:Cx}
theorem Z2:UnR X (unaryOp .USub) (rU λi=>.int (-i)):=by
 intro qJ s σ H x v Q I rx h;obtain ⟨i,rfl,q⟩:=h;obtain ⟨t,rfl⟩:=rx;exact neg_int ⟨.int (-i),H,I.tok _,⟨_,rfl⟩,q⟩
theorem ZcE {xs:List V}{k:Nat}:Uf xs none (some (k:Int))=xs.take k:=by
 unfold Uf;rw [HT.sIx_none,HT.sIx_nat,List.drop_zero,Nat.sub_zero];by_cases h:k<=xs.length
 ·rw [Yeh h]
 ·rw [Yfm (by lia),Ybp,Yew (by lia)]
theorem X4 {xs:List V}{k:Nat}:Uf xs (some (k:Int)) none=xs.drop k:=by
 unfold Uf;rw [HT.sIx_none,HT.sIx_nat];by_cases h:k<=xs.length
 ·rw [Yeh h,Yew (by rw [Ycl];exact Yad _)]
 ·rw [Yfm (by lia),List.drop_length,Yfn (by lia),List.take_nil]
theorem Jn {K:W.Frag}{H:Hp}:∀ns:List Int,DatVs K H (ns.map V.int) (ns.map PyData.int)
 | []=>.nil
 | n::ns=>.cons (.int n) (Jn ns)
theorem UF:∀ns:List Int,PyData.canLayAll0 (ns.map PyData.int)=true
 | []=>by simp [PyData.canLayAll0]
 | n::ns=>by
  rw [Yaq];simp [PyData.canLayAll0,PyData.canLay0,UF ns]
theorem J4:∀ns:List Int,PyData.depthAll (ns.map PyData.int)<=1
 | []=>by simp [PyData.depthAll]
 | n::ns=>by
  have ih:=J4 ns;rw [Yaq];simp only [PyData.depthAll,PyData.depth]
  lia
theorem UZ (ns:List Int):SeqAt.shaped (.list (ns.map PyData.int))=true:=by
 unfold SeqAt.shaped;rw [Ycc];have:=J4 ns;refine ⟨by simp only [PyData.canLay0];exact UF ns,Ybi ?_⟩;simp only [PyData.depth]
 lia
theorem VU (ns ms:List Int):PyData.eqv (.list (ns.map PyData.int)) (.list (ms.map PyData.int))=decide (ns=ms):=by
 rw [<-W.ked_eqvAll];simp only [PyData.eqv]
theorem Zdq {P:Program}{w:World}{K:W.Frag}{mg:Str->Option Value}{base:Heap}{N:List Str}{qual:Str}{scope:Scope}{f:Addr}{cd:Value}{A:Around}{outer:List Env}{s:Shared}{H:Hp}{E:XK} :
  OP (CXr P w) (YT (CXr P w) P w K mg base N qual scope f cd A outer s H E) E:=by
 intro qJ σ H1 s1 ev s' I h;obtain ⟨a,C,H',rfl,⟨t,B,os,bare,un,hok,fl,trk,old⟩,hE⟩:=h;have hfr:=I.ok.frames;have nox:∀b:Addr,b ∉ (YT (CXr P w) P w K mg base N qual scope f cd A outer s H E).ex:=λb z=>absurd (show b∈([]:List Addr) from z) (by simp);refine wpAny_leaves_onW hfr rfl fl λh2 fl2 sm=>?_;obtain ⟨u2,k2⟩:=ZbE (t:=t) (a:=a) (C:=C) un hok fl.2.2.1 trk old fl2.1 sm;have u1:Un (frs (envOfC qual scope s.heap.objs.size f cd::outer)) [] H H1 s.heap s1.heap:=Un.mono I.base (λb hb=>by
  have hb':b∈frs outer:=hb;obtain ⟨env,he,q⟩:=Yde.mp hb';exact Yde.mpr ⟨env,Ybb _ he,q⟩) (λb hb=>absurd hb (nox b))
 have u3:=u1.trans u2;have nst:∀b o,s.heap.get? b=some o->b ∉ frs outer->b ∉ frs (envOfC qual scope s.heap.objs.size f cd::outer):=λb o e hb z=>by
  rcases Yas.mp (I.stkSub b z) with q | q
  ·exact absurd (Ybk (Yak e) I.ok.above) (by rw [q];exact Yct _)
  ·exact hb q
 have inst:∀b,b∈frs outer->b∈frs (envOfC qual scope s.heap.objs.size f cd::outer):=λb hb=>by
  obtain ⟨env,he,q⟩:=Yde.mp hb;exact Yde.mpr ⟨env,Ybb _ he,q⟩
 refine ⟨a,C,H',rfl,⟨t,B,os.trans I.os,bare,⟨λb o e n hb hx=>u3.keep b o e n (nst b o e hb) hx,λb o e n hb hx=>u3.slot b o e n (inst b hb) hx,u3.free,u3.there,u3.tups,u3.frzs,u3.tbls⟩,k2,fl2,λb o e n=>?_,λb o0 o e0 e nb=>?_⟩,hE⟩
 ·cases q':H' b with
  | none=>exact absurd q' n
  | some u=>
   obtain ⟨v,q⟩:=(hok b u q').there;have e1:=trk b v q n;have e2:=fl2.1 b v e1;have e':h2.get? b=some o:=e;rw [e'] at e2;cases e2;exact e1
 ·obtain ⟨o1,e1⟩:=u1.there b o0 e0 (by simp);obtain ⟨o2,e2⟩:=un.there b o1 e1 (by simp);have e3:=old b o1 o2 e1 e2 (nst b o0 e0 nb);have e4:=fl2.1 b o2 e3;have e':h2.get? b=some o:=e;rw [e'] at e4;cases e4;exact e3
open Classical in
end
section
variable {X:Cx}
theorem Vals.drop' {xs:List V}{us:List Value}(h:Vals xs us):∀k:Nat,Vals (xs.drop k) (us.drop k):=by
 induction h with
 | nil=>intro k;rw [List.drop_nil,List.drop_nil];exact .nil
 | cons r t ih=>
  intro k;cases k with
  | zero=>exact .cons r t
  | succ k=>rw [List.drop_succ_cons,List.drop_succ_cons];exact ih k
noncomputable def Ite (K:W.Frag)(a:Addr):It:=
 ⟨λi H=>∃xs x,SqL K H a xs/\xs[i]?=some x,λi H x H'=>∃T y,x=.ref T/\H T=none/\H'=upd H T (.tup [.int (i:Nat),y])/\∀xs,SqL K H a xs->xs[i]?=some y,λi H=>∃xs,SqL K H a xs/\xs.length<=i⟩
theorem Z3 {P:Program}{w:World}{K:W.Frag}{elts:List Expr}{k:Nat}{pos:Pos}(a e it:Addr)(hne:e≠it) :
  Zc5 P w K (.Tuple elts k pos) (Ite K a) [e,it] e (λi h=>(∃old,IsEnum h e it ((i:Nat):Int) old)/\h.IsListIter it a i) where
 mem:=by simp
 obj:=λi h st b hb=>by
  obtain ⟨⟨old,he⟩,⟨o,ei,c,d⟩⟩:=st;rcases Yas.mp hb with rfl | hb
  ·exact ⟨_,he,λv z=>by
    have z':Data.fields _=Data.cell v:=z;cases z'⟩
  ·have eb:b=it:=by simpa using hb
   subst eb;exact ⟨o,ei,λv z=>by rw [d] at z;cases z⟩
 keep:=λi h h' st q=>by
  obtain ⟨⟨old,he⟩,hi⟩:=st;exact ⟨⟨old,q e (by simp) _ he⟩,hi.at λo ho=>q it (by simp) o ho⟩
 item:=by
  intro X hP hw hK hc i qJ s σ H E I hf st hg;subst hP hw hK;obtain ⟨xs,x,hq,hx⟩:=hg;obtain ⟨its,rv,p,hz⟩:=I.list hq;obtain ⟨u,hu,ru⟩:=rv.get hx;obtain ⟨⟨old,he⟩,hit⟩:=st;refine wpAny_pyNext_enum_item he hit p.isList (x:=u) (by simpa using hu) hne λh1 heo hit1 ht1 hz1 hk1=>?_;refine ⟨_,rfl,wpAny_letOwnedTupleGo_enum (s:={ s with heap:=h1,toks:=s.toks+1 }) heo λh2 he2 hs2=>?_⟩;have hs2':Heap.SameBut e h1 h2:=hs2;have hfr:H s.heap.objs.size=none:=I.fresh;have hel:e<s.heap.objs.size:=Yak he;have kk:∀b o,b ∉ [e,it]->s.heap.get? b=some o->h2.get? b=some o:=λb o hb q=>by
   have n1:b≠e:=λz=>hb (by simp [z]);have n2:b≠it:=λz=>hb (by simp [z]);exact (hs2'.2 b n1).trans (hk1 b o n1 n2 q)
  have nT:∀b o,s.heap.get? b=some o->b≠s.heap.objs.size:=λb o q=>Yav (Yak q);have trk:∀c u,H c=some u->c ∉ [e,it]:=λc u q z=>by
   rw [(hf c z).1] at q;cases q
  refine ⟨.ref s.heap.objs.size,upd H s.heap.objs.size (.tup [.int (i:Nat),x]),I.call' (ch:=[e,it]) rfl ⟨λb o q _ _ hb=>kk b o hb q,λb o q _ _ hb=>⟨o.slots,kk b o hb q⟩,λb o q n _=>by rw [Gm (nT b o q)];exact n,
   λb o q hb=>⟨o,kk b o hb q⟩,λb ys q=>by rw [Gm (Gh q hfr)];exact q,λb o u q=>by rw [Gm (Gh q hfr)];exact q,λb ps q=>⟨#[],by rw [Gm (Gh q hfr),q];simp⟩⟩ (λb v q=>?_) I.bare (λb hb=>?_),
   rfl,⟨_,x,rfl,hfr,rfl,λys hy=>by rw [I.list_inj hy hq];exact hx⟩,⟨⟨_,by rw [Int.natCast_add];exact he2⟩,hit1.extBut hs2'.extBut (Ne.symm hne)⟩,λb hb=>?_⟩
  ·by_cases hb:b=s.heap.objs.size
   ·subst hb;rw [Ga] at q;cases q;refine ⟨by have h16:=Ybf.symm;rw [<-h16];show 2<=16777216;lia,[.int (i:Nat) s.toks,u],.cons ⟨_,rfl⟩ (.cons ru .nil),⟨_,(hs2'.2 _ (Ydm hel)).trans ht1,rfl,_,rfl⟩⟩
   ·rw [Gm hb] at q;refine (I.hok b v q).stay (λc v' hc z=>kk c v' ?_ z) (λc z=>by rw [Gm (Gh z hfr)];exact z) λc ys z=>by rw [Gm (Gh z hfr)];exact z
    rcases hc with rfl | hc
    ·exact trk _ _ q
    ·exact trk _ _ hc
  ·obtain ⟨f0,f1,f2,f3,f4,f5⟩:=hf b hb;exact ⟨f3,f1,f4,f5⟩
  ·have ho:∃o,s.heap.get? b=some o:=by
    rcases Yas.mp hb with rfl | hb
    ·exact ⟨_,he⟩
    ·have eb:b=it:=by simpa using hb
     subst eb;obtain ⟨o,ei,_⟩:=hit;exact ⟨o,ei⟩
   obtain ⟨o,ho⟩:=ho;rw [Gm (nT b o ho)];exact (hf b hb).1
 done:=by
  intro X hP hw hK hc i qJ s σ H E I hf st hg;subst hP hw hK;obtain ⟨xs,hq,hx⟩:=hg;obtain ⟨its,rv,p,hz⟩:=I.list hq;obtain ⟨⟨old,he⟩,hit⟩:=st;obtain ⟨f0,f1,f2,f3,f4,f5⟩:=hf it (by simp);have hl:=rv.length;exact wpAny_pyNext_enum_end (I.ok.hd hc) he hit p.isList (by simp;lia) λh' eb=>⟨rfl,I.turned (t':=s.toks) (λb o hb q=>eb b o hb q) f0 f1 f3 f4 f5⟩
 self:=λ_ _ _ _ _ ⟨⟨_,he⟩,_⟩ h=>wpAny_pyIter_enum he h
noncomputable def ZeI (K:W.Frag)(ta:TA):TI:=λσ H R=>ta σ H λvs H1=>∃a xs,vs=[.ref a]/\SqL K H1 a xs/\R (Ite K a) H1
theorem Zdr {elts:List Expr}{k:Nat}{p0:Pos}{l:Expr}{ta:TA}{p pos:Pos}(hg:Gl X "enumerate")(hm:X.mg "enumerate" = none)(ha:PA X [l] ta)(hs:starEach [l] X.env=[(false,eval l X.env)]:=by rfl) :
  PI X (.Tuple elts k p0) (.Call (.Name "enumerate" p) [l] [] pos) (ZeI X.K ta):=by
 intro qJ s σ H R I h;refine Call_ (UR I hg hm boot_enumerate (Ygf (thn (ha pos qJ s σ H _ I h) λus s1 ⟨vs,H1,I1,r1,q1⟩=>?_) hs rfl));obtain ⟨a,xs,e,hq,q⟩:=q1;subst e;obtain ⟨u,rfl,ru⟩:=r1.one;cases ru;obtain ⟨its,rv,pl,hz⟩:=I1.list hq;refine call_enumerate_list pl.isList λh' hE hI hsz hk=>?_;refine wpAny_pyIter_enum hE ?_;refine ⟨s1.heap.objs.size+1,[s1.heap.objs.size+1,s1.heap.objs.size],_,_,H1,rfl,I1.kept (t':=s1.toks) hk,Z3 a _ _ (Nat.succ_ne_self _),⟨⟨_,hE⟩,hI⟩,λb hb=>?_,q⟩;have e:s1.heap.objs.size<=b:=by
  rcases Yas.mp hb with rfl | hb
  ·exact Ydf _
  ·have eb:b=s1.heap.objs.size:=by simpa using hb
   rw [eb];exact Yad _
 exact I1.fpOk e (I1.hok.fresh e)
theorem ZgM (K:W.Frag){elts:List Expr}{k:Nat}{p0:Pos}{l:Expr}{ta:TA}{p pos:Pos}(hg:Gl X "enumerate")(hm:X.mg "enumerate" = none)(ha:PA X [l] ta)(h:X.K=K:=by rfl)(hs:starEach [l] X.env=[(false,eval l X.env)]:=by rfl) :
  PI X (.Tuple elts k p0) (.Call (.Name "enumerate" p) [l] [] pos) (ZeI K ta):=h▸Zdr hg hm ha hs
end
section
variable {X:Cx}{k:Nat}{f:Addr}{fd:FuncData}{ps:List Str}{sp:Sp}{dvs:List V}{ds:List Value}{fx:Str}{fp jQ bpos np hpos pos:Pos}{e:Expr}{es:List Expr}{t:TA}
end
section
variable {X:Cx}{a b c d:Expr}{ta tb tc td:TE}{pos:Pos}
theorem ZbH:bootBuiltins "set" = some (.type "set"):=by first | rfl | decide +kernel
end
section
variable {κ:Type}[DecidableEq κ]
noncomputable def JL (kvs:List (κ×V))(k:κ):Option V:=(kvs.find? λkv=>decide (kv.1=k)).map (·.2)
noncomputable def JV (kvs:List (κ×V))(k:κ)(v:V):List (κ×V):=
 if (kvs.any λkv=>decide (kv.1=k))=true then kvs.map (λkv=>if kv.1=k then (kv.1,v) else kv) else kvs++[(k,v)]
theorem Jo {p:κ×V}{r:List (κ×V)}{k:κ}(e:p.1=k):JL (p::r) k=some p.2:=by simp [JL,Ydg,e]
theorem Jp {p:κ×V}{r:List (κ×V)}{k:κ}(e:¬ p.1=k):JL (p::r) k=JL r k:=by simp [JL,Ydg,e]
theorem UG (k:κ):∀kvs:List (κ×V),(kvs.any λkv=>decide (kv.1=k))=(JL kvs k).isSome
 | []=>rfl
 | p::r=>by
  rw [List.any_cons];by_cases e:p.1=k
  ·simp only [Jo e,Ybi e,Bool.true_or,Option.isSome_some]
  ·rw [Jp e,Ybx e,Bool.false_or];exact UG k r
theorem X5 (k j:κ)(y:V):∀kvs:List (κ×V),JL (kvs.map λkv=>if kv.1=k then (kv.1,y) else kv) j=(JL kvs j).map λx=>if j=k then y else x
 | []=>rfl
 | p::r=>by
  have ih:=X5 k j y r;rw [Yaq];by_cases h:p.1=k
  ·rw [if_pos h];by_cases e:p.1=j
   ·rw [Jo (p:=(p.1,y)) e,Jo e,Option.map_some,if_pos (e.symm.trans h)]
   ·rw [Jp (p:=(p.1,y)) e,Jp e,ih]
  ·rw [if_neg h];by_cases e:p.1=j
   ·rw [Jo (p:=p) e,Jo e,Option.map_some,if_neg (λz=>h (e.trans z))]
   ·rw [Jp (p:=p) e,Jp e,ih]
theorem WM (k j:κ)(y:V):∀kvs:List (κ×V),JL kvs k=none->JL (kvs++[(k,y)]) j=if j=k then some y else JL kvs j
 | [],_=>by
  by_cases e:k=j
  ·rw [if_pos e.symm];exact Jo (p:=(k,y)) e
  ·rw [if_neg (λz=>e z.symm)];exact Jp (p:=(k,y)) e
 | p::r,hn=>by
  rw [List.cons_append];have hk:¬ p.1=k:=λz=>by rw [Jo z] at hn;cases hn
  rw [Jp hk] at hn;have ih:=WM k j y r hn;by_cases e:p.1=j
  ·rw [Jo e,Jo e,if_neg (λz=>hk (e.trans z))]
  ·rw [Jp e,Jp e,ih]
theorem G3 (kvs:List (κ×V))(k j:κ)(y:V):JL (JV kvs k y) j=if j=k then some y else JL kvs j:=by
 unfold JV;by_cases a:(kvs.any λkv=>decide (kv.1=k))=true
 ·rw [if_pos a,X5];rw [UG] at a;by_cases e:j=k
  ·obtain ⟨x,hx⟩:=Yee.mp a;rw [if_pos e,e,hx,Option.map_some,if_pos rfl]
  ·rw [if_neg e];cases JL kvs j with
   | none=>rfl
   | some x=>rw [Option.map_some,if_neg e]
 ·rw [if_neg a];refine WM k j y kvs ?_;rw [UG] at a;cases q:JL kvs k with
  | none=>rfl
  | some x=>rw [q] at a;exact (a rfl).elim
theorem GL (kvs:List (κ×V))(k:κ)(v:V):(JV kvs k v).length<=kvs.length+1:=by
 unfold JV;split
 ·rw [Yac];lia
 ·rw [Yai,Ybn,List.length_nil];lia
theorem RelO.isSome_eq {o:Option V}{u:Option Value}(r:RelO o u):o.isSome=u.isSome:=by
 cases o with
 | none=>cases u with
  | none=>rfl
  | some _=>exact (show False from r).elim
 | some _=>cases u with
  | none=>exact (show False from r).elim
  | some _=>rfl
theorem KV.val {kvs:List (κ×V)}{vs:List (κ×Value)}(r:KV kvs vs)(k:κ):RelO (JL kvs k) (valueAt vs k):=by
 unfold KV at r
 induction r with
 | nil=>exact True.intro
 | @cons p q ps qs h t ih=>
  obtain ⟨h1,h2⟩:=h;by_cases e:p.1=k
  ·have e':q.1=k:=h1.symm.trans e;have b:valueAt (q::qs) k=some q.2:=by simp [valueAt,Ydg,e']
   rw [Jo e,b];exact h2
  ·have e':¬ q.1=k:=λz=>e (h1.trans z);have b:valueAt (q::qs) k=valueAt qs k:=by simp [valueAt,Ydg,e']
   rw [Jp e,b];exact ih
theorem KV.any {kvs:List (κ×V)}{vs:List (κ×Value)}(r:KV kvs vs)(k:κ):(kvs.any λkv=>decide (kv.1=k))=vs.any λkv=>decide (kv.1=k):=by
 unfold KV at r
 induction r with
 | nil=>rfl
 | cons h t ih=>rw [List.any_cons,List.any_cons,ih,h.1]
theorem KV.repl {kvs:List (κ×V)}{vs:List (κ×Value)}(r:KV kvs vs)(k:κ){y:V}{u:Value}(ry:RelV y u) :
  KV (kvs.map λkv=>if kv.1=k then (kv.1,y) else kv) (vs.map λkv=>if kv.1=k then (kv.1,u) else kv):=by
 unfold KV at r ⊢
 induction r with
 | nil=>exact .nil
 | @cons p q ps qs h t ih=>
  rw [Yaq,Yaq];refine .cons ?_ ih;obtain ⟨h1,h2⟩:=h;by_cases e:p.1=k
  ·rw [if_pos e,if_pos (h1.symm.trans e)];exact ⟨h1,ry⟩
  ·rw [if_neg e,if_neg (λz=>e (h1.trans z))];exact ⟨h1,h2⟩
theorem KV.put {kvs:List (κ×V)}{vs:List (κ×Value)}(r:KV kvs vs)(k:κ){y:V}{u:Value}(ry:RelV y u):KV (JV kvs k y) (stored vs k u):=by
 unfold JV stored;rw [r.any k];by_cases e:(vs.any λkv=>decide (kv.1=k))=true
 ·rw [if_pos e,if_pos e];exact r.repl k ry
 ·rw [if_neg e,if_neg e];exact Paired.snoc r ⟨rfl,ry⟩
theorem KV.length {kvs:List (κ×V)}{vs:List (κ×Value)}(r:KV kvs vs):kvs.length=vs.length:=Ycs r
end
theorem Z4 {P:Program}{w:World}{k:Key}{u:Value}(r:RelV (kV k) u):(Jc P w).is k u=true:=by
 cases k with
 | inl i=>obtain ⟨t,e⟩:=(show ∃t,u=Value.int i t from r);subst e;exact Xk P w i t
 | inr x=>obtain ⟨t,e⟩:=(show ∃t,u=Value.str x t from r);subst e;exact Xl P w x t
theorem WN {P:Program}{w:World}:∀{ks:List Key}{us:List Value},Vals (ks.map kV) us->ItemsAre (Jc P w) ks us
 | [],_,r=>by rw [List.map_nil] at r;cases r;exact .nil
 | k::ks,_,r=>by
  rw [Yaq] at r;cases r with
  | cons h t=>exact .cons (Z4 h) (WN t)
noncomputable abbrev KT (H:Hp):List (List Key×V)->List (List Key×Addr×Value)->Prop:=Paired λp q=>p.1=q.1/\H q.2.1=some (.tup (p.1.map kV))/\RelV p.2 q.2.2
theorem KT.val {H:Hp}{kvs:List (List Key×V)}{xs:List (List Key×Addr×Value)}(r:KT H kvs xs)(k:List Key):RelO (JL kvs k) ((atKey xs k).map (·.2)):=by
 induction r with
 | nil=>exact True.intro
 | @cons p q ps qs h t ih=>
  obtain ⟨h1,_,h2⟩:=h;by_cases e:p.1=k
  ·have e':q.1=k:=h1.symm.trans e;have b:atKey (q::qs) k=some q.2:=by simp [atKey,Ydg,e']
   rw [Jo e,b];exact h2
  ·have e':¬ q.1=k:=λz=>e (h1.trans z);have b:atKey (q::qs) k=atKey qs k:=by simp [atKey,Ydg,e']
   rw [Jp e,b];exact ih
theorem KT.repl {H:Hp}{kvs:List (List Key×V)}{xs:List (List Key×Addr×Value)}(r:KT H kvs xs)(k:List Key){y:V}{u:Value}(ry:RelV y u) :
  KT H (kvs.map λkv=>if kv.1=k then (kv.1,y) else kv) (xs.map (putAt k u)):=by
 induction r with
 | nil=>exact .nil
 | @cons p q ps qs h t ih=>
  rw [Yaq,Yaq];refine .cons ?_ ih;obtain ⟨h1,h2,h3⟩:=h;unfold putAt;by_cases e:p.1=k
  ·rw [if_pos e,if_pos (h1.symm.trans e)];exact ⟨h1,h2,ry⟩
  ·rw [if_neg e,if_neg (λz=>e (h1.trans z))];exact ⟨h1,h2,h3⟩
theorem KT.put {H:Hp}{kvs:List (List Key×V)}{xs:List (List Key×Addr×Value)}(r:KT H kvs xs)(k:List Key){b:Addr}{y:V}{u:Value}(hb:H b=some (.tup (k.map kV)))(ry:RelV y u) :
  KT H (JV kvs k y) (storedH xs k b u):=by
 have e:(kvs.any λkv=>decide (kv.1=k))=(atKey xs k).isSome:=by
  rw [UG,(r.val k).isSome_eq,Option.isSome_map]
 unfold JV storedH;rw [e];by_cases q:(atKey xs k).isSome=true
 ·rw [if_pos q,if_pos q];exact r.repl k ry
 ·rw [if_neg q,if_neg q];exact Paired.snoc r ⟨rfl,hb,ry⟩
theorem KT.keeps {H H':Hp}{kvs:List (List Key×V)}{xs:List (List Key×Addr×Value)}(r:KT H kvs xs)(ht:∀b ys,H b=some (.tup ys)->H' b=some (.tup ys)):KT H' kvs xs:=
 Paired.mapP r λ_ _ z=>⟨z.1,ht _ _ z.2.1,z.2.2⟩
section
variable {P:Program}{w:World}{H:Hp}{h:Heap}{a:Addr}
theorem ZeJ {u:HO}(ok:HOk P w H h)(e:Rd H a u):ObjOk P w H h a u:=e.ok ok
theorem ZbI {kvs:List (Key×V)}(ok:HOk P w H h)(e:Rd H a (.dK kvs)):kvs.length<=sizeLine/\(a == sysModules)=false/\∃vs,KV kvs vs/\h.DictOf (Jc P w) a vs:=
 show ObjOk P w H h a (.dK kvs) from ZeJ ok e
theorem ZeK {kvs:List (Key×V)}(ok:HOk P w H h)(e:H a=some (.dK kvs)):kvs.length<=sizeLine/\(a == sysModules)=false/\∃vs,KV kvs vs/\h.DictOf (Jc P w) a vs:=ZbI ok (.inl e)
theorem X6 {ks:List Key}(ok:HOk P w H h)(e:H a=some (.tup (ks.map kV))):(tupleKind (Jc P w)).is h ks a:=by
 obtain ⟨_,its,r,o,h1,h2,n,h3⟩:=(show ObjOk P w H h a (.tup (ks.map kV)) from ok a _ e);exact ⟨o,its.toArray,n,h1,h2,h3,by simpa using WN r⟩
theorem ZbJ {kvs:List (List Key×V)}(ok:HOk P w H h)(e:Rd H a (.dT kvs)):kvs.length<=sizeLine/\(a == sysModules)=false /\
  ∃xs,KT H kvs xs/\h.DictOfH (tupleKind (Jc P w)) a xs:=by
 obtain ⟨z,y,xs,r,o,es,ep,h1,h2,h3,h4,h5⟩:=(show ObjOk P w H h a (.dT kvs) from ZeJ ok e);refine ⟨z,y,xs,r,o,es,ep,h1,h2,h3,h4,λx hx=>?_,h5⟩;have all:∀{l:List (List Key×V)}{m:List (List Key×Addr×Value)},KT H l m->∀x∈m,(tupleKind (Jc P w)).is h x.1 x.2.1:=by
  intro l m q
  induction q with
  | nil=>intro x hx;exact nomatch hx
  | @cons p q ps qs hq t ih=>
   intro x hx;rcases Yas.mp hx with e | hx
   ·subst e;exact X6 ok (by rw [<-hq.1];exact hq.2.1)
   ·exact ih x hx
 exact all r x hx
theorem ZgN {kvs:List (List Key×V)}(ok:HOk P w H h)(e:H a=some (.dT kvs)):kvs.length<=sizeLine/\(a == sysModules)=false /\
  ∃xs,KT H kvs xs/\h.DictOfH (tupleKind (Jc P w)) a xs:=ZbJ ok (.inl e)
end
noncomputable def DGet (H:Hp)(a:Addr)(y:V)(r:Option V):Prop:=
 (∃kvs k,Rd H a (.dK kvs)/\y=kV k/\r=JL kvs k)\/∃kvs k b,Rd H a (.dT kvs)/\y=.ref b/\H b=some (.tup (k.map kV))/\r=JL kvs k
noncomputable def DPut (H:Hp)(a:Addr)(y v:V)(H':Hp):Prop:=
 (∃kvs k,H a=some (.dK kvs)/\y=kV k/\kvs.length<sizeLine/\H'=upd H a (.dK (JV kvs k v))) \/
 ∃kvs k b,H a=some (.dT kvs)/\y=.ref b/\H b=some (.tup (k.map kV))/\kvs.length<sizeLine/\H'=upd H a (.dT (JV kvs k v))
theorem DGet.k {H:Hp}{a:Addr}{kvs:List (Key×V)}{k:Key}(e:H a=some (.dK kvs)):DGet H a (kV k) (JL kvs k):=.inl ⟨kvs,k,.inl e,rfl,rfl⟩
theorem DGet.t {H:Hp}{a b:Addr}{kvs:List (List Key×V)}{k:List Key}(e:H a=some (.dT kvs))(eb:H b=some (.tup (k.map kV))):DGet H a (.ref b) (JL kvs k):=.inr ⟨kvs,k,b,.inl e,rfl,eb,rfl⟩
theorem DPut.k {H:Hp}{a:Addr}{kvs:List (Key×V)}{k:Key}{v:V}(e:H a=some (.dK kvs))(hl:kvs.length<sizeLine):DPut H a (kV k) v (upd H a (.dK (JV kvs k v))):=.inl ⟨kvs,k,e,rfl,hl,rfl⟩
theorem DPut.t {H:Hp}{a b:Addr}{kvs:List (List Key×V)}{k:List Key}{v:V}(e:H a=some (.dT kvs))(eb:H b=some (.tup (k.map kV)))(hl:kvs.length<sizeLine) :
  DPut H a (.ref b) v (upd H a (.dT (JV kvs k v))):=.inr ⟨kvs,k,b,e,rfl,eb,hl,rfl⟩
section
variable {X:Cx}{qJ:List (Addr×Obj)}{σ:St}{H:Hp}{s:Shared}{a:Addr}{y v:V}{u r:Value}{o:Option V}{A:Around}{E:EX}
theorem Inv.big (I:Inv X qJ σ H s):sysModules<s.heap.objs.size:=by
 have h:mainGlobals<s.heap.objs.size:=(I.mod.glob.keeps I.bk).lt;exact Nat.lt_trans (by decide) h
theorem Z5 {Q:EX}(hu:A.units+1<cLine)(I:Inv X qJ σ H s)(g:DGet H a y (some v))(ry:RelV y u)(h:∀w' s',Inv X qJ σ H s'->RelV v w'->Q w' s') :
  wpAny (model X.prog X.w) A (getItem (.ref a) u) Q E s:=by
 rcases g with ⟨kvs,k,e,ey,l⟩ | ⟨kvs,k,b,e,ey,eb,l⟩
 ·subst ey;obtain ⟨z,hd,vs,rel,dd⟩:=ZbI I.hok e;obtain ⟨w',hw,rw'⟩:=RelO.some_of (v:=v) (o:=valueAt vs k) (by rw [l];exact rel.val k);exact wpAny_getItem_of (Z4 ry) dd.mapOf hw (h w' _ (I.tok _) rw')
 ·subst ey;cases (show u=Value.ref b from ry);obtain ⟨z,hd,xs,rel,dd⟩:=ZbJ I.hok e;obtain ⟨w',hw,rw'⟩:=RelO.some_of (v:=v) (o:=(atKey xs k).map (·.2)) (by rw [l];exact rel.val k);obtain ⟨p,hp,hp2⟩:=Ybu.mp hw;refine wpAny_getItem_heap (tupleKind_room_in1 hu) (X6 I.hok eb) dd hp ?_;rw [hp2];exact h w' _ (I.tok _) rw'
theorem Zds {Q:EX}(hu:A.units+1<cLine)(I:Inv X qJ σ H s)(g:DGet H a y o)(ry:RelV y u)(h:∀s',Inv X qJ σ H s'->Q (.bool (!o.isSome)) s') :
  wpAny (model X.prog X.w) A (compareOp .NotIn u (.ref a)) Q E s:=by
 rcases g with ⟨kvs,k,e,ey,l⟩ | ⟨kvs,k,b,e,ey,eb,l⟩
 ·subst ey;obtain ⟨z,hd,vs,rel,dd⟩:=ZbI I.hok e;refine wpAny_notIn_of (Z4 ry) hd dd.mapOf ?_;rw [<-(rel.val k).isSome_eq,<-l];exact h _ (I.tok _)
 ·subst ey;cases (show u=Value.ref b from ry);obtain ⟨z,hd,xs,rel,dd⟩:=ZbJ I.hok e;refine wpAny_notIn_heap (tupleKind_room_in1 hu) (X6 I.hok eb) hd dd ?_;have q:=(rel.val k).isSome_eq;rw [Option.isSome_map] at q;rw [<-q,<-l];exact h _ (I.tok _)
theorem VW {h':Heap}{t':Nat}{ob:HO}(I:Inv X qJ σ H s)(mu:Mut (H a))(hs:Heap.SameBut a s.heap h')(he:∃q,h'.get? a=some q)(new:ObjOk X.prog X.w (upd H a ob) h' a ob) :
  Inv X qJ σ (upd H a ob) { s with heap:=h',toks:=t' }:=
 I.write (x:=a) (e:=a) mu (.inl rfl) (λb q hb z=>(hs.2 b hb).trans z) he new
theorem ZcF {P:Program}{w:World}{H':Hp}{h':Heap}{kvs:List (Key×V)}{vs:List (Key×Value)}(z:kvs.length<=sizeLine)(hd:(a == sysModules)=false)(rel:KV kvs vs)(dd:h'.DictOf (Jc P w) a vs) :
  ObjOk P w H' h' a (.dK kvs):=⟨z,hd,vs,rel,dd⟩
theorem Z6 {H':Hp}{Q:Unit->Shared->Prop}(hu:A.units+1<cLine)(I:Inv X qJ σ H s)(g:DPut H a y v H')(ry:RelV y u)(rv:RelV v r)(h:∀s',Inv X qJ σ H' s'->Q () s') :
  wpAny (model X.prog X.w) A (setItem (.ref a) u r) Q E s:=by
 rcases g with ⟨kvs,k,e,ey,l,eH⟩ | ⟨kvs,k,b,e,ey,eb,l,eH⟩
 ·subst ey eH;obtain ⟨z,hd,vs,rel,dd⟩:=ZeK I.hok e;have hz:vs.length<=sizeLine:=by rw [<-rel.length];exact z
  have hl:(JV kvs k v).length<=sizeLine:=by have:=GL kvs k v;lia
  refine wpAny_setItem_pairs (hsz:=hz) (Z4 ry) dd λh' dd' hs=>h _ ?_;have he:∃q,h'.get? a=some q:=let ⟨q,_,_,hq,_⟩:=dd';⟨q,hq⟩;exact VW I (by rw [e];exact True.intro) hs he (ZcF hl hd (rel.put k rv) dd')
 ·subst ey eH;cases (show u=Value.ref b from ry);obtain ⟨z,hd,xs,rel,dd⟩:=ZgN I.hok e;have hz:xs.length<=sizeLine:=by rw [<-Ycs rel];exact z
  have hl:(JV kvs k v).length<=sizeLine:=by have:=GL kvs k v;lia
  refine wpAny_setItem_heap (hsz:=hz) (tupleKind_room_in1 hu) (X6 I.hok eb) dd λh' dd' hs=>h _ ?_;obtain ⟨q,es,ep,hq,h2,h3,h4,_,h5⟩:=dd';refine VW I (by rw [e];exact True.intro) hs ⟨q,hq⟩ ⟨hl,hd,_,(rel.put k eb rv).keeps λc ys ec=>?_,q,es,ep,hq,h2,h3,h4,h5⟩;rw [Gm (Jd ec e (λz=>nomatch z))];exact ec
end
section
variable {X:Cx}{qJ:List (Addr×Obj)}{σ:St}{H:Hp}{s:Shared}{a:Addr}{kvs:List (Key×V)}{k:Key}{u:Value}{A:Around}{E:EX}
end
noncomputable def Zgc (i:Expr):Prop:=∀ov iv,subscripted i false ov iv=operate [ov,iv] (getItem ov iv)
theorem Z7 {prog:Program}{w:World}{A:Around}{E:EX}{s:Shared}{env:Env}{value slice:Expr}{pos:Pos}{T id:String}{Q:EX}(hl:typeLookup (.type T) "__getitem__" = pure (some (.builtin id)))(hs:Zgc slice)(h:wpAny (model prog w) A (eval value env) (λo s₁=>wpAny (model prog w) A (eval slice env) (λi s₂=>s₂.TypeIs o T/\wpAny (model prog w) A (getItem o i) Q E s₂) E s₁) E s) :
  wpAny (model prog w) A (eval (.Subscript value slice pos) env) Q E s:=by
 refine Subscript_ (Ybr h (λo s₁ h₁=>Ybr h₁ (λi s₂ h₂=>?_) λ_ _ x=>x) λ_ _ x=>x);obtain ⟨hT,h₂⟩:=h₂;unfold subscriptTail;refine Yaa ?_;rw [getitemInPython_of_ne hT.not_modules];refine Yaa (wpAny_specialOf hT hl ?_);have fin:wpAny (model prog w) A (subscripted slice false o i) (λr s₃=>wpAny (model prog w) A (letTemporaryGo value o r >>= λ_=>pure r) Q E s₃) E s₂:=by
  rw [hs o i];exact wpAny_operating (Ybr h₂ (λr s₃ h₃=>Yaa (wpAny_letTemporaryGo (Yab h₃))) λ_ _ x=>x)
 first
  | exact Yab (Yaa fin)
  | exact Yaa (Yab (Yaa fin))
  | exact Yaa fin
theorem Xr {X:Cx}{qJ:List (Addr×Obj)}{σ:St}{H:Hp}{s:Shared}{a:Addr}{y:V}{o:Option V}(I:Inv X qJ σ H s)(g:DGet H a y o):s.TypeIs (.ref a) "dict" := by
 rcases g with ⟨kvs,k,e,_,_⟩ | ⟨kvs,k,b,e,_,_,_⟩
 ·obtain ⟨_,_,vs,_,dd⟩:=ZbI I.hok e;exact dd.typeIs
 ·obtain ⟨_,_,xs,_,dd⟩:=ZbJ I.hok e;exact dd.typeIs
noncomputable def ZgO (td ty:TE):TE:=λσ H Q=>td σ H λx H1=>ty σ H1 λy H2=>∃a v,x=.ref a/\DGet H2 a y (some v)/\Q v H2
noncomputable def Zdt (ty td:TE):TE:=λσ H Q=>ty σ H λy H1=>td σ H1 λx H2=>∃a o,x=.ref a/\DGet H2 a y o/\Q (.bl (!o.isSome)) H2
noncomputable def ZgP (td ty tv:TE):TS:=λD σ H=>tv σ H λv H1=>td σ H1 λx H2=>ty σ H2 λy H3=>∃a H4,x=.ref a/\DPut H3 a y v H4/\D.nx σ H4
section
variable {X:Cx}{o i e value:Expr}{pos pos' tpos:Pos}{td ty tv:TE}
theorem Jq (hu:X.A.units+1<cLine)(ho:PE X o td)(hi:PE X i ty)(hs:Zgc i):PE X (.Subscript o i pos) (ZgO td ty):=by
 intro qJ s σ H Q I h;refine Z7 PySem.F.slot_dict_getitem.lookup hs (thn (ho qJ s σ H _ I h) λu s1 ⟨x,H1,I1,rx,q1⟩=>thn (hi qJ s1 σ H1 _ I1 q1) λiv s2 ⟨y,H2,I2,ry,a,v,ex,g,q2⟩=>?_);subst ex;obtain rfl:u=Value.ref a:=rx;exact ⟨Xr I2 g,Z5 hu I2 g ry λw' s3 I3 rw'=>⟨v,H2,I3,rw',q2⟩⟩
theorem OR (hu:X.A.units+1<cLine)(hi:PE X i ty)(ho:PE X o td):PC X .NotIn i o (Zdt ty td):=by
 intro qJ s σ H Q I h;refine thn (hi qJ s σ H _ I h) λiv s1 ⟨y,H1,I1,ry,q1⟩=>thn (ho qJ s1 σ H1 _ I1 q1) λu s2 ⟨x,H2,I2,rx,a,ov,ex,g,q2⟩=>?_;subst ex;obtain rfl:u=Value.ref a:=rx;exact Zds hu I2 g ry λs3 I3=>⟨.bl (!ov.isSome),H2,I3,rfl,q2⟩
theorem Og (hu:X.A.units+1<cLine)(ho:PE X o td)(hi:PE X i ty)(hv:PE X value tv)(hs:swapsWith value (some (.Subscript o i pos')) pos.line X.env=pure false) :
  PS X (.Assign [.Subscript o i pos'] value pos) (ZgP td ty tv):=by
 intro qJ s σ H D I h;refine wpAny_Assign_Subscript (thn (hv qJ s σ H _ I h) λr s1 ⟨v,H1,I1,rv,q1⟩=>thn (ho qJ s1 σ H1 _ I1 q1) λu s2 ⟨x,H2,I2,rx,q2⟩=>thn (hi qJ s2 σ H2 _ I2 q2) λiv s3 ⟨y,H3,I3,ry,a,H4,ex,g,q3⟩=>?_) hs;subst ex;obtain rfl:u=Value.ref a:=rx;exact Z6 hu I3 g ry rv λs4 I4=>⟨σ,H4,I4,q3⟩
end
theorem ZbK {P:Program}{w:World}{H:Hp}(h:Heap)(hb:sysModules<h.objs.size):ObjOk P w H (h.push { cls:=.type "dict", data:=.dict #[] }) h.objs.size (.dK []):=
 ⟨Yar _,Ydu.mpr (Ne.symm (Yav hb)),[],.nil,Heap.DictOf.new h⟩
theorem ZbL {P:Program}{w:World}{H:Hp}(h:Heap)(hb:sysModules<h.objs.size):ObjOk P w H (h.push { cls:=.type "dict", data:=.dict #[] }) h.objs.size (.dT []):=
 ⟨Yar _,Ydu.mpr (Ne.symm (Yav hb)),[],.nil,_,#[],0,Ybh _ rfl,⟨rfl,rfl,rfl⟩,rfl,rfl,Yea⟩
noncomputable def ZeL:TE:=λ_ H Q=>∀p,H p=none->Q (.ref p) (upd H p (.dT []))
section
variable {X:Cx}{pos:Pos}
theorem X7:PE X (.Dict [] [] pos) ZeL:=λqJ s σ H Q I h=>
 wpAny_Dict_empty ⟨.ref s.heap.objs.size,_,I.laid (a:=s.heap.objs.size) (o:=.dT []) (t':=s.toks) (λ_ _ q=>Yal _ q) (Yad _) (ZbL s.heap I.big),rfl,h _ (I.hok.fresh (Yad _))⟩
end
noncomputable def Z8:List (TE×TE)->St->Hp->(List (V×V)->Hp->Prop)->Prop
 | [],_,H,Q=>Q [] H
 | (tk,tv)::r,σ,H,Q=>tk σ H λx H1=>tv σ H1 λy H2=>Z8 r σ H2 λps H3=>Q ((x,y)::ps) H3
noncomputable abbrev VV:List (V×V)->List (Value×Value)->Prop:=Paired λp q=>RelV p.1 q.1/\RelV p.2 q.2
noncomputable def PPs (X:Cx)(pos:Pos)(keys:List (Option Expr))(values:List Expr)(trs:List (TE×TE)):Prop:=
 ∀(qJ:List (Addr×Obj))(s:Shared)(σ:St)(H:Hp)(Q:List (V×V)->Hp->Prop),Inv X qJ σ H s->Z8 trs σ H Q ->
  wpAny (model X.prog X.w) X.A (evalPairs (pairTrees keys values X.env pos)) (λvs s'=>∃ps H',Inv X qJ σ H' s'/\VV ps vs/\Q ps H') X.xe s
theorem U0 {X:Cx}{pos:Pos}:PPs X pos [] [] []:=λqJ s σ H Q I h=>pairTrees_nil_walk ⟨[],H,I,.nil,h⟩
theorem Jw {X:Cx}{pos:Pos}{k v:Expr}{ks:List (Option Expr)}{vs:List Expr}{tk tv:TE}{trs:List (TE×TE)}(hk:PE X k tk)(hv:PE X v tv)(hr:PPs X pos ks vs trs) :
  PPs X pos (some k::ks) (v::vs) ((tk,tv)::trs):=λqJ s σ H Q I h=>
 pairTrees_cons_walk (thn (hk qJ s σ H _ I h) λu s1 ⟨x,H1,I1,rx,q1⟩=>thn (hv qJ s1 σ H1 _ I1 q1) λw2 s2 ⟨y,H2,I2,ry,q2⟩=>
  thn (hr qJ s2 σ H2 _ I2 q2) λws s3 ⟨ps,H3,I3,rel,q3⟩=>⟨(x,y)::ps,H3,I3,.cons ⟨rx,ry⟩ rel,q3⟩)
noncomputable def GG (kvs more:List (Key×V)):List (Key×V):=more.foldl (λacc kv=>JV acc kv.1 kv.2) kvs
theorem KV.merge:∀{more:List (Key×V)}{rs:List (Key×Value)}{kvs:List (Key×V)}{vs:List (Key×Value)},KV more rs->KV kvs vs->KV (GG kvs more) (merged vs rs):=by
 intro more rs kvs vs r;unfold KV at r
 induction r generalizing kvs vs with
 | nil=>intro q;exact q
 | @cons p q ps qs h t ih=>
  intro r0;have e:KV (JV kvs p.1 p.2) (stored vs q.1 q.2):=by
   have:=r0.put p.1 h.2;rw [<-h.1];exact this
  exact ih e
theorem OS:∀(more kvs:List (Key×V)),(GG kvs more).length<=kvs.length+more.length
 | [],kvs=>by show kvs.length<=kvs.length+0;lia
 | p::r,kvs=>by
  have h1:=OS r (JV kvs p.1 p.2);have h2:=GL kvs p.1 p.2;show (GG (JV kvs p.1 p.2) r).length<=_;rw [Ybn];lia
theorem Vs {P:Program}{w:World}:∀{kvs:List (Key×V)}{ws:List (Value×Value)},VV (kvs.map λkv=>(kV kv.1,kv.2)) ws->∃rs,Carries (Jc P w) ws rs/\KV kvs rs
 | [],_,r=>by rw [List.map_nil] at r;cases r;exact ⟨[],True.intro,.nil⟩
 | p::kvs,_,r=>by
  rw [Yaq] at r;cases r with
  | @cons a b as bs h t=>
   obtain ⟨rs,c,q⟩:=Vs (P:=P) (w:=w) t;obtain ⟨b1,b2⟩:=b;exact ⟨(p.1,b2)::rs,⟨Z4 h.1,rfl,c⟩,.cons ⟨rfl,h.2⟩ q⟩
noncomputable def ZgQ (trs:List (TE×TE)):TE:=λσ H Q=>∀p,H p=none->Z8 trs σ (upd H p (.dK [])) λps H2=>H2 p=some (.dK [])/\∃kvs:List (Key×V),ps=kvs.map (λkv=>(kV kv.1,kv.2))/\kvs.length<=15/\Q (.ref p) (upd H2 p (.dK (GG [] kvs)))
theorem U1 {X:Cx}{pos:Pos}{keys:List (Option Expr)}{values:List Expr}{trs:List (TE×TE)}(h:PPs X pos keys values trs)(qG:keys.all (·.isSome)=true)(hl:keys.length=values.length)(h0:keys≠[])(h15:keys.length<=15):PE X (.Dict keys values pos) (ZgQ trs):=by
 intro qJ s σ H Q I q;have hn:=I.hok.fresh (Yad s.heap.objs.size);have I1:=I.laid (a:=s.heap.objs.size) (o:=.dK []) (h':=s.heap.push { cls:=.type "dict", data:=.dict #[] }) (t':=s.toks) (λ_ _ q=>Yal _ q) (Yad _) (ZbK s.heap I.big);refine wpAny_Dict_walk (knd:=Jc X.prog X.w) qG hl h0 h15 (thn (h qJ _ σ _ _ I1 (q _ hn)) λws s2 ⟨ps,H2,I2,rel,e,kvs,ep,lk,q2⟩=>?_);subst ep;obtain ⟨rs,c,rk⟩:=Vs (P:=X.prog) (w:=X.w) rel;obtain ⟨z,hd,vs0,r0,dd⟩:=ZeK I2.hok e;cases r0;refine ⟨rs,c,dd,λh' dd' hs=>⟨.ref s.heap.objs.size,_,?_,rfl,q2⟩⟩;have hz:(GG [] kvs).length<=sizeLine:=by
  have h1:=OS kvs [];rw [List.length_nil] at h1;rw [Ybf];lia
 have he:∃q,h'.get? s.heap.objs.size=some q:=let ⟨q,_,_,hq,_⟩:=dd';⟨q,hq⟩;exact VW I2 (by rw [e];exact True.intro) hs he (ZcF hz hd (rk.merge .nil) dd')
section
variable {X:Cx}{qJ:List (Addr×Obj)}{σ:St}{H:Hp}{s:Shared}{a:Addr}{y d:V}{u r:Value}{o:Option V}{A:Around}{E:EX}
end
section
variable {X:Cx}{o e f:Expr}{apos jQ:Pos}{td ty tx:TE}
end
section
variable {X:Cx}{qJ:List (Addr×Obj)}{σ:St}{H:Hp}{s:Shared}{a:Addr}{kvs:List (Key×V)}{A:Around}{E:EX}
end
section
variable {X:Cx}{qJ:List (Addr×Obj)}{σ:St}{H:Hp}{s:Shared}{a:Addr}{y:V}{u:Value}{A:Around}{E:EX}
end
section
variable {X:Cx}
end
section
variable {prog:Program}{w:World}{A:Around}{E:EX}{s:Shared}
end
section
variable {P:Program}{w:World}{H0:Hp}{h0:Heap}{z TO i1 i2 S:Addr}{ns ms:List Int}{i:Nat}{h h':Heap}{acc:Array Value}
end
section
variable {prog:Program}{w:World}{A:Around}{I S:Addr}{n:Nat}{St:Nat->Heap->Array Value->Prop}{Fi:Heap->Array Value->Prop}
end
section
variable {prog:Program}{w:World}{A:Around}{E:EX}{s:Shared}
namespace ZF
end ZF
end
section
variable {X:Cx}
end
theorem ZbM {K:PySem.W.Frag}{a:Addr}{xs:List V}{g:TG}{tb:TS}{D:Zy}{σ:St}{H:Hp}(Pv:Nat->St->Hp->Prop)(h0:Pv 0 σ H)(hl:∀i σ H,i<=xs.length->Pv i σ H->SqL K H a xs)(hs:∀i x σ H T,xs[i]?=some x->Pv i σ H->H T=none->g (.ref T) σ (upd H T (.tup [.int (i:Nat),x])) λσ2 H2=>tb { D with nx:=Pv (i+1),ct:=Pv (i+1),bk:=D.nx } σ2 H2)(hd:∀ σ H,Pv xs.length σ H->D.nx σ H) :
  ∃W:Nat->Nat->St->Hp->Prop,(∃m,W 0 m σ H)/\∀i m σ H,W i m σ H ->
   ((Ite K a).stop i H/\D.nx σ H)\/((Ite K a).go i H/\∃N:St->Hp->Prop,(∀ σ' H',N σ' H'->∃m',m'<m/\W (i+1) m' σ' H')/\∀x H',(Ite K a).yld i H x H'->g x σ H' λσ2 H2=>tb { D with nx:=N,ct:=N,bk:=D.nx } σ2 H2):=by
 refine ⟨λi m σ H=>m=xs.length-i/\i<=xs.length/\Pv i σ H,⟨xs.length,by simp,Yar _,h0⟩,?_⟩;rintro i m σ H ⟨rfl,hi,p⟩;have q:=hl i σ H hi p;by_cases hlt:i<xs.length
 ·refine .inr ⟨⟨xs,xs[i],q,by simp [hlt]⟩,Pv (i+1),λσ' H' p'=>⟨xs.length-(i+1),by lia,rfl,hlt,p'⟩,λx H' y=>?_⟩;obtain ⟨T,y',rfl,hT,rfl,hy⟩:=y;exact hs i y' σ H T (hy xs q) p hT
 ·have e:i=xs.length:=by lia
  subst e;exact .inl ⟨⟨xs,q,Yad _⟩,hd σ H p⟩
section
variable {X:Cx}{tg:Expr}
end
theorem VX (its:List Value):∀m:Nat,m<=its.length->((List.range m).map λ(k:Nat)=>((its.length:Int)-1+(-1) * (k:Int)).toNat).filterMap (its.toArray[·]?)=(its.drop (its.length-m)).reverse
 | 0,_=>by simp
 | m+1,h=>by
  have ih:=VX its m (by lia);have hi:its.length-(m+1)<its.length:=by lia
  have e1:((its.length:Int)-1+(-1) * (m:Int)).toNat=its.length-(m+1):=by lia
  rw [List.range_succ,Yap,List.filterMap_append,ih,Yaq,List.map_nil,e1];rw [Yfo hi,show its.length-(m+1)+1=its.length-m by lia,List.reverse_cons]
  congr 1
  have e2:its.toArray[its.length-(m+1)]?=some its[its.length-(m+1)]:=by simp [hi]
  rw [List.filterMap_cons,e2]
  rfl
theorem VY (its:List Value):slicePick its.toArray none none (some (-1))=its.reverse.toArray:=by
 unfold slicePick sliceBounds sliceRange;simp only [Option.getD_some,Yaw,show ¬ ((-1:Int) > 0) by decide,Ycu];have e:((if ((its.length:Int)-1 > -1) then (((its.length:Int)-1 - -1 - -1-1) / - -1) else 0:Int)).toNat=its.length:=by
  rw [show (- -1:Int)=1 by decide,Int.ediv_one];split <;> lia
 rw [e,VX its its.length (Yad _),Ydo,List.drop_zero]
theorem Vh (its:List Value):slicePick its.toArray none (some 0) (some (-1))=(its.drop 1).reverse.toArray:=by
 unfold slicePick sliceBounds sliceRange;simp only [Option.getD_some,Yaw,show ¬ ((-1:Int) > 0) by decide,show ¬ ((0:Int)<0) by decide,Ycu];have e:((if ((its.length:Int)-1 > max (-1) (min 0 ((its.length:Int)-1))) then (((its.length:Int)-1-max (-1) (min 0 ((its.length:Int)-1)) - -1-1) / - -1) else 0:Int)).toNat=its.length-1:=by
  rw [show (- -1:Int)=1 by decide,Int.ediv_one];split <;> lia
 rw [e,VX its (its.length-1) (Nat.sub_le _ _)];cases its with
 | nil=>rfl
 | cons a r=>
  rw [show (a::r).length-((a::r).length-1)=1 by simp]
section
variable {X:Cx}
noncomputable def Zgd (hi:Option Int)(xs:List V):List V:=match hi with
 | none=>xs.reverse
 | some _=>(xs.drop 1).reverse
noncomputable def ZhN (K:W.Frag)(te:TE)(th:TO):TE:=λσ H Q=>te σ H λx H1=>th σ H1 λu H2=>∃a xs,x=.ref a/\SqL K H2 a xs/\(u=none\/u=some 0)/\∀p,H2 p=none->Q (.ref p) (upd H2 p (.lst (Zgd u xs)))
theorem Z9 {e st:Expr}{hi:Option Expr}{te:TE}{th:TO}{p2 pos:Pos}(K:W.Frag)(he:PE X e te)(hu:PO X hi th)(hst:PE X st (tUn (rU λi=>.int (-i)) (tC (.int 1))))(hK:X.K=K:=by rfl)(ht:∀o r,letTemporaryGo e o r=pure ():=by intro _ _;rfl) :
  PE X (.Subscript e (.Slice none hi (some st) p2) pos) (ZhN K te th):=by
 subst hK;intro qJ s σ H Q I h;refine wpAny_Subscript_Slice_step slot_list_getitem.lookup (thn (he qJ s σ H _ I h) λv s1 ⟨x,H1,I1,r1,q1⟩=>?_) ht;refine wpAny_Slice ?_;rw [evalPart_none];refine Yab (thn (hu qJ s1 σ H1 _ I1 q1) λvu s3 ⟨u,H3,I3,pu,q3⟩=>?_);rw [evalPart_some];refine thn (hst qJ s3 σ H3 (λy H4=>y=.int (-1)/\H4=H3) I3 ⟨1,rfl,rfl,rfl⟩) λvs s4 ⟨y,H4,I4,r4,ey,eH⟩=>?_;subst ey eH;obtain ⟨t4,rfl⟩:=r4;obtain ⟨a,xs,rfl,hx,hu0,q⟩:=q3;cases r1;have I5:Inv X qJ σ H4 { s4 with heap:=s4.heap.push { cls:=.type "slice", data:=.fields #[.none,vu,.int (-1) t4] } }:=I4.kept (t':=s4.toks) λb ob q=>Yal _ q;obtain ⟨its,r,hl,hz⟩:=I5.list hx;have qW:=r.length;refine ⟨hl.isList.typeIs,?_⟩;refine wpAny_getItem_list_slice hl.isList ⟨_,Ybh _ rfl,rfl,rfl⟩ .none pu (.int (-1) t4) (by decide) ?_ (by rw [Yaw] <;> lia);have hfr:=I5.fresh;rcases hu0 with rfl | rfl
 ·rw [VY];exact ⟨.ref _,_,I5.lnew (ys:=xs.reverse) (t':=s4.toks) r.reverse (by rw [List.length_reverse];exact hz),rfl,q _ hfr⟩
 ·rw [Vh];exact ⟨.ref _,_,I5.lnew (ys:=(xs.drop 1).reverse) (t':=s4.toks) (Vals.reverse (Vals.drop' r 1)) (by rw [List.length_reverse,Ycl];lia),rfl,q _ hfr⟩
end
structure FunD (K:W.Frag)(x qual:Str)(st:Stmt)(dV:Value)(f:Addr)(fd:FuncData):Prop where
 ex:∃(oc:Value)(od:Option Addr)(kV doc pm:Value)(an:Option Addr)(cdv ct:Value)(osl:Array (Option Value)),
  fd=W.fnOf x qual (Ju st) (G0 st) (Gf st) dV kV doc pm an cdv ct/\K.lookup f=some ⟨oc,od,.func fd,osl⟩/\W.codeIn K cdv qual=true
 kp:W.keepIn K (.ref f)=true
section
variable {P:Program}{w:World}{K:W.Frag}{mg:Str->Option Value}{base:Heap}
theorem FunD.ok {x qual:Str}{st:Stmt}{dV:Value}{f:Addr}{fd:FuncData}{N ps:List Str}{k:Nat}{sp:Sp}(F:FunD K x qual st dV f fd)(S:Gp N ps (Gf st))(len:∀vs H Q E,sp vs H Q E->vs.length=ps.length)(jX:∀(cdv:Value)(A:Around)(outer:List Env)(s:Shared)(H:Hp)(vs:List V)(Q:VK)(E:XK),Room k (A.deeper (envOfC qual (Gf st) s.heap.objs.size f cdv))->sp vs H Q E ->
   ∃t,PSs (YT CX0 P w K mg base N qual (Gf st) f cdv A outer s H E).nox (G0 st) t/\t { nx:=λ_ H'=>Q .non H',rt:=Q } (start N vs) H):G4 P w K mg base CX0 (k+1) f fd ps sp:=by
 obtain ⟨oc,od,kV,doc,pm,an,cdv,ct,osl,rfl,lk,hcd⟩:=F.ex;refine ZP lk hcd S len λA outer s H vs Q E hr hsp=>?_;obtain ⟨t,h,q⟩:=jX cdv A outer s H vs Q E hr hsp;exact ⟨t,h.nox,q⟩
theorem Zdu {x qual:Str}{st:Stmt}{f:Addr}{oc:Value}{od an:Option Addr}{osl:Array (Option Value)}{dV kV doc pm cdv ct:Value}(l:K.lookup f=some ⟨oc,od,.func (W.fnOf x qual (Ju st) (G0 st) (Gf st) dV kV doc pm an cdv ct),osl⟩)(c:W.codeIn K cdv qual=true)(k:W.keepIn K (.ref f)=true):FunD K x qual st dV f (W.fnOf x qual (Ju st) (G0 st) (Gf st) dV kV doc pm an cdv ct):=⟨⟨oc,od,kV,doc,pm,an,cdv,ct,osl,rfl,l,c⟩,k⟩
end
end L2
namespace L2
open PySem
noncomputable def itf (M:Nat):Nat->Nat->Nat
 | 0,x=>x
 | k+1,x=>itf M k ((x * 5+1) % M)
theorem VZ (M:Nat):∀(a b x:Nat),itf M (a+b) x=itf M b (itf M a x)
 | 0,b,x=>by rw [Ydh];rfl
 | a+1,b,x=>by rw [Nat.add_right_comm];exact VZ M a b _
noncomputable def orb (M:Nat):Nat->Nat->List Nat
 | 0,_=>[]
 | n+1,x=>x::orb M n ((x * 5+1) % M)
theorem Xs {M y:Nat}:∀{n x:Nat},y∈orb M n x->∃k,k<n/\itf M k x=y
 | 0,x,h=>by simp [orb] at h
 | n+1,x,h=>by
  rcases Yas.mp h with e | e
  ·exact ⟨0,by lia,e.symm⟩
  ·obtain ⟨k,h1,h2⟩:=Xs e;exact ⟨k+1,by lia,h2⟩
noncomputable def YX (M:Nat):Bool:=(List.range M).all (λj=>(orb M M 0).contains j) && itf M M 0 == 0
theorem ZhO:YX 8=true:=by decide +kernel
theorem ZeM:YX 32=true:=by decide +kernel
theorem ZcG:YX 128=true:=by decide +kernel
theorem ZcH:YX 512=true:=by decide +kernel
theorem Zdv {M i j:Nat}(h:YX M=true)(hi:i<M)(hj:j<M):∃k,k<M/\itf M k i=j:=by
 unfold YX at h;rw [Ycc,Ybg,List.all_eq_true] at h;obtain ⟨h1,h2⟩:=h;obtain ⟨a,ha,ea⟩:=Xs (List.contains_iff_mem.mp (h1 i (Yca.mpr hi)));obtain ⟨b,hb,eb⟩:=Xs (List.contains_iff_mem.mp (h1 j (Yca.mpr hj)));by_cases hab:a<=b
 ·refine ⟨b-a,by lia,?_⟩;rw [<-ea,<-VZ,Ydi hab];exact eb
 ·refine ⟨b+M-a,by lia,?_⟩;rw [<-ea,<-VZ,show a+(b+M-a)=M+b by lia,VZ,h2];exact eb
noncomputable def adv (mask:Nat)(p:SetTable.Probe):SetTable.Probe:=
 if p.more > 0 then { p with j:=p.j+1,more:=p.more-1 }
 else { p with j:=(SetTable.leap mask p.i p.perturb).1,more:=SetTable.runEnd mask (SetTable.leap mask p.i p.perturb).1-(SetTable.leap mask p.i p.perturb).1,i:=(SetTable.leap mask p.i p.perturb).1,perturb:=(SetTable.leap mask p.i p.perturb).2 }
theorem ZcI (t:SetTable)(p:SetTable.Probe):t.advance p=adv t.mask p:=rfl
noncomputable def GN (mask:Nat):Nat->SetTable.Probe->SetTable.Probe
 | 0,p=>p
 | n+1,p=>GN mask n (adv mask p)
theorem G7 (mask:Nat):∀(a b:Nat)(p:SetTable.Probe),GN mask (a+b) p=GN mask b (GN mask a p)
 | 0,b,p=>by rw [Ydh];rfl
 | a+1,b,p=>by rw [Nat.add_right_comm];exact G7 mask a b _
theorem WP (mask n:Nat)(p:SetTable.Probe):GN mask (n+1) p=adv mask (GN mask n p):=G7 mask n 1 p
theorem WQ (mask:Nat)(p:SetTable.Probe):(adv mask p).dummy=p.dummy:=by
 unfold adv;split <;> rfl
theorem Vt (mask:Nat):∀(n:Nat)(p:SetTable.Probe),(GN mask n p).dummy=p.dummy
 | 0,_=>rfl
 | n+1,p=>(Vt mask n (adv mask p)).trans (WQ mask p)
noncomputable def rs (mask i pt:Nat):SetTable.Probe:={ j:=i,more:=SetTable.runEnd mask i-i,i:=i,perturb:=pt,dummy:=none }
noncomputable def st0 (mask:Nat)(h:Int):SetTable.Probe:=rs mask (SetTable.bits h % (mask+1)) (SetTable.bits h)
theorem ZeN (t:SetTable)(h:Int):t.probeStart h=st0 t.mask h:=rfl
theorem U2 {mask i:Nat}(h:i<=mask):SetTable.runEnd mask i<=mask:=by
 unfold SetTable.runEnd;split <;> lia
theorem YY (mask i:Nat):SetTable.runEnd mask i-i<=9:=by
 unfold SetTable.runEnd;split <;> lia
theorem U3 (mask i:Nat):i<=SetTable.runEnd mask i:=by
 unfold SetTable.runEnd;split <;> lia
theorem Ou (mask i pt:Nat):∀k,k<=SetTable.runEnd mask i-i->GN mask k (rs mask i pt)={ j:=i+k,more:=SetTable.runEnd mask i-i-k,i:=i,perturb:=pt,dummy:=none }
 | 0,_=>rfl
 | k+1,h=>by
  rw [WP,Ou mask i pt k (by lia)];unfold adv;rw [if_pos (by show SetTable.runEnd mask i-i-k > 0;lia)];show SetTable.Probe.mk _ _ _ _ _=_
  congr 1
theorem OT (mask i pt:Nat):GN mask (SetTable.runEnd mask i-i+1) (rs mask i pt)=rs mask (SetTable.leap mask i pt).1 (SetTable.leap mask i pt).2:=by
 rw [WP,Ou mask i pt _ (Yad _)];unfold adv;rw [if_neg (by show ¬ (SetTable.runEnd mask i-i-(SetTable.runEnd mask i-i) > 0);lia)]
 rfl
theorem Vu (x mask:Nat):x % (mask+1)<=mask:=Nat.le_of_lt_succ (Nat.mod_lt _ (Nat.succ_pos _))
noncomputable def lps (mask:Nat):Nat->Nat×Nat->Nat×Nat
 | 0,x=>x
 | m+1,x=>lps mask m (SetTable.leap mask x.1 x.2)
theorem Zaa (mask:Nat):∀(a b:Nat)(x:Nat×Nat),lps mask (a+b) x=lps mask b (lps mask a x)
 | 0,b,x=>by rw [Ydh];rfl
 | a+1,b,x=>by rw [Nat.add_right_comm];exact Zaa mask a b _
theorem X8 (mask:Nat):∀(m:Nat)(x:Nat×Nat),∃n,n<=10 * m/\GN mask n (rs mask x.1 x.2)=rs mask (lps mask m x).1 (lps mask m x).2
 | 0,x=>⟨0,Yad _,rfl⟩
 | m+1,x=>by
  obtain ⟨n,h1,h2⟩:=X8 mask m (SetTable.leap mask x.1 x.2);refine ⟨SetTable.runEnd mask x.1-x.1+1+n,?_,?_⟩
  ·have:=YY mask x.1
   lia
  ·rw [G7,OT];exact h2
theorem X9 (mask:Nat):∀(m i:Nat),lps mask m (i,0)=(itf (mask+1) m i,0)
 | 0,i=>rfl
 | m+1,i=>by
  show lps mask m (SetTable.leap mask i 0)=_;have e:SetTable.leap mask i 0=((i * 5+1) % (mask+1),0):=by unfold SetTable.leap;simp
  rw [e];exact X9 mask m _
theorem Yb (mask:Nat):∀(m i b:Nat),(lps mask m (i,b)).2=b / 32 ^ m
 | 0,i,b=>by simp [lps]
 | m+1,i,b=>by
  show (lps mask m (SetTable.leap mask i b)).2=_;have e:SetTable.leap mask i b=((SetTable.leap mask i b).1,b / 32):=rfl;rw [e,Yb mask m _ _,Nat.div_div_eq_div_mul,Nat.pow_succ,Nat.mul_comm]
theorem ZcJ (mask:Nat):∀(m i b:Nat),i<=mask->(lps mask m (i,b)).1<=mask
 | 0,i,b,h=>h
 | m+1,i,b,h=>ZcJ mask m _ _ (Vu _ _)
theorem Zdw (h:Int):SetTable.bits h<2 ^ 64:=by
 unfold SetTable.bits;have h1:=Ydp h (show (2 ^ 64:Int)≠0 by decide);have h2:=Ydq h (show (0:Int)<2 ^ 64 by decide)
 lia
theorem WR {mask j:Nat}(hc:YX (mask+1)=true)(h:Int)(hj:j<=mask):∃m,m<mask+14/\(lps mask m (SetTable.bits h % (mask+1),SetTable.bits h)).1=j:=by
 have hb:=Zdw h;generalize SetTable.bits h=b at hb ⊢;have h13:(lps mask 13 (b % (mask+1),b)).2=0:=by
  rw [Yb];exact Nat.div_eq_of_lt (Nat.lt_trans hb (by decide))
 have hi:(lps mask 13 (b % (mask+1),b)).1<=mask:=ZcJ mask 13 _ _ (Vu _ _);obtain ⟨k,hk,ek⟩:=Zdv hc (Nat.lt_succ_of_le hi) (Nat.lt_succ_of_le hj);refine ⟨13+k,by lia,?_⟩;rw [Zaa];have e:lps mask 13 (b % (mask+1),b)=((lps mask 13 (b % (mask+1),b)).1,0):=by rw [<-h13]
 rw [e,X9];exact ek
theorem Zab {mask j:Nat}(hc:YX (mask+1)=true)(h:Int)(hj:j<=mask):∃n,n+10<10 * SetTable.turns mask/\(GN mask n (st0 mask h)).j=j:=by
 obtain ⟨m,hm,em⟩:=WR hc h hj;obtain ⟨n,hn,en⟩:=X8 mask m (SetTable.bits h % (mask+1),SetTable.bits h);refine ⟨n,by unfold SetTable.turns;lia,?_⟩;show (GN mask n (rs mask _ _)).j=j;rw [en];exact em
theorem ZeO {mask:Nat}{p:SetTable.Probe}(h:p.j+p.more<=mask):(adv mask p).j+(adv mask p).more<=mask:=by
 unfold adv;split
 ·show p.j+1+(p.more-1)<=mask
  lia
 ·have h1:(SetTable.leap mask p.i p.perturb).1<=mask:=Vu _ _;have h2:=U2 h1;have h3:=U3 mask (SetTable.leap mask p.i p.perturb).1;show (SetTable.leap mask p.i p.perturb).1+(SetTable.runEnd mask (SetTable.leap mask p.i p.perturb).1-(SetTable.leap mask p.i p.perturb).1)<=mask
  lia
theorem Zac {mask:Nat}:∀{n:Nat}{p:SetTable.Probe},p.j+p.more<=mask->(GN mask n p).j+(GN mask n p).more<=mask
 | 0,_,h=>h
 | n+1,p,h=>Zac (n:=n) (ZeO h)
theorem ZeP (mask:Nat)(h:Int):(st0 mask h).j+(st0 mask h).more<=mask:=by
 have h1:SetTable.bits h % (mask+1)<=mask:=Vu _ _;have h2:=U2 h1;have h3:=U3 mask (SetTable.bits h % (mask+1));show SetTable.bits h % (mask+1)+(SetTable.runEnd mask (SetTable.bits h % (mask+1))-SetTable.bits h % (mask+1))<=mask
 lia
theorem Zad (mask n:Nat)(h:Int):(GN mask n (st0 mask h)).j<=mask:=by
 have:=Zac (n:=n) (ZeP mask h)
 lia
noncomputable def Rise (xs:Array Nat):Prop:=xs.toList.Pairwise (· < ·)
theorem Rise.lt {xs:Array Nat}(h:Rise xs){q r a b:Nat}(hqr:q<r)(ha:xs[q]?=some a)(hb:xs[r]?=some b):a<b:=by
 rw [<-Yay] at ha hb;obtain ⟨h1,e1⟩:=Yao.mp ha;obtain ⟨h2,e2⟩:=Yao.mp hb;have:=Yei.mp h q r h1 h2 hqr;rw [e1,e2] at this;exact this
theorem V0 {xs:Array Nat}{j:Nat}(hr:Rise xs):∀(jJ lo hi:Nat),hi-lo<=jJ->lo<=hi->hi<=xs.size ->
  (∀q a,q<lo->xs[q]?=some a->a<j)->(∀q a,hi<=q->xs[q]?=some a->j<=a) ->
  SetTable.below.go xs j jJ lo hi<=xs.size/\(∀q a,q<SetTable.below.go xs j jJ lo hi->xs[q]?=some a->a<j)/\(∀q a,SetTable.below.go xs j jJ lo hi<=q->xs[q]?=some a->j<=a)
 | 0,lo,hi,h0,h1,h2,hl,hh=>by
  have e:hi=lo:=by lia
  subst e;exact ⟨h2,hl,hh⟩
 | jJ+1,lo,hi,h0,h1,h2,hl,hh=>by
  unfold SetTable.below.go;by_cases hlt:lo<hi
  ·rw [if_pos hlt];have hm:(lo+hi) / 2<xs.size:=by lia
   have em:xs[(lo+hi) / 2]?=some xs[(lo+hi) / 2]:=Ybd hm;have ed:xs.getD ((lo+hi) / 2) j=xs[(lo+hi) / 2]:=by
    rw [Yex,em];rfl
   dsimp only;rw [ed];by_cases hc:xs[(lo+hi) / 2]<j
   ·rw [if_pos hc];refine V0 hr jJ _ _ (by lia) (by lia) h2 (λq a hq ha=>?_) hh;by_cases hq':q=(lo+hi) / 2
    ·rw [hq',em] at ha;cases ha;exact hc
    ·exact Nat.lt_trans (hr.lt (by lia) ha em) hc
   ·rw [if_neg hc];refine V0 hr jJ _ _ (by lia) (by lia) (by lia) hl (λq a hq ha=>?_);by_cases hq':q=(lo+hi) / 2
    ·rw [hq',em] at ha;cases ha;lia
    ·have:=hr.lt (show (lo+hi) / 2<q by lia) em ha
     lia
  ·rw [if_neg hlt];have e:hi=lo:=by lia
   subst e;exact ⟨h2,hl,hh⟩
theorem Uh {xs:Array Nat}{j:Nat}(hr:Rise xs):SetTable.below xs j<=xs.size/\(∀q a,q<SetTable.below xs j->xs[q]?=some a->a<j)/\(∀q a,SetTable.below xs j<=q->xs[q]?=some a->j<=a):=by
 unfold SetTable.below;refine V0 hr xs.size 0 xs.size (by lia) (by lia) (Yad _) (λq a hq=>absurd hq (Yda _)) λq a hq ha=>?_;rw [Ygb hq] at ha;cases ha
theorem UH {xs:Array Nat}{i j:Nat}(hr:Rise xs)(h:xs[i]?=some j):SetTable.below xs j=i:=by
 obtain ⟨h1,h2,h3⟩:=Uh (j:=j) hr;rcases Yej (SetTable.below xs j) i with z | z | z
 ·have hs:SetTable.below xs j<xs.size:=by
   have:=(Ygc.mp h).1
   lia
  have:=hr.lt z (Ybd hs) h;have:=h3 _ _ (Yad _) (Ybd hs)
  lia
 ·exact z
 ·have:=h2 i j z h
  lia
theorem YZ (t:SetTable)(hr:Rise t.place)(hd:t.dummies=#[])(j:Nat):(t.slot j=.empty/\j ∉ t.place.toList)\/∃i,t.slot j=.live i/\t.place[i]?=some j:=by
 unfold SetTable.slot;dsimp only;by_cases h:t.place[SetTable.below t.place j]?=some j
 ·refine .inr ⟨SetTable.below t.place j,?_,h⟩;rw [if_pos (by rw [h];exact Yfl _)]
 ·refine .inl ⟨?_,λhm=>?_⟩
  ·rw [if_neg (by rw [Ybg];exact h),hd];have e:SetTable.has #[] j=false:=by unfold SetTable.has;simp
   rw [e]
   rfl
  ·obtain ⟨i,hi,e⟩:=Ycw hm;have e':t.place[i]?=some j:=by
    rw [<-Yay,Yau hi,e]
   rw [UH hr e'] at h;exact h e'
theorem Zae (t:SetTable)(hr:Rise t.place){i j:Nat}(h:t.place[i]?=some j):t.slot j=.live i:=by
 unfold SetTable.slot;dsimp only;rw [UH hr h,if_pos (by rw [h];exact Yfl _)]
theorem J5 {xs:Array Nat}{i j:Nat}(h:xs[i]?=some j):j∈xs.toList:=by
 rw [<-Yay] at h;exact Yax h
section
variable {t:SetTable}{ha:Nat->Int}{h:Int}
theorem Zaf (hr:Rise t.place)(hd:t.dummies=#[]):∀(F:Nat)(p:SetTable.Probe),(∃n,n<F/\(GN t.mask n p).j ∉ t.place.toList) ->
  (∃n,SetTable.probe.go t ha h F p=some (.empty (GN t.mask n p).j p.dummy)/\(GN t.mask n p).j ∉ t.place.toList/\∀q,q<n->∃i,t.place[i]?=some (GN t.mask q p).j/\ha i≠h) \/
  (∃n i,SetTable.probe.go t ha h F p=some (.candidate (GN t.mask n p).j i (GN t.mask (n+1) p))/\t.place[i]?=some (GN t.mask n p).j/\ha i=h/\∀q,q<n->∃i,t.place[i]?=some (GN t.mask q p).j/\ha i≠h)
 | 0,p,⟨n,hn,_⟩=>absurd hn (Yda _)
 | F+1,p,⟨n,hn,hf⟩=>by
  rcases YZ t hr hd p.j with ⟨e,hm⟩ | ⟨i,e,hi⟩
  ·refine .inl ⟨0,?_,hm,λq hq=>absurd hq (Yda _)⟩;unfold SetTable.probe.go;rw [e]
   rfl
  ·by_cases hh:ha i=h
   ·refine .inr ⟨0,i,?_,hi,hh,λq hq=>absurd hq (Yda _)⟩;unfold SetTable.probe.go;rw [e];dsimp only;rw [if_pos (by rw [hh];exact Yfl _),ZcI]
    rfl
   ·have hs:SetTable.probe.go t ha h (F+1) p=SetTable.probe.go t ha h F (adv t.mask p):=by
     rw [SetTable.probe.go,e];dsimp only;rw [if_neg (by rw [Ybg];exact hh),ZcI]
    cases n with
    | zero=>exact absurd (J5 hi) hf
    | succ n=>
     rw [hs];rcases Zaf hr hd F (adv t.mask p) ⟨n,by lia,hf⟩ with ⟨m,g1,g2,g3⟩ | ⟨m,i',g1,g2,g3,g4⟩
     ·refine .inl ⟨m+1,?_,g2,λq hq=>?_⟩
      ·rw [g1,WQ];rfl
      ·cases q with
       | zero=>exact ⟨i,hi,hh⟩
       | succ q=>exact g3 q (by lia)
     ·refine .inr ⟨m+1,i',g1,g2,g3,λq hq=>?_⟩;cases q with
      | zero=>exact ⟨i,hi,hh⟩
      | succ q=>exact g4 q (by lia)
theorem Vv {mask:Nat}{l:List Nat}(h:l.length<=mask):∃j,j<=mask/\j ∉ l:=by
 apply Classical.byContradiction;intro hn;have hs:List.range (mask+1) ⊆ l:=λj hj=>Classical.byContradiction λhm=>hn ⟨j,by have:=Yca.mp hj;lia,hm⟩;have:=Ycj List.nodup_range hs;rw [Yek] at this
 lia
end
theorem isN {ow:Array (Option Nat)}{x:Nat}(hx:x<ow.size):(ow.getD x (some 0)).isNone=true↔ow[x]?=some none:=by
 rw [Yex,Ybd hx];show ow[x].isNone=true↔some ow[x]=some none;cases ow[x] <;> simp
theorem WS {mask:Nat}{ow:Array (Option Nat)}(hz:ow.size=mask+1):∀(F i pt:Nat),i<=mask ->
  (∃m,m<F/\ow[(lps mask m (i,pt)).1]?=some none) ->
  ∃n,SetTable.layClean.free mask ow F i pt=some (GN mask n (rs mask i pt)).j/\ow[(GN mask n (rs mask i pt)).j]?=some none/\∀q,q<n->ow[(GN mask q (rs mask i pt)).j]?≠some none
 | 0,i,pt,_,⟨m,hm,_⟩=>absurd hm (Yda _)
 | F+1,i,pt,hi,⟨m,hm,em⟩=>by
  have hre:=U2 hi;have hrg:=U3 mask i;unfold SetTable.layClean.free;cases hf:List.find? (λk=>(ow.getD (i+k) (some 0)).isNone) (List.range (SetTable.runEnd mask i+1-i)) with
  | some k=>
   obtain ⟨p1,p2,p3⟩:=List.find?_range_eq_some.mp hf;have hk:=Yca.mp p2;refine ⟨k,?_,?_,λq hq=>?_⟩
   ·rw [Ou mask i pt k (by lia)]
   ·rw [Ou mask i pt k (by lia)];show ow[i+k]?=some none;exact (isN (by lia)).mp p1
   ·rw [Ou mask i pt q (by lia)];show ow[i+q]?≠some none;intro z;have h1:=p3 q hq;rw [(isN (by lia)).mpr z] at h1;cases h1
  | none=>
   have qG:=List.find?_eq_none.mp hf;have hno:∀q,q<=SetTable.runEnd mask i-i->ow[i+q]?≠some none:=λq hq z=>qG q (Yca.mpr (by lia)) ((isN (by lia)).mpr z);cases m with
   | zero=>exact absurd em (hno 0 (Yar _))
   | succ m=>
    obtain ⟨n,g1,g2,g3⟩:=WS hz F (SetTable.leap mask i pt).1 (SetTable.leap mask i pt).2 (Vu _ _) ⟨m,by lia,em⟩;refine ⟨SetTable.runEnd mask i-i+1+n,?_,?_,λq hq=>?_⟩
    ·rw [G7,OT];exact g1
    ·rw [G7,OT];exact g2
    ·by_cases hq':q<=SetTable.runEnd mask i-i
     ·rw [Ou mask i pt q hq'];exact hno q hq'
     ·have e:q=SetTable.runEnd mask i-i+1+(q-(SetTable.runEnd mask i-i+1)):=by lia
      rw [e,G7,OT];exact g3 _ (by lia)
noncomputable def Yc (mask:Nat)(acc:Option (Array (Option Nat)×Nat))(h:Int):Option (Array (Option Nat)×Nat):=
 acc.bind λx=>(SetTable.layClean.free mask x.1 (SetTable.turns mask) (SetTable.bits h % (mask+1)) (SetTable.bits h)).bind λj=>some (x.1.setIfInBounds j (some x.2),x.2+1)
theorem V1 (mask:Nat)(qK:Array Int):SetTable.layClean mask qK=(qK.toList.foldl (Yc mask) (some (Array.replicate (mask+1) none,0))).map (·.1):=by
 unfold SetTable.layClean;rw [Array.foldl_toList]
 rfl
structure Lc (mask:Nat)(ow:Array (Option Nat))(js:List Nat)(hs:List Int):Prop where
 sz:ow.size=mask+1
 len:js.length=hs.length
 at_:∀(q j:Nat),js[q]?=some j↔ow[j]?=some (some q)
 rch:∀(q:Nat)(h:Int)(j:Nat),hs[q]?=some h->js[q]?=some j->∃n,(GN mask n (st0 mask h)).j=j/\∀r,r<n->ow[(GN mask r (st0 mask h)).j]?≠some none
theorem Lc.nil (mask:Nat):Lc mask (Array.replicate (mask+1) none) [] []:=
 ⟨Array.size_replicate,rfl,λq j=>⟨λz=>by simp at z,λz=>by
  rw [Array.getElem?_replicate] at z;split at z <;> simp at z⟩,λq h j z=>by simp at z⟩
theorem Lc.step {mask:Nat}{ow:Array (Option Nat)}{js:List Nat}{hs:List Int}(L:Lc mask ow js hs)(hc:YX (mask+1)=true)(hl:hs.length<=mask)(h:Int) :
  ∃j,Yc mask (some (ow,hs.length)) h=some (ow.setIfInBounds j (some hs.length),hs.length+1)/\Lc mask (ow.setIfInBounds j (some hs.length)) (js++[j]) (hs++[h]):=by
 have hjl:=L.len;obtain ⟨j0,hj0,hn0⟩:=Vv (mask:=mask) (l:=js) (by lia);have e0:ow[j0]?=some none:=by
  have hs0:j0<ow.size:=by rw [L.sz];lia
  rw [Ybd hs0];cases q:ow[j0] with
  | none=>rfl
  | some k=>
   exact absurd (Yax ((L.at_ k j0).mpr (by rw [Ybd hs0,q]))) hn0
 obtain ⟨m,hm,em⟩:=WR hc h hj0;obtain ⟨n,g1,g2,g3⟩:=WS L.sz (SetTable.turns mask) (SetTable.bits h % (mask+1)) (SetTable.bits h) (Vu _ _) ⟨m,by unfold SetTable.turns;lia,by rw [em];exact e0⟩;have est:rs mask (SetTable.bits h % (mask+1)) (SetTable.bits h)=st0 mask h:=rfl;rw [est] at g1 g2 g3;have hjlt:(GN mask n (st0 mask h)).j<ow.size:=by rw [L.sz];have:=Zad mask n h;lia
 refine ⟨(GN mask n (st0 mask h)).j,?_,?_⟩
 ·unfold Yc;rw [Option.bind_some,g1]
  rfl
 ·generalize hj:(GN mask n (st0 mask h)).j=j at g2 hjlt ⊢;have hget:∀x,(ow.setIfInBounds j (some hs.length))[x]?=if j=x then some (some hs.length) else ow[x]?:=λx=>by
   rw [Array.getElem?_setIfInBounds,if_pos hjlt]
  have hjs:j ∉ js:=λhm=>by
   obtain ⟨q,hq,e⟩:=Ycw hm;have:=(L.at_ q j).mp (by rw [Yau hq,e]);rw [g2] at this;cases this
  have occ:∀x,ow[x]?≠some none->(ow.setIfInBounds j (some hs.length))[x]?≠some none:=λx hx=>by
   rw [hget];split
   ·simp
   ·exact hx
  refine ⟨by rw [Array.size_setIfInBounds];exact L.sz,by simp [hjl],λq x=>?_,λq g x e1 e2=>?_⟩
  ·rw [hget];by_cases hq:q<js.length
   ·rw [Yby hq];by_cases hx:j=x
    ·rw [if_pos hx];constructor
     ·intro z;exact absurd (hx▸Yax z) hjs
     ·intro z;have:hs.length=q:=by simpa using z
      lia
    ·rw [if_neg hx];exact L.at_ q x
   ·rw [Yce (by lia)];by_cases hx:j=x
    ·rw [if_pos hx];by_cases hq':q=js.length
     ·subst hq';simp [hx,hjl]
     ·constructor
      ·intro z;have:([j]:List Nat)[q-js.length]?=none:=Yfp (by simp;lia);rw [this] at z;cases z
      ·intro z;have:hs.length=q:=by simpa using z
       lia
    ·rw [if_neg hx];constructor
     ·intro z;have:=Yax z;simp at this;exact absurd this.symm hx
     ·intro z;have:=(L.at_ q x).mpr z;rw [Yfp (by lia)] at this;cases this
  ·by_cases hq:q<hs.length
   ·rw [Yby hq] at e1;rw [Yby (by lia)] at e2;obtain ⟨n',r1,r2⟩:=L.rch q g x e1 e2;exact ⟨n',r1,λr hr=>occ _ (r2 r hr)⟩
   ·rw [Yce (by lia)] at e1 e2;have h1:=Yax e1;have h2:=Yax e2;simp at h1 h2;subst h1 h2;exact ⟨n,hj,λr hr=>occ _ (g3 r hr)⟩
theorem Zag {mask:Nat}(hc:YX (mask+1)=true):∀(rest:List Int)(ow:Array (Option Nat))(js:List Nat)(hs:List Int),Lc mask ow js hs->hs.length+rest.length<=mask ->
  ∃ow' js',rest.foldl (Yc mask) (some (ow,hs.length))=some (ow',(hs++rest).length)/\Lc mask ow' js' (hs++rest)
 | [],ow,js,hs,L,_=>⟨ow,js,by simp,by simpa using L⟩
 | h::rest,ow,js,hs,L,hl=>by
  rw [Ybn] at hl;obtain ⟨j,e,L'⟩:=L.step hc (by lia) h;obtain ⟨ow',js',e',L''⟩:=Zag hc rest _ _ (hs++[h]) L' (by simp;lia);refine ⟨ow',js',?_,by simpa using L''⟩;rw [List.foldl_cons,e];have qW:(hs++[h]).length=hs.length+1:=by simp
  rw [qW] at e';rw [e'];simp
theorem Uw {α β:Type}(f:α->Option β):∀(l:List α),(∀x∈l,(f x).isSome=true)->∀r:Nat,(l.filterMap f)[r]?=(l[r]?).bind f
 | [],_,r=>by simp
 | x::l,h,r=>by
  obtain ⟨y,hy⟩:=Yee.mp (h x (Ybe));rw [List.filterMap_cons_some hy];cases r with
  | zero=>simp [hy]
  | succ r=>
   rw [Yfq,Yfq];exact Uw f l (λz hz=>h z (Ybb _ hz)) r
structure ZhP (t:SetTable)(od:Array Nat)(mask finger moves:Nat)(led plain:Bool)(qK:Array Int):Prop where
 tm:t.mask=mask
 tl:t.led=led
 tp:t.plain=plain
 td:t.dummies=#[]
 rise:Rise t.place
 le:∀j∈t.place.toList,j<=mask
 perm:od.toList.Perm (List.range qK.size)
 sz:t.place.size=qK.size
 rch:∀(r q j:Nat)(h:Int),od[r]?=some q->t.place[r]?=some j->qK[q]?=some h->∃n,(GN mask n (st0 mask h)).j=j/\∀r',r'<n->(GN mask r' (st0 mask h)).j∈t.place.toList
theorem Zah {mask:Nat}(hc:YX (mask+1)=true)(finger moves:Nat)(led plain:Bool)(qK:Array Int)(hz:qK.size<=mask) :
  ∃t od,SetTable.laid mask finger moves led plain qK=some (t,od)/\ZhP t od mask finger moves led plain qK:=by
 obtain ⟨ow,js,e,L⟩:=Zag hc qK.toList _ [] [] (Lc.nil mask) (by simpa using hz);simp only [List.nil_append,List.length_nil] at e L;have hn:js.length=qK.size:=by rw [L.len,Yan]
 have e':SetTable.layClean mask qK=some ow:=by rw [V1,e];rfl
 generalize hlive:(List.range (mask+1)).filterMap (λj=>(ow.getD j none).map (j,·))=live;have mem:∀j q,(j,q)∈live↔j<=mask/\ow[j]?=some (some q):=by
  intro j q;rw [<-hlive,Yde];constructor
  ·rintro ⟨a,ha,hb⟩;have ha':=Yca.mp ha;have hs':a<ow.size:=by rw [L.sz];lia
   rw [Yex,Ybd hs'] at hb;cases hq:ow[a] with
   | none=>rw [hq] at hb;cases hb
   | some k=>
    rw [hq] at hb;have hb':(a,k)=(j,q):=Ybl hb;cases hb';exact ⟨by lia,by rw [Ybd hs',hq]⟩
  ·rintro ⟨h1,h2⟩;refine ⟨j,Yca.mpr (by lia),?_⟩;rw [Yex,h2]
   rfl
 have pw1:(live.map (·.1)).Pairwise (· < ·):=by
  rw [Ybq,<-hlive];refine List.Pairwise.filterMap (R:=(· < ·)) _ (λa a' haa b hb b' hb'=>?_) List.pairwise_lt_range;obtain ⟨x,_,rfl⟩:=Ybu.mp hb;obtain ⟨x',_,rfl⟩:=Ybu.mp hb';exact haa
 have pw2:(live.map (·.2)).Nodup:=by
  unfold List.Nodup;rw [Ybq];have:=List.Pairwise.and_mem.mp (Ybq.mp pw1);refine this.imp λ{a b} hab z=>?_;obtain ⟨ha,hb,hlt⟩:=hab;have h1:=(L.at_ a.2 a.1).mpr ((mem a.1 a.2).mp ha).2;have h2:=(L.at_ b.2 b.1).mpr ((mem b.1 b.2).mp hb).2;rw [z,h2] at h1;have:=Ybl h1
  lia
 have hperm:(live.map (·.2)).Perm (List.range qK.size):=by
  refine (List.perm_ext_iff_of_nodup pw2 List.nodup_range).mpr λq=>?_;rw [Yca,Yaj];constructor
  ·rintro ⟨⟨j,q'⟩,hm,rfl⟩;have h1:=(L.at_ q' j).mpr ((mem j q').mp hm).2;have:=(Yao.mp h1).1;show q'<_
   lia
  ·intro hq;have hq':q<js.length:=by lia
   have h1:=(L.at_ q js[q]).mp (Yau hq');have h2:=(Ygc.mp h1).1;rw [L.sz] at h2;exact ⟨(js[q],q),(mem _ _).mpr ⟨by lia,h1⟩,rfl⟩
 refine ⟨_,_,by unfold SetTable.laid;rw [e'];rfl,rfl,rfl,rfl,rfl,?_,?_,?_,?_,?_⟩
 ·unfold Rise;dsimp only;rw [hlive];exact pw1
 ·dsimp only;rw [hlive];intro j hj;obtain ⟨⟨a,q⟩,hm,rfl⟩:=Yaj.mp (show j∈live.map (·.1) from hj);exact ((mem a q).mp hm).1
 ·dsimp only;rw [hlive];exact hperm
 ·dsimp only;rw [hlive,Yaw,Yac];have:=hperm.length_eq;rw [Yac,Yek] at this;exact this
 ·dsimp only;rw [hlive];intro r q j h e1 e2 e3;rw [List.getElem?_toArray,Yaz] at e1 e2;cases hl:live[r]? with
  | none=>rw [hl] at e1;cases e1
  | some x=>
   rw [hl] at e1 e2;have e1':x.2=q:=Ybl e1;have e2':x.1=j:=Ybl e2;subst e1' e2';have h1:=(L.at_ x.2 x.1).mpr ((mem x.1 x.2).mp (Yax hl)).2;obtain ⟨n,r1,r2⟩:=L.rch x.2 h x.1 (by rw [Yay];exact e3) h1;refine ⟨n,r1,λr' hr'=>?_⟩;have h2:=r2 r' hr';have hle:=Zad mask r' h;have hs':(GN mask r' (st0 mask h)).j<ow.size:=by rw [L.sz];lia
   rw [Ybd hs'] at h2;cases hq:ow[(GN mask r' (st0 mask h)).j] with
   | none=>rw [hq] at h2;exact absurd rfl h2
   | some k=>
    show _∈live.map (·.1);exact Yaj.mpr ⟨(_,k),(mem _ _).mpr ⟨hle,by rw [Ybd hs',hq]⟩,rfl⟩
noncomputable def ins {α:Type}(l:List α)(p:Nat)(x:α):List α:=l.take p++x::l.drop p
theorem Yd {α:Type}{l:List α}{p:Nat}{x:α}(hp:p<=l.length)(i:Nat):(ins l p x)[i]?=if i<p then l[i]? else if i=p then some x else l[i-1]?:=by
 unfold ins;have hl:(l.take p).length=p:=by rw [Ybm];lia
 by_cases h:i<p
 ·rw [if_pos h,Yby (by lia),Yey,if_pos h]
 ·rw [if_neg h,Yce (by lia),hl];by_cases h':i=p
  ·subst h';simp
  ·rw [if_neg h'];have e:i-p=(i-p-1)+1:=by lia
   rw [e,Yfq,Yez]
   congr 1
   lia
theorem V2 {α:Type}{l:List α}{p:Nat}{x:α}(hp:p<=l.length):(ins l p x).length=l.length+1:=by
 unfold ins;simp
 lia
theorem Zdx {α β:Type}(f:α->β)(l:List α)(p:Nat)(x:α):(ins l p x).map f=ins (l.map f) p (f x):=by
 unfold ins;simp
theorem ins_mem {α:Type}{l:List α}{p:Nat}{x y:α}:y∈ins l p x↔y=x\/y∈l:=by
 unfold ins;rw [Yag,Yas];constructor
 ·rintro (h | h | h)
  ·exact .inr (Yfa h)
  ·exact .inl h
  ·exact .inr (Ygd h)
 ·rintro (h | h)
  ·exact .inr (.inl h)
  ·rw [<-Ydb p l,Yag] at h;rcases h with h | h
   ·exact .inl h
   ·exact .inr (.inr h)
structure TOk (t:SetTable)(hs:List Int):Prop where
 mask:t.mask=7\/t.mask=31\/t.mask=127\/t.mask=511
 dum:t.dummies=#[]
 len:t.place.size=hs.length
 rise:Rise t.place
 le:∀j∈t.place.toList,j<=t.mask
 rch:∀(i:Nat)(h:Int)(j:Nat),hs[i]?=some h->t.place[i]?=some j->∃n,(GN t.mask n (st0 t.mask h)).j=j/\∀q,q<n->(GN t.mask q (st0 t.mask h)).j∈t.place.toList
theorem TOk.cov {t:SetTable}{hs:List Int}(T:TOk t hs):YX (t.mask+1)=true:=by
 rcases T.mask with e | e | e | e <;> rw [e]
 ·exact ZhO
 ·exact ZeM
 ·exact ZcG
 ·exact ZcH
theorem TOk.fill {t:SetTable}{hs:List Int}(T:TOk t hs):t.fill=hs.length:=by
 unfold SetTable.fill;rw [T.dum,T.len]
 rfl
theorem TOk.fits {t:SetTable}{hs:List Int}(T:TOk t hs)(h:hs.length<=t.mask):t.fits hs.length=true:=by
 unfold SetTable.fits;rw [Ycc,Ybg,decide_eq_true_eq,T.fill];exact ⟨T.len,h⟩
theorem TOk.odd {t:SetTable}{hs:List Int}(T:TOk t hs):t.gaveWay=false:=by
 unfold SetTable.gaveWay;rcases T.mask with e | e | e | e <;> rw [e] <;> rfl
theorem TOk.fresh (f m:Nat)(led:Bool):TOk (SetTable.fresh f m led) []:=
 ⟨.inl rfl,rfl,rfl,List.Pairwise.nil,λj hj=>by simp [SetTable.fresh] at hj,λi h j e=>by simp at e⟩
theorem TOk.empty {t:SetTable}{hs:List Int}(T:TOk t hs)(hl:hs.length<=t.mask)(h:Int):∃n,n+10<10 * SetTable.turns t.mask/\(GN t.mask n (st0 t.mask h)).j ∉ t.place.toList:=by
 obtain ⟨j,h1,h2⟩:=Vv (mask:=t.mask) (l:=t.place.toList) (by rw [Yan,T.len];exact hl);obtain ⟨n,h3,h4⟩:=Zab T.cov h h1;exact ⟨n,h3,by rw [h4];exact h2⟩
theorem ZgR {t:SetTable}{j:Nat}:(t.put j).2=SetTable.below t.place j:=rfl
theorem Oh {t:SetTable}{j:Nat}:(t.put j).1.place.toList=ins t.place.toList (SetTable.below t.place j) j:=by
 show (SetTable.insertAt t.place (SetTable.below t.place j) j).toList=_;rw [SetTable.toList_insertAt]
 rfl
theorem TOk.put {t:SetTable}{hs:List Int}(T:TOk t hs){h:Int}{n:Nat}(hn:(GN t.mask n (st0 t.mask h)).j ∉ t.place.toList)(hr:∀q,q<n->(GN t.mask q (st0 t.mask h)).j∈t.place.toList) :
  SetTable.below t.place (GN t.mask n (st0 t.mask h)).j<=hs.length/\TOk (t.put (GN t.mask n (st0 t.mask h)).j).1 (ins hs (SetTable.below t.place (GN t.mask n (st0 t.mask h)).j) h):=by
 have hle:=Zad t.mask n h;generalize hj:(GN t.mask n (st0 t.mask h)).j=j at hn hle ⊢;obtain ⟨b1,b2,b3⟩:=Uh (j:=j) T.rise;have hb:SetTable.below t.place j<=hs.length:=by rw [<-T.len];exact b1
 have hb':SetTable.below t.place j<=t.place.toList.length:=by rw [Yan];exact b1
 have pm:∀x,x∈t.place.toList->x∈(t.put j).1.place.toList:=λx hx=>by rw [Oh];exact ins_mem.mpr (.inr hx)
 refine ⟨hb,T.mask,?_,?_,?_,λx hx=>?_,λi g x e1 e2=>?_⟩
 ·show (if SetTable.has t.dummies j=true then SetTable.eraseAt t.dummies (SetTable.below t.dummies j) else t.dummies)=#[];rw [T.dum];have e:SetTable.has #[] j=false:=by unfold SetTable.has;simp
  rw [e]
  rfl
 ·rw [V2 hb,<-Yan,Oh,V2 hb',Yan,T.len]
 ·unfold Rise;rw [Oh];unfold ins;rw [Ybv];refine ⟨List.Pairwise.sublist (List.take_sublist _ _) T.rise,?_,λa ha b hb2=>?_⟩
  ·refine Ydc.mpr ⟨λb hb2=>?_,List.Pairwise.sublist (List.drop_sublist _ _) T.rise⟩;obtain ⟨k,hk,e⟩:=Ycw hb2;rw [List.getElem_drop] at e;rw [Ycl] at hk;have e':t.place[SetTable.below t.place j+k]?=some b:=by
    rw [<-Yay,Yau (by lia),e]
   have h1:=b3 _ _ (Nat.le_add_right _ _) e';have h2:j≠b:=λz=>hn (z▸J5 e')
   lia
  ·have hlt:a<j:=by
    obtain ⟨k,hk,e⟩:=Ycw ha;rw [List.getElem_take] at e;rw [Ybm] at hk;have e':t.place[k]?=some a:=by rw [<-Yay,Yau (by lia),e]
    exact b2 k a (by lia) e'
   rcases Yas.mp hb2 with rfl | hb2
   ·exact hlt
   ·obtain ⟨k,hk,e⟩:=Ycw hb2;rw [List.getElem_drop] at e;rw [Ycl] at hk;have e':t.place[SetTable.below t.place j+k]?=some b:=by
     rw [<-Yay,Yau (by lia),e]
    have h1:=b3 _ _ (Nat.le_add_right _ _) e'
    lia
 ·rw [Oh] at hx;rcases ins_mem.mp hx with rfl | hx
  ·exact hle
  ·exact T.le x hx
 ·rw [<-Yay,Oh,Yd hb'] at e2;rw [Yd hb] at e1;by_cases c1:i<SetTable.below t.place j
  ·rw [if_pos c1] at e1 e2;obtain ⟨m,r1,r2⟩:=T.rch i g x e1 (by rw [<-Yay];exact e2);exact ⟨m,r1,λq hq=>pm _ (r2 q hq)⟩
  ·rw [if_neg c1] at e1 e2;by_cases c2:i=SetTable.below t.place j
   ·rw [if_pos c2] at e1 e2;cases e1;cases e2;exact ⟨n,hj,λq hq=>pm _ (hr q hq)⟩
   ·rw [if_neg c2] at e1 e2;obtain ⟨m,r1,r2⟩:=T.rch (i-1) g x e1 (by rw [<-Yay];exact e2);exact ⟨m,r1,λq hq=>pm _ (r2 q hq)⟩
noncomputable abbrev ZbN (es:Array (Int×Value)):List Int:=es.toList.map (·.1)
structure SOk (t:SetTable)(es:Array (Int×Value)):Prop where
 T:TOk t (ZbN es)
 room:es.size * 5<t.mask * 3
theorem Jx (es:Array (Int×Value)):(ZbN es).length=es.size:=by rw [Yac,Yan]
theorem SOk.le {t:SetTable}{es:Array (Int×Value)}(S:SOk t es):(ZbN es).length<=t.mask:=by
 have:=S.room;rw [Jx]
 lia
theorem SOk.fits {t:SetTable}{es:Array (Int×Value)}(S:SOk t es):t.fits es.size=true:=by
 have:=S.T.fits S.le;rw [Jx] at this;exact this
theorem SOk.fresh (f m:Nat)(led:Bool):SOk (SetTable.fresh f m led) #[]:=⟨TOk.fresh f m led,by show 0 * 5<7 * 3;decide⟩
theorem Xu (es:Array (Int×Value))(p:Nat)(h:Int)(x:Value):ZbN (SetTable.insertAt es p (h,x))=ins (ZbN es) p h:=by
 unfold ZbN;rw [SetTable.toList_insertAt];exact Zdx (·.1) es.toList p (h,x)
theorem V3 (es:Array (Int×Value))(p:Nat)(x:Int×Value):(SetTable.insertAt es p x).size=es.size+1:=by
 rw [<-Yan,(SetTable.insertAt_perm es p x).length_eq,Yan,Ycn]
theorem SOk.put {t:SetTable}{es:Array (Int×Value)}(S:SOk t es){h:Int}{n:Nat}(x:Value)(hn:(GN t.mask n (st0 t.mask h)).j ∉ t.place.toList)(hr:∀q,q<n->(GN t.mask q (st0 t.mask h)).j∈t.place.toList) :
  TOk (t.put (GN t.mask n (st0 t.mask h)).j).1 (ZbN (SetTable.insertAt es (t.put (GN t.mask n (st0 t.mask h)).j).2 (h,x)))/\(t.put (GN t.mask n (st0 t.mask h)).j).1.fits (es.size+1)=true:=by
 obtain ⟨h1,h2⟩:=S.T.put hn hr;rw [ZgR,Xu];refine ⟨h2,?_⟩;have h3:=h2.fits (by rw [V2 h1,Jx];show es.size+1<=t.mask;have:=S.room;rcases S.T.mask with e | e | e | e <;> lia);rw [V2 h1,Jx] at h3;exact h3
theorem WT {es:Array (Int×Value)}{od:Array Nat}(h:od.toList.Perm (List.range es.size))(r:Nat):(od.filterMap (es[·]?))[r]?=(od[r]?).bind (es[·]?):=by
 rw [<-Yay,Array.toList_filterMap,Uw _ _ (λx hx=>?_),Yay];have:=Yca.mp (h.mem_iff.mp hx);rw [Ybd this]
 rfl
theorem JY {es:Array (Int×Value)}{od:Array Nat}(h:od.toList.Perm (List.range es.size)):(od.filterMap (es[·]?)).toList.Perm es.toList:=by
 rw [Array.toList_filterMap];exact (h.filterMap _).trans (by rw [PySem.filterMap_getElem?_range])
theorem ZbO {t:SetTable}{es:Array (Int×Value)}(T:TOk t (ZbN es))(hn:es.size=5/\t.mask=7\/es.size=19/\t.mask=31\/es.size=77/\t.mask=127) :
  ∃t2 od,t.relaid (es.map (·.1)) (SetTable.grown es.size)=some (t2,od)/\od.toList.Perm (List.range es.size)/\SOk t2 (od.filterMap (es[·]?))/\t2.led=t.led/\t2.plain=t.plain/\SetTable.sizeAbove (SetTable.grown es.size)<=512:=by
 have hsz:(es.map (·.1)).size=es.size:=Array.size_map;have hm:∃m,SetTable.sizeAbove (SetTable.grown es.size)-1=m/\(m=31\/m=127\/m=511)/\es.size * 5<m * 3/\SetTable.sizeAbove (SetTable.grown es.size)<=512:=by
  rcases hn with ⟨e,_⟩ | ⟨e,_⟩ | ⟨e,_⟩ <;> rw [e]
  ·exact ⟨31,by decide,.inl rfl,by decide,by decide⟩
  ·exact ⟨127,by decide,.inr (.inl rfl),by decide,by decide⟩
  ·exact ⟨511,by decide,.inr (.inr rfl),by decide,by decide⟩
 obtain ⟨m,e,hmm,jZ,h128⟩:=hm;have hc:YX (m+1)=true:=by
  rcases hmm with rfl | rfl | rfl
  ·exact ZeM
  ·exact ZcG
  ·exact ZcH
 obtain ⟨t2,od,e2,L⟩:=Zah hc t.finger (t.movedTo m) t.led t.plain (es.map (·.1)) (by rw [hsz];lia);have hp:=L.perm;rw [hsz] at hp;refine ⟨t2,od,by unfold SetTable.relaid;rw [e];exact e2,hp,⟨⟨by rw [L.tm];exact .inr hmm,L.td,?_,L.rise,by rw [L.tm];exact L.le,λi h j e1 e3=>?_⟩,?_⟩,L.tl,L.tp,h128⟩
 ·rw [L.sz,hsz,Jx];have:=(JY hp).length_eq;rw [Yan,Yan] at this;exact this.symm
 ·rw [L.tm];have e1':((od[i]?).bind (es[·]?)).map (·.1)=some h:=by
   rw [<-WT hp,<-Yay,<-Yaz];exact e1
  cases hq:od[i]? with
  | none=>rw [hq] at e1';cases e1'
  | some q=>
   rw [hq] at e1';exact L.rch i q j h hq e3 (by rw [Array.getElem?_map];exact e1')
 ·rw [L.tm];have:=(JY hp).length_eq;rw [Yan,Yan] at this;rw [this];exact jZ
theorem Zai {t:SetTable}{es:Array (Int×Value)}(S:SOk t es)(h76:es.size+1<=306){t1:SetTable}{hs1:List Int}(T1:TOk t1 hs1)(hl:hs1.length=es.size+1)(hm:t1.mask=t.mask) :
  (t1.tooFull=true/\(es.size+1=5/\t1.mask=7\/es.size+1=19/\t1.mask=31\/es.size+1=77/\t1.mask=127))\/(t1.tooFull=false/\(es.size+1) * 5<t1.mask * 3):=by
 have hr:=S.room;have e:t1.tooFull=decide ((es.size+1) * 5>=t1.mask * 3):=by
  unfold SetTable.tooFull;rw [T1.fill,hl]
 rw [e];by_cases h:(es.size+1) * 5>=t1.mask * 3
 ·refine .inl ⟨Ybi h,?_⟩;rcases T1.mask with q | q | q | q
  ·left;lia
  ·right;left;lia
  ·right;right;lia
  ·lia
 ·exact .inr ⟨Ybx h,by lia⟩
end L2
namespace L2
open PySem PySem.Spec PyProof.Rows
theorem sit_slot_next:Slot "set_iterator" "__next__" "set_iterator.__next__" := by
 refine .of (owner := "set_iterator") (n := "__next__") ?_ (by decide +kernel) (by decide +kernel) (by decide +kernel) ?_ ?_
 ·rw [typeLookup_type,builtinLookup_eq_fast];kernel_rfl
 ·first | exact .inl (by decide +kernel) | exact .inr (by decide +kernel)
 ·rw [isSubtype_type];kernel_rfl
theorem OU:Slot "set_iterator" "__iter__" "set_iterator.__iter__" := by
 refine .of (owner := "set_iterator") (n := "__iter__") ?_ (by decide +kernel) (by decide +kernel) (by decide +kernel) ?_ ?_
 ·rw [typeLookup_type,builtinLookup_eq_fast];kernel_rfl
 ·first | exact .inl (by decide +kernel) | exact .inr (by decide +kernel)
 ·rw [isSubtype_type];kernel_rfl
theorem OB:entryFor table "set_iterator.__next__" = some Builtin.«set_iterator.__next__»:=by
 first | exact entryFor_of_tree (by kernel_rfl) | exact entryFor_of_fast (by kernel_rfl)
theorem OV (a:Value):argsOk "set_iterator.__next__" ⟨[a],[]⟩:=by
 unfold argsOk;kernel_rfl
theorem Vi:entryFor table "set.__iter__" = some Builtin.«frozenset.__iter__»:=by
 first | exact entryFor_alias (id' := "frozenset.__iter__") (by kernel_rfl) (by decide +kernel) (by decide +kernel) (by kernel_rfl) | exact entryFor_alias (id' := "frozenset.__iter__") (by kernel_rfl) rfl (by decide +kernel) (by kernel_rfl)
noncomputable def Oi (w:World):Bool:=w.params.followText "set-order"
section
variable {P:Program}{w:World}{A:Around}{E:EX}{s:Shared}
theorem U4 {Q:Bool->Shared->Prop}(h:Q (Oi w) s):wpAny (model P w) A setsByText Q E s:=by
 unfold setsByText;exact Yaa (wpAny_askSetting (Yab h))
theorem WU {h:Heap}{a:Addr}{o:Obj}{es:Array (Int×Value)}{ep:Nat}{t:SetTable}(ho:h.get? a=some o)(hd:o.data=.set es ep t)(es':Array (Int×Value))(t':SetTable) :
  (h.update a (Obj.putSet es' t')).get? a=some { o with data:=.set es' (ep+1) t' }:=by
 have:=Yfr (Obj.putSet es' t') ho (by rw [putSet_of es' t' hd];rfl);rw [putSet_of es' t' hd] at this;exact this
noncomputable def Jg (w:World):Obj:={ cls:=.type "set", dict:=none,data:=.set #[] 0 (.fresh 0 0 (!Oi w)) }
theorem ZbP (a:Value){Q1:EX}(h:Q1 (.ref s.heap.objs.size) { s with heap:=s.heap.push (Jg w) }) :
  codeAny (model P w) A (.call (.builtin "set.__new__") ⟨[.type "set", a],[]⟩) (wants Q1 E) s:=by
 apply codeAny_of_tree;show wpAny _ A.in1 (checkBuiltinCall "set.__new__" ⟨[.type "set", a],[]⟩ >>= λ_=>again (.builtin "set.__new__" ⟨[.type "set", a],[]⟩)) _ _ s;apply Yaa;apply wpAny_of_eq (F.newCall_set_1 a);refine Yab ⟨Yeb F.plain_set_new _,?_⟩;apply Ycz F.entry_set_new;rw [Ydr F.plain_set_new _];unfold Builtin.«set.__new__» Builtin.Frozenset.newClass;have hsb:=sub_set_self;obtain ⟨hp,g,d,tk,os⟩:=s;dsimp only
 wp_walk
 apply wpAny_askSetting;apply Yab;dsimp only;simp only [newObj];apply Yaa;apply wpAny_alloc;apply Yab;apply Yab;exact h
theorem ZbQ {I:Addr}{fp wr:List Addr}{G:Array GenState->Array GenState->Prop}{n:Nat}{Pv:Nat->Value->Prop}{St:Nat->Shared->Prop}{R:Result->Shared->Prop}(W:WalksS P w A.in1 I fp wr G n Pv St)(S:Addr)(hSf:S ∉ fp)(J:Nat->Obj->Prop)(Kp:Heap->Prop)(hK:∀h h':Heap,Kp h->(∀b o,b ∉ S::wr->h.get? b=some o->h'.get? b=some o)->Kp h')(hadd:∀(i:Nat)(v:Value)(s1:Shared)(o:Obj)(Q:Bool->Shared->Prop)(E1:EX),i<n->Pv i v->Kp s1.heap->s1.heap.get? S=some o->J i o ->
   (∀(b:Bool)(h':Heap)(tk:Nat)(o':Obj),s1.toks<=tk->Heap.SameBut S s1.heap h'->h'.get? S=some o'->J (i+1) o'->Q b { s1 with heap:=h',toks:=tk })->wpAny (model P w) A.in1 (setAdd S v) Q E1 s1) :
  ∀(k i:Nat)(s:Shared)(o:Obj),n-i=k->i<=n->St i s->Kp s.heap->s.heap.get? S=some o->J i o ->
   (∀(s':Shared)(o':Obj),Moved (S::wr) G s s'->s'.heap.get? S=some o'->J n o'->R (.ok (.ret .none)) s') ->
   codeAny (model P w) A (.builtin "set.update.loop" ⟨[.ref S,.ref I],[]⟩) R s:=by
 have hSw:S ∉ wr:=λz=>hSf (W.sub _ z);have up:∀b∈wr,b∈S::wr:=λb z=>Ybb _ z;intro k
 induction k with
 | zero=>
  intro i s o hk hi st kp ho hj hR;have e:i=n:=by lia
  subst e;apply Ycz PyProof.Rows.F.entry_set_update_loop;rw [Ydr PyProof.Rows.F.plain_set_update_loop _];apply Yaa;refine W.done s _ _ st λs1 hm=>?_;apply Yab;exact hR s1 o (hm.mono up) (hm.heap S _ hSw ho) hj
 | succ k ih=>
  intro i s o hk hi st kp ho hj hR;have hlt:i<n:=by lia
  apply Ycz PyProof.Rows.F.entry_set_update_loop;rw [Ydr PyProof.Rows.F.plain_set_update_loop _];apply Yaa;refine W.item i s _ _ hlt st λv s1 hv st1 hm=>?_;have ho1:=hm.heap S _ hSw ho;have kp1:Kp s1.heap:=hK _ _ kp λb o' hb e=>hm.heap b o' (λz=>hb (up _ z)) e;apply Yaa;apply Yci;refine hadd i v s1 o _ _ hlt hv kp1 ho1 hj λb h' tk o' htk sb ho' hj'=>?_;refine Yab ⟨Yeb PyProof.Rows.F.plain_set_update_loop _,ih (i+1) _ o' (by lia) hlt (W.frame _ s1 _ _ st1 htk λb hb o2 e=>?_) (hK _ _ kp1 λb o2 hb e=>?_) ho' hj' λs2 o2 hm2 ho2 hj2=>?_⟩
  ·rw [sb.2 b (λz:b=S=>hSf (z▸hb))];exact e
  ·show h'.get? b=some o2;rw [sb.2 b (λz:b=S=>hb (by rw [z];exact Ybe))];exact e
  ·refine hR s2 o2 (Moved.trans W.gtrans ((hm.mono up).then_heap htk λb o3 hb e=>?_) hm2) ho2 hj2;rw [sb.2 b (λz:b=S=>hb (by rw [z];exact Ybe))];exact e
theorem Zaj {l:Addr}{items:Array Value}{Q:EX}(hh:A.handled=none)(hl:s.heap.IsList l items)(J:Nat->Obj->Prop)(Kp:Heap->Prop)(h0:J 0 (Jg w))(hK0:∀h':Heap,(∀b o,b<s.heap.objs.size->s.heap.get? b=some o->h'.get? b=some o)->Kp h')(hadd:∀(i:Nat)(v:Value)(s1:Shared)(o:Obj)(Q:Bool->Shared->Prop)(E1:EX),i<items.size->items[i]?=some v->Kp s1.heap->s1.heap.get? s.heap.objs.size=some o->J i o ->
   (∀(b:Bool)(h':Heap)(tk:Nat)(o':Obj),s1.toks<=tk->Heap.SameBut s.heap.objs.size s1.heap h'->h'.get? s.heap.objs.size=some o'->J (i+1) o'->Q b { s1 with heap:=h',toks:=tk })->wpAny (model P w) A.in1.in1.in1 (setAdd s.heap.objs.size v) Q E1 s1)(h:∀(h':Heap)(tk:Nat)(o':Obj),h'.get? s.heap.objs.size=some o'->J items.size o'->(∀b o,b<s.heap.objs.size->s.heap.get? b=some o->h'.get? b=some o)->Q (.ref s.heap.objs.size) { s with heap:=h',toks:=tk }) :
  wpAny (model P w) A (call (.type "set") [.ref l]) Q E s:=by
 obtain ⟨c,tl,hmro⟩:=F.called_set.mro;have hmade:=F.called_set.made;have hsub:=F.called_set.sub;apply wpAny_call;apply codeAny_of_tree;show wpAny _ _ (callAny (.type "set") _) _ _ _;refine Yab ⟨Code.quiet_builtin _ (by decide +kernel),?_⟩;apply Ycz F.entry_type_call;rw [Around.under_plain (weight_type_call_type "set" [.ref l] []) rfl];have h1:=F.called_set.notType;have h2:=F.called_set.canCreate;have hct:=F.typeCall_set_1 (.ref l)
 repeat (any_goals (first | assumption | wp_step))
 refine codeAny_mono (ZbP (.ref l) (E:=E) (Q1:=λobj s1=>obj=.ref s.heap.objs.size/\s1={ s with heap:=s.heap.push (Jg w) }) ⟨rfl,rfl⟩) λr s1 hr=>?_;cases r with
 | error e=>exact hr
 | ok fl=>
  cases fl with
  | ret obj=>
   obtain ⟨rfl,rfl⟩:=hr;have hS:(s.heap.push (Jg w)).get? s.heap.objs.size=some (Jg w):=Ybh _ rfl;have hT:Shared.TypeIs { s with heap:=s.heap.push (Jg w) } (.ref s.heap.objs.size) "set" := ⟨_,hS,rfl⟩;have hli:=F.called_set.init.lookup;have hbi:=F.called_set.init.bind (.ref s.heap.objs.size)
   repeat (any_goals (first | assumption | wp_step))
   refine codeAny_mono (codeAny_call_builtin (R:=wants (λr s2=>r=.none/\∃(h':Heap)(tk:Nat)(o':Obj),s2={ s with heap:=h',toks:=tk }/\h'.get? s.heap.objs.size=some o'/\J items.size o' /\
     (∀b o,b<s.heap.objs.size->s.heap.get? b=some o->h'.get? b=some o)) E) F.called_set.init.plain F.entry_set_init (check_set_init_1 hT ?_)) λr2 s2 hr2=>?_
   ·obtain ⟨ol,hol,hcl,nl,hdl⟩:=hl;obtain ⟨ocls,odict,odata,oslots⟩:=ol;simp only at hcl hdl;subst hcl;subst hdl;have hol':(s.heap.push (Jg w)).get? l=some { cls:=.type "list", dict:=odict,data:=.seq items nl,slots:=oslots }:=Yal _ hol;have hsls:=F.sub_list_set;have hslf:=F.sub_list_frozenset;have hne:(Value.type "list" == Value.type "dict")=false:=by decide
    have hl1:(s.heap.push (Jg w)).IsList l items:=⟨_,hol',rfl,nl,rfl⟩;have hS':(s.heap.push (Jg w)).get? s.heap.objs.size=some { cls:=.type "set", dict:=none,data:=.set #[] 0 (.fresh 0 0 (!Oi w)) }:=hS;unfold Builtin.«set.__init__» noKeywords Builtin.Frozenset.updateFrom;generalize hPI:pyIter=PI
    wp_walk
    subst hPI;apply wpAny_pyIter_list hl1;apply Yaa;apply wpAny_runValue;have hlS:l<s.heap.objs.size:=Yak hol;have hh3:A.in1.in1.in1.handled=none:=by simp [hh]
    have hz:(s.heap.push (Jg w)).objs.size=s.heap.objs.size+1:=Yck ..;have hneI:l≠(s.heap.push (Jg w)).objs.size:=by rw [hz];exact Yav (Yel hlS)
    have hSf:s.heap.objs.size ∉ [(s.heap.push (Jg w)).objs.size,l]:=by
     rw [hz];intro z;rcases Yas.mp z with z | z
     ·exact Yav (Nat.lt_succ_self _) z
     ·exact Ydm hlS (Yah.mp z)
    have kold:∀b o,b<s.heap.objs.size->s.heap.get? b=some o->((s.heap.push (Jg w)).push { cls:=.type "list_iterator", data:=.fields #[.ref l,.int 0 0] }).get? b=some o:=
     λb o _ e=>Yal _ (Yal _ e)
    refine ZbQ ((Walks.list hh3 _ l hneI items).toS) s.heap.objs.size hSf J (λh'=>∀b o,b<s.heap.objs.size->s.heap.get? b=some o->h'.get? b=some o) ?_ ?_ (items.size-0) 0 _ (Jg w) (by lia) (Yar _)
     ⟨⟨_,Ybh _ rfl,rfl,rfl⟩,(hl1.push _)⟩ kold (Yal _ hS) h0 ?_
    ·intro ha hb hab hst b o hlt e;refine hst b o ?_ (hab b o hlt e);intro z;rcases Yas.mp z with z | z
     ·exact Yav hlt z
     ·exact Yav (Yel hlt) ((Yah.mp z).trans hz)
    ·intro i v s1 o Q1 E1 hi hv kp ho hj hq;exact hadd i v s1 o Q1 E1 hi hv (hK0 _ kp) ho hj hq
    ·intro s' o' hm ho' hj';obtain ⟨h',g',d',tk',os'⟩:=s';have eg:g'=s.gens:=hm.gens;have ed:d'=s.drawn:=hm.drawn;have eo:os'=s.os:=hm.os;subst eg;subst ed;subst eo;apply Yab;refine Yab ⟨rfl,h',tk',o',rfl,ho',hj',λb o hb e=>?_⟩;refine hm.heap b o ?_ (Yal _ (Yal _ e));intro z;rcases Yas.mp z with z | z
     ·exact Yav hb z
     ·exact Yav (Yel hb) ((Yah.mp z).trans hz)
   ·cases r2 with
    | error e=>exact hr2
    | ok fl2=>
     cases fl2 with
     | ret r=>
      obtain ⟨rfl,h',tk,o',rfl,ho',hj',hk'⟩:=hr2
      repeat (any_goals (first | assumption | wp_step))
      exact h _ _ _ ho' hj' hk'
     | _=>exact hr2.elim
  | _=>exact hr.elim
theorem Zak {α:Type}(next:Nat->Nat):∀(jJ k:Nat)(left:List α)(out:Array α),left.length=jJ->(pickOrder.go next jJ k left out).toList.Perm (out.toList++left)
 | 0,k,left,out,h=>by
  have:left=[]:=List.length_eq_zero_iff.mp h;subst this;unfold pickOrder.go;simp
 | jJ+1,k,left,out,h=>by
  have hlt:next k % left.length<left.length:=Nat.mod_lt _ (by lia)
  unfold pickOrder.go;rw [Yau hlt];dsimp only;refine (Zak next jJ (k+1) _ _ (by rw [List.length_eraseIdx,if_pos hlt];lia)).trans ?_;rw [Yem];exact X3 left out.toList _ _ (Yau hlt)
theorem Zal {α:Type}(next:Nat->Nat)(xs:Array α):(pickOrder next xs).toList.Perm xs.toList:=by
 unfold pickOrder;have:=Zak next xs.size 0 xs.toList #[] (by simp)
 simpa using this
noncomputable def OW (t:SetTable):Nat->Nat
 | 0=>0
 | i+1=>t.place.getD i 0+1
theorem Y0 {t:SetTable}(hr:Rise t.place){i:Nat}(hi:i<=t.place.size):SetTable.below t.place (OW t i)=i:=by
 obtain ⟨b1,b2,b3⟩:=Uh (j:=OW t i) hr;have lo:∀q a,q<i->t.place[q]?=some a->a<OW t i:=λq a hq ha=>by
  cases i with
  | zero=>lia
  | succ i=>
   have hi':i<t.place.size:=by lia
   have e:t.place.getD i 0=t.place[i]:=by rw [Yex,Ybd hi'];rfl
   show a<t.place.getD i 0+1;rw [e];by_cases hq':q=i
   ·subst hq';rw [Ybd hi'] at ha;cases ha;exact Nat.lt_succ_self _
   ·have:=hr.lt (show q<i by lia) ha (Ybd hi')
    lia
 have hi2:∀q a,i<=q->t.place[q]?=some a->OW t i<=a:=λq a hq ha=>by
  cases i with
  | zero=>exact Yar _
  | succ i=>
   have hi':i<t.place.size:=by lia
   have e:t.place.getD i 0=t.place[i]:=by rw [Yex,Ybd hi'];rfl
   show t.place.getD i 0+1<=a;rw [e];exact hr.lt (show i<q by lia) (Ybd hi') ha
 rcases Yej (SetTable.below t.place (OW t i)) i with z | z | z
 ·have hs:SetTable.below t.place (OW t i)<t.place.size:=by lia
  have h1:=lo _ _ z (Ybd hs);have h2:=b3 _ _ (Yad _) (Ybd hs)
  lia
 ·exact z
 ·have hs:i<t.place.size:=by lia
  have h1:=hi2 _ _ (Yad _) (Ybd hs);have h2:=b2 _ _ z (Ybd hs)
  lia
noncomputable def SAt (w:World)(h:Heap)(a:Addr)(es:Array (Int×Value))(ep:Nat)(t:SetTable):Prop:=
 (∃o,h.get? a=some o/\o.ExactSet/\o.data=.set es ep t)/\SOk t es/\t.plain=true/\t.led=!Oi w
noncomputable def JM (w:World)(a:Addr)(es:Array (Int×Value))(ep:Nat):List (Int×Value):=if Oi w then (pickOrder (w.params.setOrder a ep) es).toList else es.toList
theorem JN (a:Addr)(es:Array (Int×Value))(ep:Nat):(JM w a es ep).Perm es.toList:=by
 unfold JM;split
 ·exact Zal _ _
 ·exact .refl _
noncomputable def UD (w:World)(t:SetTable)(i:Nat):Nat:=if Oi w then 0 else OW t i
noncomputable def IsSetIter (w:World)(h:Heap)(it a:Addr)(t:SetTable)(i n ep:Nat):Prop:=
 ∃o,h.get? it=some o/\o.cls=.type "set_iterator" /\ o.data=.fields #[.int (UD w t i) 0,.int i 0,.ref a,.int n 0,.int ep 0]
theorem IsSetIter.typeIs {it a:Addr}{t:SetTable}{i n ep:Nat}(h:IsSetIter w s.heap it a t i n ep):s.TypeIs (.ref it) "set_iterator" := let ⟨o,h1,h2,_⟩:=h;⟨o,h1,h2⟩
theorem SAt.typeIs {a:Addr}{es:Array (Int×Value)}{ep:Nat}{t:SetTable}(h:SAt w s.heap a es ep t):s.TypeIs (.ref a) "set" := let ⟨⟨o,h1,h2,_⟩,_⟩:=h;⟨o,h1,h2.1⟩
theorem Y1 {a:Addr}{es:Array (Int×Value)}{ep:Nat}{t:SetTable}{Q:Array (Int×Value)->Shared->Prop}(h:SAt w s.heap a es ep t)(hq:∀r:Array (Int×Value),r.toList=JM w a es ep->Q r s) :
  wpAny (model P w) A (setWalk a) Q E s:=by
 obtain ⟨⟨o,ho,hx,hd⟩,S,hpl,hled⟩:=h;unfold setWalk;apply Yaa;apply Yen ho hd S.fits;dsimp only;apply Yaa;apply U4;unfold JM at hq;cases hb:Oi w with
 | true=>
  rw [hb] at hq;rw [if_pos rfl];apply Yaa;apply wpAny_askSetting;exact Yab (hq _ rfl)
 | false=>
  rw [hb] at hq hled;rw [if_neg Yam];have e1:(!t.plain && decide (es.size > 1))=false:=by rw [hpl];rfl
  show wpAny _ _ (if (!t.plain && decide (es.size > 1))=true then _ else _) _ _ s;rw [e1,if_neg Yam];apply Yaa;show wpAny _ _ (if (!t.led && decide (es.size > 1))=true then _ else _) _ _ s;have e2:(!t.led && decide (es.size > 1))=false:=by rw [hled];rfl
  rw [e2,if_neg Yam];apply Yab;exact Yab (hq es rfl)
theorem Vw {a:Addr}{es:Array (Int×Value)}{ep i:Nat}{t:SetTable}{Q:Option (Value×Nat)->Shared->Prop}(h:SAt w s.heap a es ep t)(hi:i<=es.size)(hq:Q (((JM w a es ep)[i]?).map λe=>(e.2,UD w t (i+1))) s):wpAny (model P w) A (setNext a (UD w t i) i ep) Q E s:=by
 obtain ⟨⟨o,ho,hx,hd⟩,S,hpl,hled⟩:=id h;have qW:t.place.size=es.size:=by rw [S.T.len,Jx]
 unfold setNext;apply Yaa;apply Yen ho hd S.fits;dsimp only;apply Yaa;apply U4;cases hb:Oi w with
 | true=>
  rw [if_pos rfl,if_neg (by simp)];apply Yaa;refine Y1 h λr hr=>?_;refine Yab ?_;have e0:∀k,UD w t k=0:=λk=>by unfold UD;rw [hb];rfl
  rw [e0] at hq ⊢;rw [<-Yay,hr];exact hq
 | false=>
  rw [hb] at hled;rw [if_neg Yam];have e1:(!t.plain && decide (es.size > 1))=false:=by rw [hpl];rfl
  show wpAny _ _ (if (!t.plain && decide (es.size > 1))=true then _ else _) _ _ s;rw [e1,if_neg Yam];apply Yaa;show wpAny _ _ (if (!t.led && !es.isEmpty)=true then _ else _) _ _ s;have e2:(!t.led && !es.isEmpty)=false:=by rw [hled];rfl
  rw [e2,if_neg Yam];apply Yab;have e3:∀k,UD w t k=OW t k:=λk=>by unfold UD;rw [hb];rfl
  rw [e3] at hq ⊢;rw [Y0 S.T.rise (by lia)];have e4:JM w a es ep=es.toList:=by unfold JM;rw [hb];rfl
  rw [e4,Yay] at hq;by_cases hlt:i<es.size
  ·rw [Ybd hlt] at hq ⊢;have hp:i<t.place.size:=by lia
   rw [Ybd hp];have e5:OW t (i+1)=t.place[i]+1:=by
    show t.place.getD i 0+1=_;rw [Yex,Ybd hp]
    rfl
   rw [e5] at hq;exact Yab hq
  ·rw [Ygb (by lia)] at hq ⊢;exact Yab hq
theorem SAt.ext {h h':Heap}{a:Addr}{es:Array (Int×Value)}{ep:Nat}{t:SetTable}(x:SAt w h a es ep t)(k:∀o,h.get? a=some o->h'.get? a=some o):SAt w h' a es ep t:=
 let ⟨⟨o,h1,h2⟩,r⟩:=x;⟨⟨o,k _ h1,h2⟩,r⟩
theorem IsSetIter.ext {h h':Heap}{it a:Addr}{t:SetTable}{i n ep:Nat}(x:IsSetIter w h it a t i n ep)(k:∀o,h.get? it=some o->h'.get? it=some o):IsSetIter w h' it a t i n ep:=
 let ⟨o,h1,h2⟩:=x;⟨o,k _ h1,h2⟩
theorem Xv {it a:Addr}{es:Array (Int×Value)}{ep i:Nat}{t:SetTable}{e:Int×Value}{Q:Option Value->Shared->Prop}(hit:IsSetIter w s.heap it a t i es.size ep)(hs:SAt w s.heap a es ep t)(he:(JM w a es ep)[i]?=some e)(hne:a≠it)(hq:∀h':Heap,IsSetIter w h' it a t (i+1) es.size ep->Heap.SameBut it s.heap h'->Q (some e.2) { s with heap:=h' }) :
  wpAny (model P w) A (pyNext (.ref it)) Q E s:=by
 obtain ⟨o,ho,hc,hd⟩:=id hit;obtain ⟨⟨oa,hoa,hxa,hda⟩,S,hpl,hled⟩:=id hs;have hwl:(JM w a es ep).length=es.size:=by rw [(JN a es ep).length_eq,Yan]
 have hi:i<es.size:=by
  have:=(Yao.mp he).1
  lia
 unfold pyNext;apply Yaa;apply Ydz;refine Yfk (name:=Str.ofString "__next__") hit.typeIs sit_slot_next (Ycv sit_slot_next hit.typeIs OB ?_ (OV _));unfold Builtin.«set_iterator.__next__»;apply Yaa;apply Yab;apply Yaa;apply wpAny_fieldsOf ho hd;dsimp only;apply Yaa;apply wpAny_setEntries_of hoa hda S.fits;rw [if_neg (by simp)];apply Yaa;have hn:=λE1=>Vw (P:=P) (A:=A.in1) (E:=E1) (s:=s) (i:=i) hs (Yed hi) (Q:=λr s1=>r=some (e.2,UD w t (i+1))/\s1=s) ⟨by rw [he];rfl,rfl⟩;refine Ybr (by simpa using hn _) (λr s1 hr=>?_) λ_ _ x=>x;obtain ⟨rfl,rfl⟩:=hr;dsimp only;apply Yaa;apply wpAny_setField ho hd (by simp);have ho2:=Yfr (Obj.mapFields (·.setIfInBounds 0 (rawInt ((UD w t (i+1):Nat):Int)))) ho (Obj.isFreed_of_fields (Obj.data_mapFields hd _));have hd2:=Obj.data_mapFields hd (·.setIfInBounds 0 (rawInt ((UD w t (i+1):Nat):Int)));apply Yaa;apply wpAny_setField ho2 hd2 (by simp);refine Yab ⟨_,rfl,Yab (hq _ ⟨_,Yfr _ ho2 (Obj.isFreed_of_fields (Obj.data_mapFields hd2 _)),?_,?_⟩ ((Yfb ..).trans (Yfb ..)))⟩
 ·rw [Obj.cls_mapFields,Obj.cls_mapFields];exact hc
 ·rw [Obj.data_mapFields hd2];simp [rawInt]
theorem Y2 {it a:Addr}{es:Array (Int×Value)}{ep:Nat}{t:SetTable}{Q:Option Value->Shared->Prop}(hh:A.handled=none)(hit:IsSetIter w s.heap it a t es.size es.size ep)(hs:SAt w s.heap a es ep t)(hq:∀h':Heap,Heap.ExtBut it s.heap h'->Q none { s with heap:=h' }):wpAny (model P w) A (pyNext (.ref it)) Q E s:=by
 obtain ⟨o,ho,hc,hd⟩:=id hit;obtain ⟨⟨oa,hoa,hxa,hda⟩,S,hpl,hled⟩:=id hs;have hwl:(JM w a es ep).length=es.size:=by rw [(JN a es ep).length_eq,Yan]
 unfold pyNext;apply Yaa;apply Ydz;refine Yfk (name:=Str.ofString "__next__") hit.typeIs sit_slot_next (Ycv sit_slot_next hit.typeIs OB ?_ (OV _));unfold Builtin.«set_iterator.__next__»;apply Yaa;apply Yab;apply Yaa;apply wpAny_fieldsOf ho hd;dsimp only;apply Yaa;apply wpAny_setEntries_of hoa hda S.fits;rw [if_neg (by simp)];apply Yaa;have hn:=λE1=>Vw (P:=P) (A:=A.in1) (E:=E1) (s:=s) (i:=es.size) hs (Yad _) (Q:=λr s1=>r=none/\s1=s) ⟨by rw [Yfp (by lia)];rfl,rfl⟩;refine Ybr (by simpa using hn _) (λr s1 hr=>?_) λ_ _ x=>x;obtain ⟨rfl,rfl⟩:=hr;dsimp only;apply Yaa;apply wpAny_setField ho hd (by simp);apply Yaa;simp only [newExc,newTuple];apply Yaa;refine Ydy ?_ (by size_fits);refine Yaa (m:=firstArgMember _ _) (wpAny_of_eq (a:=Value.none) (by first | (simp only [firstArgMember];rfl) | rfl) ?_);refine Ydy ?_ (by size_fits);simp only [raiseNew];apply Yaa;apply wpAny_handled;rw [show A.in1.handled=none from hh];refine wpAny_throw ?_;apply Yaa;refine Yfs (b:=true) (T := "StopIteration") ⟨_,Ybh _ rfl,rfl⟩ isSubtype_stop ?_;exact Yab (hq _ (((Yfb ..).extBut.push _).push _))
theorem Y3 {a:Addr}{es:Array (Int×Value)}{ep:Nat}{t:SetTable}{Q:EX}(h:SAt w s.heap a es ep t)(hq:Q (.ref s.heap.objs.size) { s with heap:=s.heap.push { cls:=.type "set_iterator", data:=.fields #[.int 0 0,.int 0 0,.ref a,.int es.size 0,.int ep 0] } }):wpAny (model P w) A (pyIter (.ref a)) Q E s:=by
 obtain ⟨⟨o,ho,hx,hd⟩,S,hpl,hled⟩:=id h;refine wpAny_pyIter_slot h.typeIs F.slot_set_iter (Ycv F.slot_set_iter h.typeIs Vi ?_ (F.args_set_iter_1 _));unfold Builtin.«frozenset.__iter__»;apply Yaa;refine Yab ?_;apply Yaa;unfold Builtin.Frozenset.sizeOf;apply Yaa;apply wpAny_setEntries_of ho hd S.fits;apply Yab;apply Yaa;apply Yaa;apply Yen ho hd S.fits;dsimp only;apply Yaa;apply U4;apply Yab;have e1:(!Oi w && (!t.plain && decide (es.size > 1)))=false:=by rw [hpl];simp
 show wpAny _ _ (if (!Oi w && (!t.plain && decide (es.size > 1)))=true then _ else _) _ _ _;rw [e1,if_neg Yam];apply Yaa;apply Yab;apply Yaa;apply wpAny_setEpoch_of ho hd S.fits;apply Yaa;refine Ydy (Yab ⟨_,rfl, "set_iterator", _,⟨_,Ybh _ rfl,rfl⟩,sit_slot_next.lookup,?_⟩);simpa [rawInt] using hq
theorem ZbR {r:Addr}{Q:Bool->Shared->Prop}(hT:s.TypeIs (.ref r) "set")(h:Q false s):wpAny (model P w) A (Builtin.List.listLengthHint (.ref r)) Q E s:=by
 unfold Builtin.List.listLengthHint;apply Yaa;refine wpAny_specialOf hT F.slot_set_len.lookup ?_;generalize hid:("set.__len__" : String)=nm
 wp_delta
 rw [show splitId nm=some ("set", "__len__") from by subst hid;decide +kernel];subst hid;apply Yaa;refine Yfs (T := "set") (b:=true) hT (by rw [isSubtype_type];kernel_rfl) ?_;refine wpAny_ite_split (λz=>absurd z (by decide)) λ_=>?_;refine wpAny_ite_split (λ_=>?_) λz=>absurd (by decide +kernel) z;apply Yaa;apply Ydx hT;exact Yab h
theorem Zdy {a:Addr}{es:Array (Int×Value)}{ep:Nat}{t:SetTable}:W.KdlSrc P w "set" a a es.size (λi v=>∃e,(JM w a es ep)[i]?=some e/\v=e.2) (λh=>SAt w h a es ep t) where
 type:=λ_ h=>h.typeIs
 there:=λ_ h=>by
  obtain ⟨⟨o,ho,_⟩,_⟩:=h;exact ⟨Yak ho,Yak ho⟩
 keep:=λ_ _ h k=>h.ext λo e=>k a (.inl rfl) o e
 notList:=by decide
 notTuple:=by decide
 hint:=λ_ _ _ _ h q=>ZbR h.typeIs q
 iter:=λA s hh h=>by
  have hlt:a<s.heap.objs.size:=by
   obtain ⟨⟨o,ho,_⟩,_⟩:=h;exact Yak ho
  have hwl:(JM w a es ep).length=es.size:=by rw [(JN a es ep).length_eq,Yan]
  refine ⟨{ cls:=.type "set_iterator", data:=.fields #[.int 0 0,.int 0 0,.ref a,.int es.size 0,.int ep 0] },λi h'=>IsSetIter w h' s.heap.objs.size a t i es.size ep/\SAt w h' a es ep t,λ_ _ q=>Y3 h q,?_,?_⟩
  ·refine ⟨λb hb=>?_,λi h1 h2 st k=>⟨st.1.ext λo e=>k _ (by simp) o e,st.2.ext λo e=>k a (by simp) o e⟩,λi s1 Q E hi st hq=>?_,λs1 Q E st hq=>?_,λi s1 Q E st hq=>?_⟩
   ·rw [Yah.mp hb];exact Ybe
   ·have he:(JM w a es ep)[i]?=some (JM w a es ep)[i]:=Yau (by lia);refine Xv st.1 st.2 he (Yav hlt) λh' hi' sb=>?_;refine hq _ h' s1.toks ⟨_,he,rfl⟩ ⟨hi',st.2.ext λo e=>?_⟩ λb o hb e=>?_
    ·rw [sb.2 a (Yav hlt)];exact e
    ·rw [sb.2 b (λz=>hb (by rw [z];exact Ybe))];exact e
   ·refine Y2 hh st.1 st.2 λh' he=>hq h' s1.toks λb o hb e=>he b o (λz=>hb (by rw [z];exact Ybe)) e
   ·refine wpAny_pyIter_slot st.1.typeIs OU (Ycv OU st.1.typeIs (b:=Builtin.«dict_keyiterator.__iter__») ?_ ?_ ?_)
    ·exact entryFor_alias (id' := "dict_keyiterator.__iter__") (by kernel_rfl) rfl (by decide +kernel) (by kernel_rfl)
    ·show wpAny _ _ (ret (Value.ref s.heap.objs.size)) _ _ s1;exact Yab ⟨_,rfl, "set_iterator", _,st.1.typeIs,sit_slot_next.lookup,hq⟩
    ·unfold argsOk;kernel_rfl
  ·refine ⟨⟨_,Ybh _ rfl,rfl,?_⟩,h.ext λo e=>Yal _ e⟩;have:UD w t 0=0:=by unfold UD;split <;> rfl
   rw [this]
   rfl
end
theorem V4 {α:Type}{l:List α}{i:Nat}{x y:α}(h:l[i]?=some x):y∈l.take (i+1)↔y∈l.take i\/y=x:=by
 rw [List.take_succ,h];simp
section
variable {X:Cx}(K:W.Frag)
end
section
variable {P:Program}{w:World}{A:Around}{E:EX}{s:Shared}
end
section
variable {X:Cx}
end
section
variable {X:Cx}(P:Program)(w:World)(K:W.Frag)
end
section
variable {X:Cx}
end
section
variable {P:Program}{w:World}{A:Around}{E:EX}{s:Shared}
theorem WV {ks:List Int}{vs:List Value}(h:ItemsAre (intKind P w) ks vs):∀v∈vs,∃i t,v=Value.int i t:=by
 induction h with
 | nil=>intro v hv;simp at hv
 | @cons k v' ks vs h1 _ ih=>
  intro v hv;rcases Yas.mp hv with rfl | hv
  ·cases v with
   | int i t=>exact ⟨i,t,rfl⟩
   | _=>cases h1
  ·exact ih v hv
noncomputable def hAt (es:Array (Int×Value))(i:Nat):Int:=(es[i]?.map (·.1)).getD 0
section
variable {a b:Addr}{o:Obj}{es:Array (Int×Value)}{ep:Nat}{t:SetTable}{ps:List (Int×Int)}{r:Int×Int}{Q:SetFound->Shared->Prop}
end
end
section
variable {X:Cx}(K:W.Frag)
noncomputable abbrev Tri:=Int×Int×Int
inductive Trs (H:Hp):List V->List Tri->Prop
 | nil:Trs H [] []
 | cons {p:Addr} {a b c:Int} {xs:List V} {rs:List Tri}:H p=some (.tup [.int a,.int b,.int c])->Trs H xs rs->Trs H (.ref p::xs) ((a,b,c)::rs)
theorem Trs.len {H:Hp}{xs:List V}{rs:List Tri}(h:Trs H xs rs):xs.length=rs.length:=by
 induction h with
 | nil=>rfl
 | cons _ _ ih=>rw [Ybn,Ybn,ih]
theorem Trs.snoc {H:Hp}{xs:List V}{rs:List Tri}(h:Trs H xs rs){p:Addr}{a b c:Int}(e:H p=some (.tup [.int a,.int b,.int c])):Trs H (xs++[.ref p]) (rs++[(a,b,c)]):=by
 induction h with
 | nil=>exact .cons e .nil
 | cons e1 _ ih=>exact .cons e1 ih
theorem Trs.keep {H H':Hp}{xs:List V}{rs:List Tri}(h:Trs H xs rs)(k:∀p ys,H p=some (.tup ys)->H' p=some (.tup ys)):Trs H' xs rs:=by
 induction h with
 | nil=>exact .nil
 | cons e1 _ ih=>exact .cons (k _ _ e1) ih
theorem Trs.same {H H':Hp}{xs:List V}{rs:List Tri}(h:Trs H xs rs)(k:Same H H'):Trs H' xs rs:=h.keep λp ys e=>k p _ e
theorem Trs.get {H:Hp}:∀{xs:List V}{rs:List Tri},Trs H xs rs->∀{i:Nat}{x:V},xs[i]?=some x->∃t r,x=.ref t/\H t=some (.tup [.int r.1,.int r.2.1,.int r.2.2])/\rs[i]?=some r
 | _,_,.nil,_,_,h=>by simp at h
 | _,_,.cons (a:=a) (b:=b) (c:=c) e _,0,_,h=>by
  simp at h;subst h;exact ⟨_,(a,b,c),rfl,e,rfl⟩
 | _,_,.cons _ t,i+1,_,h=>by
  rw [Yfq] at h ⊢;exact Trs.get t h
theorem Trs.at {H:Hp}{xs:List V}{rs:List Tri}(h:Trs H xs rs){i:Nat}{r:Tri}(e:rs[i]?=some r):∃t,xs[i]?=some (.ref t)/\H t=some (.tup [.int r.1,.int r.2.1,.int r.2.2]):=by
 have hi:i<xs.length:=by rw [h.len];exact (Yao.mp e).1
 obtain ⟨t,r',e1,e2,e3⟩:=h.get (Yau hi);rw [e] at e3;cases e3;exact ⟨t,by rw [Yau hi,e1],e2⟩
noncomputable def trD (r:Tri):PyData:=.tuple [.int r.1,.int r.2.1,.int r.2.2]
theorem Trs.dats {K:W.Frag}{H:Hp}{xs:List V}{rs:List Tri}(h:Trs H xs rs):DatVs K H xs (rs.map trD):=by
 induction h with
 | nil=>exact .nil
 | cons e _ ih=>exact .cons (.tup (SqT.of e) (.cons (.int _) (.cons (.int _) (.cons (.int _) .nil)))) ih
theorem Zdz (r q:Tri):PyData.eqv (trD r) (trD q)=decide (r=q):=by
 obtain ⟨a,b,c⟩:=r;obtain ⟨d,e,f⟩:=q;simp only [trD,PyData.eqv,PyData.eqvAll,Prod.mk.injEq];by_cases h1:a=d <;> by_cases h2:b=e <;> by_cases h3:c=f <;> simp [h1,h2,h3]
theorem Xw:∀rs qs:List Tri,PyData.eqvAll (rs.map trD) (qs.map trD)=decide (rs=qs)
 | [],[]=>by simp [PyData.eqvAll]
 | [],_::_=>by simp [PyData.eqvAll]
 | _::_,[]=>by simp [PyData.eqvAll]
 | r::rs,q::qs=>by
  rw [Yaq,Yaq];simp only [PyData.eqvAll,Zdz,Xw rs qs];by_cases h1:r=q <;> by_cases h2:rs=qs <;> simp [h1,h2]
theorem Xx:∀rs:List Tri,PyData.canLayAll0 (rs.map trD)=true
 | []=>by simp [PyData.canLayAll0]
 | r::rs=>by
  rw [Yaq];simp [PyData.canLayAll0,trD,PyData.canLay0,Xx rs]
theorem U5:∀rs:List Tri,PyData.depthAll (rs.map trD)<=2
 | []=>by simp [PyData.depthAll]
 | r::rs=>by
  have ih:=U5 rs;rw [Yaq];simp only [PyData.depthAll,trD,PyData.depth]
  lia
theorem Vx (rs:List Tri):SeqAt.shaped (.list (rs.map trD))=true:=by
 unfold SeqAt.shaped;rw [Ycc];refine ⟨by simp only [PyData.canLay0];exact Xx rs,Ybi ?_⟩;have:=U5 rs;simp only [PyData.depth]
 lia
theorem Ov (n:Int)(rs:List Tri):SeqAt.shaped (.tuple [.int n,.list (rs.map trD)])=true:=by
 unfold SeqAt.shaped;rw [Ycc];have:=U5 rs;refine ⟨by simp only [PyData.canLay0,PyData.canLayAll0,Xx rs,Bool.and_self],Ybi ?_⟩;simp only [PyData.depth,PyData.depthAll]
 lia
theorem ZdA (rs qs:List Tri):PyData.eqv (.list (rs.map trD)) (.list (qs.map trD))=decide (rs=qs):=by
 simp only [PyData.eqv,Xw]
theorem Zam (n m:Int)(rs qs:List Tri):PyData.eqv (.tuple [.int n,.list (rs.map trD)]) (.tuple [.int m,.list (qs.map trD)])=(decide (n=m) && decide (rs=qs)):=by
 simp only [PyData.eqv,PyData.eqvAll,Xw,Bool.and_true];by_cases h:n=m <;> simp [h]
theorem ZgS (h:X.K=K:=by rfl):SlR X (Zhl K):=h▸ZcB
theorem Zan {tg:Expr}{l:Expr}{tl:TE}(hl:PE X l tl)(h:X.K=K:=by rfl):PI X tg l (Zhi K tl):=h▸Zes hl
end
noncomputable def Nd (ts:List Tri)(c:Int)(r:Tri):Prop:=2<=c/\ts[(c-2).toNat]?=some r
noncomputable def At (ts:List Tri)(c lo:Int):Prop:=c=0\/c=1\/∃r,Nd ts c r/\lo<r.1
noncomputable def TabOk (ts:List Tri):Prop:=∀(i:Nat)(r:Tri),ts[i]?=some r->(0<=r.1/\r.1<30)/\At ts r.2.1 r.1/\At ts r.2.2 r.1
theorem Nd.one {ts:List Tri}{c:Int}{r r':Tri}(h:Nd ts c r)(h':Nd ts c r'):r=r':=by
 have:=h.2.symm.trans h'.2;cases this
 rfl
theorem Nd.lt {ts:List Tri}{c:Int}{r:Tri}(h:Nd ts c r):c<ts.length+2:=by
 have:=(Yao.mp h.2).1;have:=h.1
 lia
theorem Nd.app {ts:List Tri}{c:Int}{r:Tri}(h:Nd ts c r)(us:List Tri):Nd (ts++us) c r:=
 ⟨h.1,by rw [Yby (Yao.mp h.2).1];exact h.2⟩
theorem Nd.last (ts:List Tri)(r:Tri):Nd (ts++[r]) (ts.length+2) r:=by
 refine ⟨by lia,?_⟩;have e:((ts.length:Int)+2-2).toNat=ts.length:=by lia
 rw [e,Yce (Yad _),Ydo]
 rfl
theorem At.app {ts:List Tri}{c lo:Int}(h:At ts c lo)(us:List Tri):At (ts++us) c lo:=by
 rcases h with h | h | ⟨r,h,g⟩
 ·exact .inl h
 ·exact .inr (.inl h)
 ·exact .inr (.inr ⟨r,h.app us,g⟩)
theorem At.mono {ts:List Tri}{c lo lo':Int}(h:At ts c lo)(hl:lo'<=lo):At ts c lo':=by
 rcases h with h | h | ⟨r,h,g⟩
 ·exact .inl h
 ·exact .inr (.inl h)
 ·exact .inr (.inr ⟨r,h,by lia⟩)
theorem At.lt {ts:List Tri}{c lo:Int}(h:At ts c lo):0<=c/\c<ts.length+2:=by
 rcases h with rfl | rfl | ⟨r,h,g⟩
 ·lia
 ·lia
 ·have:=h.lt;have:=h.1
  lia
theorem At.nd {ts:List Tri}{c lo:Int}(h:At ts c lo)(hc:1<c):∃r,Nd ts c r/\lo<r.1:=by
 rcases h with h | h | h
 ·lia
 ·lia
 ·exact h
theorem TabOk.nil:TabOk []:=λi r h=>by simp at h
theorem TabOk.snoc {ts:List Tri}{r:Tri}(h:TabOk ts)(h0:0<=r.1/\r.1<30)(h1:At ts r.2.1 r.1)(h2:At ts r.2.2 r.1):TabOk (ts++[r]):=by
 intro i q e;by_cases hi:i<ts.length
 ·rw [Yby hi] at e;obtain ⟨a,b,c⟩:=h i q e;exact ⟨a,b.app _,c.app _⟩
 ·rw [Yce (by lia)] at e;have hz:i-ts.length=0:=by
   have:=(Yao.mp e).1;rw [Yat] at this
   lia
  rw [hz] at e;cases e;exact ⟨h0,h1.app _,h2.app _⟩
theorem TabOk.nd {ts:List Tri}{c:Int}{r:Tri}(h:TabOk ts)(n:Nd ts c r):(0<=r.1/\r.1<30)/\At ts r.2.1 r.1/\At ts r.2.2 r.1:=h _ r n.2
inductive Has (ts:List Tri):Int->List Int->Prop
 | one:Has ts 1 []
 | low {c:Int} {r:Tri} {rs:List Int}:Nd ts c r->Has ts r.2.1 rs->Has ts c rs
 | high {c:Int} {r:Tri} {rs:List Int}:Nd ts c r->Has ts r.2.2 rs->Has ts c (r.1::rs)
theorem Has.zero {ts:List Tri}{rs:List Int}:¬ Has ts 0 rs:=by
 intro h;cases h with
 | low n _=>exact absurd n.1 (by decide)
 | high n _=>exact absurd n.1 (by decide)
theorem Has.at1 {ts:List Tri}{rs:List Int}:Has ts 1 rs↔rs=[]:=by
 constructor
 ·intro h;cases h with
  | one=>rfl
  | low n _=>exact absurd n.1 (by decide)
  | high n _=>exact absurd n.1 (by decide)
 ·rintro rfl;exact .one
theorem Has.small {ts:List Tri}{c:Int}{rs:List Int}(h0:0<=c)(h1:¬ 1<c):Has ts c rs↔(c=1/\rs=[]):=by
 have hc:c=0\/c=1:=by lia
 rcases hc with rfl | rfl
 ·exact ⟨λh=>absurd h Has.zero,λh=>absurd h.1 (by decide)⟩
 ·rw [Has.at1];exact ⟨λh=>⟨rfl,h⟩,λh=>h.2⟩
theorem Has.nil {ts:List Tri}{c:Int}{r:Tri}(n:Nd ts c r):Has ts c []↔Has ts r.2.1 []:=by
 constructor
 ·intro h;cases h with
  | one=>exact absurd n.1 (by decide)
  | low n' h'=>rw [n.one n'];exact h'
 ·exact .low n
theorem Has.cons {ts:List Tri}{c:Int}{r:Tri}{x:Int}{rs:List Int}(n:Nd ts c r):Has ts c (x::rs)↔(Has ts r.2.1 (x::rs)\/(x=r.1/\Has ts r.2.2 rs)):=by
 constructor
 ·intro h;cases h with
  | low n' h'=>rw [n.one n'];exact .inl h'
  | high n' h'=>rw [n.one n'];exact .inr ⟨rfl,h'⟩
 ·rintro (h | ⟨rfl,h⟩)
  ·exact .low n h
  ·exact .high n h
theorem Has.gt {ts:List Tri}(T:TabOk ts){c:Int}{rs:List Int}(h:Has ts c rs):∀{lo x:Int}{xs:List Int},At ts c lo->rs=x::xs->lo<x:=by
 induction h with
 | one=>intro lo x xs _ e;cases e
 | @low c r rs n h ih=>
  intro lo x xs a e;obtain ⟨r',n',g⟩:=a.nd (by have:=n.1;lia);rw [n'.one n] at g;have:=ih (T.nd n).2.1 e
  lia
 | @high c r rs n h ih=>
  intro lo x xs a e;obtain ⟨r',n',g⟩:=a.nd (by have:=n.1;lia);rw [n'.one n] at g;cases e;exact g
theorem Has.skip {ts:List Tri}(T:TabOk ts){c:Int}{r:Tri}{x:Int}{xs:List Int}(n:Nd ts c r)(h:r.1≠x):Has ts c (x::xs)↔Has ts r.2.1 (x::xs):=by
 rw [Has.cons n];exact ⟨λz=>z.elim id λz=>absurd z.1.symm h,.inl⟩
theorem Has.take {ts:List Tri}(T:TabOk ts){c:Int}{r:Tri}{x:Int}{xs:List Int}(n:Nd ts c r)(h:r.1=x):Has ts c (x::xs)↔Has ts r.2.2 xs:=by
 rw [Has.cons n];constructor
 ·rintro (z | z)
  ·have:=z.gt T (T.nd n).2.1 rfl
   lia
  ·exact z.2
 ·intro z;exact .inr ⟨h.symm,z⟩
theorem Has.none {ts:List Tri}(T:TabOk ts){c:Int}{r:Tri}{x:Int}{xs:List Int}(n:Nd ts c r)(h:x<r.1):¬ Has ts c (x::xs):=by
 rw [Has.cons n];rintro (z | z)
 ·have:=z.gt T (T.nd n).2.1 rfl
  lia
 ·lia
noncomputable def Jb (fs:List Int)(n:Int):Option Int:=if n=0 then some 0 else if n=1 then some 1 else (fs.idxOf? n).map λ(i:Nat)=>(i:Int)+2
theorem idxOf?_app (fs:List Int)(n m:Int)(hn:m ∉ fs):(fs++[m]).idxOf? n=if n=m then some fs.length else fs.idxOf? n:=by
 induction fs with
 | nil=>
  by_cases h:n=m
  ·subst h;simp [List.idxOf?,List.findIdx?_cons]
  ·have:¬ m=n:=λz=>h z.symm;simp [List.idxOf?,List.findIdx?_cons,h,this]
 | cons a fs ih=>
  have h1:m ∉ fs:=λz=>hn (Ybb _ z);have h2:a≠m:=λz=>hn (z▸Ybe);have ih':=ih h1;rw [List.cons_append,List.idxOf?_cons,List.idxOf?_cons,ih',Ybn];by_cases ha:(a == n)=true
  ·have:a=n:=by simpa using ha
   subst this;simp [h2]
  ·by_cases hm:n=m
   ·subst hm;simp [ha]
   ·simp [ha,hm]
theorem OX (fs:List Int)(n m:Int)(hn:Jb fs m=none):Jb (fs++[m]) n=if n=m then some ((fs.length:Int)+2) else Jb fs n:=by
 unfold Jb at hn ⊢;by_cases h0:m=0
 ·rw [if_pos h0] at hn;cases hn
 rw [if_neg h0] at hn;by_cases h1:m=1
 ·rw [if_pos h1] at hn;cases hn
 rw [if_neg h1] at hn;have hm:m ∉ fs:=by
  intro z;rw [Yft,List.idxOf?_eq_none_iff] at hn;exact hn z
 rw [idxOf?_app fs n m hm];by_cases hnm:n=m
 ·subst hnm;simp [h0,h1]
 ·simp [hnm]
theorem Zao {fs:List Int}{n m a:Int}(hn:Jb fs m=none)(h:Jb fs n=some a):Jb (fs++[m]) n=some a:=by
 rw [OX fs n m hn,if_neg (λz=>by rw [z,hn] at h;cases h)];exact h
theorem V5 {fs:List Int}{n a:Int}(h:Jb fs n=some a)(h1:1<n):2<=a/\fs[(a-2).toNat]?=some n:=by
 unfold Jb at h;rw [if_neg (by lia),if_neg (by lia)] at h;cases hi:fs.idxOf? n with
 | none=>rw [hi] at h;cases h
 | some i=>
  rw [hi] at h;cases h;refine ⟨by show (2:Int)<=(i:Int)+2;lia,?_⟩;show fs[((i:Int)+2-2).toNat]?=some n;rw [show ((i:Int)+2-2).toNat=i by lia];rw [List.idxOf?_eq_some_iff] at hi;obtain ⟨hl,e,_⟩:=hi;rw [Yau hl,e]
theorem OY (fs:List Int):Jb fs 0=some 0:=by unfold Jb;rw [if_pos rfl]
theorem OZ (fs:List Int):Jb fs 1=some 1:=by unfold Jb;rw [if_neg (by decide),if_pos rfl]
theorem U6 {fs:List Int}{m:Int}(h:Jb fs m=none):m≠0/\m≠1/\m ∉ fs:=by
 unfold Jb at h;by_cases h0:m=0
 ·rw [if_pos h0] at h;cases h
 rw [if_neg h0] at h;by_cases h1:m=1
 ·rw [if_pos h1] at h;cases h
 rw [if_neg h1] at h;refine ⟨h0,h1,λz=>?_⟩;rw [Yft,List.idxOf?_eq_none_iff] at h;exact h z
structure Fnd (ks:List Tri)(root:Int)(fs:List Int)(kvs:List (Key×V))(k:Nat):Prop where
 num:∀n:Int,JL kvs (.inl n)=(Jb fs n).map V.int
 nd:fs.Nodup
 nod:∀x∈fs,∃r,Nd ks x r
 kle:k<=fs.length
 cl:∀(i:Nat),i<k->∀(x:Int)(r:Tri),fs[i]?=some x->Nd ks x r->(Jb fs r.2.1).isSome/\(Jb fs r.2.2).isSome
 kl:kvs.length<=fs.length+2
theorem O0 {fs:List Int}{m n:Int}(hn:Jb fs m=none)(h:(Jb fs n).isSome):(Jb (fs++[m]) n).isSome:=by
 obtain ⟨a,e⟩:=Yee.mp h;rw [Zao hn e]
 rfl
theorem Fnd.add {ks:List Tri}{root:Int}{fs:List Int}{kvs:List (Key×V)}{k:Nat}(h:Fnd ks root fs kvs k){m v:Int}{r:Tri}(hn:Jb fs m=none)(hr:Nd ks m r)(hv:v=(fs.length:Int)+2):Fnd ks root (fs++[m]) (JV kvs (.inl m) (.int v)) k:=by
 obtain ⟨h0,h1,h2⟩:=U6 hn;refine ⟨λn=>?_,?_,λx hx=>?_,?_,λi hi x r' e n'=>?_,?_⟩
 ·rw [G3,OX fs n m hn,h.num n];by_cases e:n=m
  ·rw [if_pos e,if_pos (by rw [e]),hv]
   rfl
  ·rw [if_neg e,if_neg (λz=>e (Yec z))]
 ·exact Ycf.mpr ⟨h.nd,by simp,λa ha b hb=>by rw [Yah] at hb;subst hb;exact λz=>h2 (z▸ha)⟩
 ·rcases Yag.mp hx with z | z
  ·exact h.nod x z
  ·rw [Yah] at z;subst z;exact ⟨r,hr⟩
 ·rw [Yai];have:=h.kle
  lia
 ·have hil:i<fs.length:=Ybk hi h.kle;rw [Yby hil] at e;obtain ⟨a,b⟩:=h.cl i hi x r' e n';exact ⟨O0 hn a,O0 hn b⟩
 ·have:=GL kvs (.inl m) (.int v);have:=h.kl;rw [Yai,Yat]
  lia
theorem Fnd.le {ks:List Tri}{root:Int}{fs:List Int}{kvs:List (Key×V)}{k:Nat}(h:Fnd ks root fs kvs k):fs.length<=ks.length:=by
 have:=Ycj (l₂:=(List.range ks.length).map λ(i:Nat)=>(i:Int)+2) h.nd λx hx=>by
  obtain ⟨r,n⟩:=h.nod x hx;have h1:=n.lt;have h2:=n.1;exact Yaj.mpr ⟨(x-2).toNat,Yca.mpr (by lia),by lia⟩
 rw [Yac,Yek] at this;exact this
theorem Fnd.next {ks:List Tri}{root:Int}{fs:List Int}{kvs:List (Key×V)}{k:Nat}(h:Fnd ks root fs kvs k){x:Int}{r:Tri}(e:fs[k]?=some x)(n:Nd ks x r)(h1:(Jb fs r.2.1).isSome)(h2:(Jb fs r.2.2).isSome):Fnd ks root fs kvs (k+1):=by
 refine ⟨h.num,h.nd,h.nod,(Yao.mp e).1,λi hi x' r' e' n'=>?_,h.kl⟩;by_cases hk:i<k
 ·exact h.cl i hk x' r' e' n'
 ·have:i=k:=by lia
  subst this;rw [e] at e';cases e';rw [n'.one n];exact ⟨h1,h2⟩
noncomputable def Said (ks:List Tri)(fs:List Int)(us:List Tri)(i:Nat):Prop:=∀(j:Nat)(x:Int),j<i->fs[j]?=some x->∃(r:Tri)(a b:Int),Nd ks x r/\Jb fs r.2.1=some a/\Jb fs r.2.2=some b/\us[j]?=some (r.1,a,b)
theorem Said.at {ks:List Tri}{fs:List Int}{us:List Tri}(S:Said ks fs us fs.length){c lo a:Int}(h:At ks c lo)(e:Jb fs c=some a):At us a lo:=by
 rcases h with rfl | rfl | ⟨r,n,g⟩
 ·rw [OY] at e;cases e;exact .inl rfl
 ·rw [OZ] at e;cases e;exact .inr (.inl rfl)
 ·obtain ⟨h2,e2⟩:=V5 e (by have:=n.1;lia);obtain ⟨r',a',b',n',_,_,e'⟩:=S _ _ (Yao.mp e2).1 e2;rw [n'.one n] at e';exact .inr (.inr ⟨_,⟨h2,e'⟩,g⟩)
theorem Said.tab {ks:List Tri}{fs:List Int}{us:List Tri}(T:TabOk ks)(S:Said ks fs us fs.length)(hl:us.length=fs.length):TabOk us:=by
 intro i q e;have hi:i<fs.length:=by rw [<-hl];exact (Yao.mp e).1
 obtain ⟨r,a,b,n,ha,hb,e'⟩:=S i _ hi (Yau hi);rw [e] at e';cases e';obtain ⟨h1,h2,h3⟩:=T.nd n;exact ⟨h1,S.at h2 ha,S.at h3 hb⟩
theorem Said.snoc {ks:List Tri}{fs:List Int}{us:List Tri}{i:Nat}(S:Said ks fs us i)(hl:us.length=i){x:Int}{r:Tri}{a b:Int}(e:fs[i]?=some x)(n:Nd ks x r)(ha:Jb fs r.2.1=some a)(hb:Jb fs r.2.2=some b):Said ks fs (us++[(r.1,a,b)]) (i+1):=by
 intro j y hj ey;by_cases h:j<i
 ·obtain ⟨r',a',b',h1,h2,h3,h4⟩:=S j y h ey;exact ⟨r',a',b',h1,h2,h3,by rw [Yby (by lia)];exact h4⟩
 ·have:j=i:=by lia
  subst this;rw [e] at ey;cases ey;refine ⟨r,a,b,n,ha,hb,?_⟩;rw [Yce (by lia),hl,Ydo]
  rfl
noncomputable def Bk (ts:List Tri):Prop:=∀(i:Nat)(r:Tri),ts[i]?=some r->r.2.1<(i:Int)+2/\r.2.2<(i:Int)+2
theorem Bk.snoc {ts:List Tri}{r:Tri}(h:Bk ts)(h1:r.2.1<(ts.length:Int)+2)(h2:r.2.2<(ts.length:Int)+2):Bk (ts++[r]):=by
 intro i q e;by_cases hi:i<ts.length
 ·rw [Yby hi] at e;exact h i q e
 ·rw [Yce (by lia)] at e;have hz:i-ts.length=0:=by
   have:=(Yao.mp e).1;rw [Yat] at this
   lia
  rw [hz] at e;cases e;have:i=ts.length:=by lia
  subst this;exact ⟨h1,h2⟩
structure MapOk (ts ks:List Tri)(sm:List Int)(i:Nat):Prop where
 len:sm.length=i+2
 at_:∀c lo:Int,c<(i:Int)+2->At ts c lo->At ks (sm.getD c.toNat 0) lo
theorem MapOk.start (ts ks:List Tri):MapOk ts ks [0,1] 0:=by
 refine ⟨rfl,λc lo hc a=>?_⟩;rcases a with rfl | rfl | ⟨r,n,_⟩
 ·exact .inl rfl
 ·exact .inr (.inl rfl)
 ·have:=n.1
  lia
theorem V6 {sm:List Int}{v:Int}{j:Nat}(h:j<sm.length):(sm++[v]).getD j 0=sm.getD j 0:=by
 rw [Ydj,Ydj,Yby h]
theorem V7 {sm:List Int}{v:Int}:(sm++[v]).getD sm.length 0=v:=by
 rw [Ydj,Yce (Yad _),Ydo]
 rfl
theorem MapOk.grow {ts ks:List Tri}{sm:List Int}{i:Nat}(M:MapOk ts ks sm i)(us:List Tri):MapOk ts (ks++us) sm i:=⟨M.len,λc lo hc a=>(M.at_ c lo hc a).app us⟩
theorem MapOk.snoc {ts ks:List Tri}{sm:List Int}{i:Nat}(M:MapOk ts ks sm i){r q:Tri}{c:Int}(e:ts[i]?=some r)(n:Nd ks c q)(hq:q.1=r.1):MapOk ts ks (sm++[c]) (i+1):=by
 refine ⟨by rw [Yai,M.len,Yat],λd lo hd a=>?_⟩;have h0:=a.lt;by_cases hi:d<(i:Int)+2
 ·rw [V6 (by rw [M.len];lia)];exact M.at_ d lo hi a
 ·have hd':d.toNat=sm.length:=by rw [M.len];lia
  rw [hd',V7];obtain ⟨r',n',g⟩:=a.nd (by lia);have:r'=r:=by
   have:=n'.2;rw [show (d-2).toNat=i by lia,e] at this;cases this
   rfl
  subst this;exact .inr (.inr ⟨q,n,by rw [hq];exact g⟩)
noncomputable def OG (r:Tri):List Key:=[.inl r.1,.inl r.2.1,.inl r.2.2]
theorem ZbS {r q:Tri}(h:OG r=OG q):r=q:=by
 obtain ⟨a,b,c⟩:=r;obtain ⟨d,e,f⟩:=q;unfold OG at h;simp only [List.cons.injEq,Sum.inl.injEq,and_true] at h;obtain ⟨rfl,rfl,rfl⟩:=h
 rfl
noncomputable def SeenOk (kvs:List (List Key×V))(ks:List Tri):Prop:=∀r:Tri,∀v:V,JL kvs (OG r)=some v->∃c:Int,v=.int c/\Nd ks c r
theorem SeenOk.add {kvs:List (List Key×V)}{ks:List Tri}(S:SeenOk kvs ks){r:Tri}{c:Int}(hc:c=(ks.length:Int)+2):SeenOk (JV kvs (OG r) (.int c)) (ks++[r]):=by
 intro q v e;rw [G3] at e;by_cases h:OG q=OG r
 ·rw [if_pos h] at e;cases e;have:=ZbS h;subst this;exact ⟨c,rfl,hc▸Nd.last ks q⟩
 ·rw [if_neg h] at e;obtain ⟨d,e1,e2⟩:=S q v e;exact ⟨d,e1,e2.app _⟩
section
variable {P:Program}{w:World}{A:Around}{E:EX}{s:Shared}{Ad:Addr->List Int->Prop}
noncomputable abbrev GC (P:Program)(w:World)(r:List Int):Int:=tupleKeyHash (intKind P w) r
noncomputable def IsTu (P:Program)(w:World)(h:Heap)(r:List Int)(a:Addr):Prop:=IsTupleKey (intKind P w) h r a
noncomputable def Y4 (P:Program)(w:World)(Ad:Addr->List Int->Prop)(h:Heap)(e:Int×Value)(r:List Int):Prop:=e.1=GC P w r/\∃a,e.2=.ref a/\IsTu P w h r a/\Ad a r
theorem IsTu.keep {h h':Heap}{r:List Int}{a:Addr}(x:IsTu P w h r a)(k:∀o,h.get? a=some o->h'.get? a=some o):IsTu P w h' r a:=by
 obtain ⟨o,its,n,h1,h2⟩:=x;exact ⟨o,its,n,k _ h1,h2⟩
theorem Oj:∀{h:Heap}{l:List (Int×Value)}{ps:List (List Int)},Paired (Y4 P w Ad h) l ps->∀{i:Nat}{e:Int×Value},l[i]?=some e->∃r,ps[i]?=some r/\Y4 P w Ad h e r
 | _,_,_,.nil,i,e,z=>by simp at z
 | _,_,_,.cons h0 t,0,e,z=>by simp at z;subst z;exact ⟨_,rfl,h0⟩
 | _,_,_,.cons h0 t,i+1,e,z=>by
  obtain ⟨r,h1,h2⟩:=Oj t (i:=i) (e:=e) (by simpa using z);exact ⟨r,by simpa using h1,h2⟩
theorem Vy {h:Heap}{l l':List (Int×Value)}(p:l'.Perm l):∀{σ:List (List Int)},Paired (Y4 P w Ad h) l σ->∃ σ',Paired (Y4 P w Ad h) l' σ'/\σ'.Perm σ:=by
 induction p with
 | nil=>intro σ h;cases h;exact ⟨[],.nil,.refl _⟩
 | cons x _ ih=>
  intro σ h;cases h with
  | cons h t=>
   obtain ⟨σ',h1,h2⟩:=ih t;exact ⟨_,.cons h h1,h2.cons _⟩
 | swap x y l=>
  intro σ h;cases h with
  | cons h t=>
   cases t with
   | cons h' t=>exact ⟨_,.cons h' (.cons h t),.swap _ _ _⟩
 | trans _ _ ih1 ih2=>
  intro σ h;obtain ⟨σ1,h1,p1⟩:=ih2 h;obtain ⟨σ2,h2,p2⟩:=ih1 h1;exact ⟨σ2,h2,p2.trans p1⟩
theorem WW:∀{h:Heap}{l k:List (Int×Value)}{σ τ:List (List Int)},Paired (Y4 P w Ad h) l σ->Paired (Y4 P w Ad h) k τ->Paired (Y4 P w Ad h) (l++k) (σ++τ)
 | _,_,_,_,_,.nil,h=>h
 | _,_,_,_,_,.cons h t,k=>.cons h (WW t k)
theorem U7 {a:Addr}{r:List Int}{Q:Bool->Shared->Prop}(hx:IsTu P w s.heap r a)(h:Q false s):wpAny (model P w) A (ofAClassStatement 8 (.ref a)) Q E s:=by
 have hT:=IsTupleKey.typeIs hx;obtain ⟨o,its,n,ho,hc,hd,hi⟩:=hx;unfold ofAClassStatement;apply Yaa;apply Ydx hT;apply Yaa;apply Yab;apply Yaa;apply wpAny_seqItems ho hd;dsimp only;apply Yaa;rw [<-Array.forIn_toList];refine wpAny_forIn_list _ (λrest c s'=>c.1=none/\s'=s/\∀v∈rest,∃i t,v=Value.int i t) _ ?_ ?_ _ _ ⟨rfl,rfl,WV hi⟩
 ·rintro v rest c s' ⟨hr,rfl,qG⟩;obtain ⟨i,t,rfl⟩:=qG v Ybe;apply Yaa;apply Yab;rw [if_neg Yam];exact Yab ⟨rfl,rfl,λu hu=>qG u (Ybb _ hu)⟩
 ·rintro ⟨c1,c2⟩ s' ⟨hr,rfl,_⟩;simp only at hr;subst hr;exact Yab h
theorem Y5 {b:Addr}{r:List Int}{l:List Value}{Q:Bool->Shared->Prop}(hx:IsTu P w s.heap r b)(hl:∀v∈l,∃a r',v=Value.ref a/\IsTu P w s.heap r' a)(h:Q false s):wpAny (model P w) A (searchCouldBeSeen (.ref b) l) Q E s:=by
 unfold searchCouldBeSeen;apply Yaa;refine wpAny_forIn_list _ (λrest c s'=>c.1=none/\s'=s/\∀v∈rest,∃a r',v=Value.ref a/\IsTu P w s.heap r' a) _ ?_ ?_ _ _ ⟨rfl,rfl,hl⟩
 ·rintro v rest c s' ⟨hr,rfl,qG⟩;obtain ⟨a,r',rfl,hy⟩:=qG v Ybe;have nxt:∀u∈rest,∃a r',u=Value.ref a/\IsTu P w s'.heap r' a:=λu hu=>qG u (Ybb _ hu);dsimp only;by_cases hv:((b == a) || (carriedByValue (.ref b) && carriedByValue (.ref a)))=true
  ·rw [if_pos hv];exact Yab ⟨rfl,rfl,nxt⟩
  ·rw [if_neg hv];apply Yaa;refine wpAny_eqIsQuiet_tuple hx ?_;rw [if_neg (by decide)];apply Yaa;refine wpAny_eqIsQuiet_tuple hy ?_;rw [if_neg (by decide)];apply Yaa;refine U7 hx ?_;rw [if_neg Yam];apply Yaa;refine U7 hy ?_;rw [if_neg Yam];exact Yab ⟨rfl,rfl,nxt⟩
 ·rintro ⟨c1,c2⟩ s' ⟨hr,rfl,_⟩;simp only at hr;subst hr;exact Yab h
section
variable {a b:Addr}{o:Obj}{es:Array (Int×Value)}{ep:Nat}{t:SetTable}{ps:List (List Int)}{r:List Int}{Q:SetFound->Shared->Prop}
theorem OC (hu:A.units<cLine)(ho:s.heap.get? a=some o)(hd:o.data=.set es ep t)(S:SOk t es)(hE:Paired (Y4 P w Ad s.heap) es.toList ps)(hx:IsTu P w s.heap r b)(hyes:r∈ps->Q (.there none) s)(hno:r ∉ ps->∀n,(GN t.mask n (st0 t.mask (GC P w r))).j ∉ t.place.toList->(∀q,q<n->(GN t.mask q (st0 t.mask (GC P w r))).j∈t.place.toList)->Q (.free (GN t.mask n (st0 t.mask (GC P w r))).j false) s)(N:Nat)(hN:N+10<10 * SetTable.turns t.mask)(hNe:(GN t.mask N (st0 t.mask (GC P w r))).j ∉ t.place.toList) :
  ∀(jJ q:Nat)(stand:Option SetTable.Probe),stand.getD (st0 t.mask (GC P w r))=GN t.mask q (st0 t.mask (GC P w r))->q<=N->N-q<jJ ->
   (∀m,m<q->∃i:Nat,t.place[i]?=some (GN t.mask m (st0 t.mask (GC P w r))).j/\∀r',ps[i]?=some r'->r'≠r) ->
   wpAny (model P w) A (setSearchFrom a (.ref b) (GC P w r) true jJ stand) Q E s
 | 0,q,stand,_,_,hf,_=>absurd hf (Yda _)
 | jJ+1,q,stand,hst,hq,hf,hold=>by
  have qW:t.place.size=es.size:=by rw [S.T.len,Jx]
  have hpl:=Ycs hE;rw [Yan] at hpl;unfold setSearchFrom;apply Yaa;refine Yen ho hd S.fits ?_;dsimp only;rw [S.T.odd,if_neg Yam,ZeN,hst];have hbase:(GN t.mask q (st0 t.mask (GC P w r))).dummy=none:=by rw [Vt];rfl
  have sp:=Zaf (t:=t) (ha:=hAt es) (h:=GC P w r) S.T.rise S.T.dum (10 * SetTable.turns t.mask) (GN t.mask q (st0 t.mask (GC P w r))) ⟨N-q,by lia,by rw [<-G7,show q+(N-q)=N by lia];exact hNe⟩;have live_of:∀m,(∃i:Nat,t.place[i]?=some (GN t.mask m (GN t.mask q (st0 t.mask (GC P w r)))).j/\hAt es i≠GC P w r)->∃i:Nat,t.place[i]?=some (GN t.mask (q+m) (st0 t.mask (GC P w r))).j/\∀r',ps[i]?=some r'->r'≠r:=by
   rintro m ⟨i,h1,h2⟩;refine ⟨i,by rw [G7];exact h1,λr' hr' e=>?_⟩;subst e;apply h2;have hi:i<es.size:=by
    have:=(Yao.mp hr').1
    lia
   obtain ⟨r2,e1,e2⟩:=Oj hE (i:=i) (e:=es[i]) (by rw [Yay,Ybd hi]);rw [hr'] at e1;cases e1;unfold hAt;rw [Ybd hi];exact e2.1
  have upto:∀n,(∀m,m<n->∃i:Nat,t.place[i]?=some (GN t.mask m (GN t.mask q (st0 t.mask (GC P w r)))).j/\hAt es i≠GC P w r)->∀m,m<q+n->∃i:Nat,t.place[i]?=some (GN t.mask m (st0 t.mask (GC P w r))).j/\∀r',ps[i]?=some r'->r'≠r:=by
   intro n h m hm;rcases Nat.lt_or_ge m q with z | z
   ·exact hold m z
   ·have:=live_of (m-q) (h (m-q) (by lia));rw [show q+(m-q)=m by lia] at this;exact this
  rcases sp with ⟨n,g1,g2,g3⟩ | ⟨n,i,g1,g2,g3,g4⟩
  ·have em:t.probe (hAt es) (GC P w r) (GN t.mask q (st0 t.mask (GC P w r)))=some (.empty (GN t.mask (q+n) (st0 t.mask (GC P w r))).j none):=by
    unfold SetTable.probe;rw [g1,hbase,G7]
   generalize hm:t.probe _ (GC P w r) (GN t.mask q (st0 t.mask (GC P w r)))=mm;have hmm:mm=some (.empty (GN t.mask (q+n) (st0 t.mask (GC P w r))).j none):=by rw [<-hm];exact em
   subst hmm;dsimp only;have all:=upto n g3;rw [<-G7] at g2;refine Yab (hno (λhin=>?_) (q+n) g2 λm hm'=>by obtain ⟨i,hi,_⟩:=all m hm';exact J5 hi);obtain ⟨i,hi,e⟩:=Ycw hin;have hi':i<es.size:=by lia
   have hpi:ps[i]?=some r:=by rw [Yau hi,e]
   obtain ⟨r2,e1,e2⟩:=Oj hE (i:=i) (e:=es[i]) (by rw [Yay,Ybd hi']);rw [hpi] at e1;cases e1;have hpj:t.place[i]?=some (t.place[i]'(by lia)):=Ybd (by lia);obtain ⟨m,r1,r3⟩:=S.T.rch i (GC P w r) _ (by rw [Yaz,Yay,Ybd hi'];exact Ybc some e2.1) hpj;rcases Yej m (q+n) with z | z | z
   ·obtain ⟨i2,h1,h2⟩:=all m z;rw [r1] at h1;have:i2=i:=by
     have b1:=UH S.T.rise h1;have b2:=UH S.T.rise hpj
     lia
    subst this;exact h2 r hpi rfl
   ·subst z;rw [r1] at g2;exact g2 (J5 hpj)
   ·exact g2 (r3 (q+n) z)
  ·have em:t.probe (hAt es) (GC P w r) (GN t.mask q (st0 t.mask (GC P w r)))=some (.candidate (GN t.mask (q+n) (st0 t.mask (GC P w r))).j i (GN t.mask (q+n+1) (st0 t.mask (GC P w r)))):=by
    unfold SetTable.probe;rw [g1,<-G7,<-G7,Nat.add_assoc]
   generalize hm:t.probe _ (GC P w r) (GN t.mask q (st0 t.mask (GC P w r)))=mm;have hmm:mm=some (.candidate (GN t.mask (q+n) (st0 t.mask (GC P w r))).j i (GN t.mask (q+n+1) (st0 t.mask (GC P w r)))):=by rw [<-hm];exact em
   subst hmm;dsimp only;rw [<-G7] at g2;have hi':i<es.size:=by
    have:=(Ygc.mp g2).1
    lia
   obtain ⟨r2,e1,e2,c,e3,e4,_⟩:=Oj hE (i:=i) (e:=es[i]) (by rw [Yay,Ybd hi']);have hnN:q+n<N:=by
    rcases Yej (q+n) N with z | z | z
    ·exact z
    ·subst z;exact absurd (J5 g2) hNe
    ·obtain ⟨i2,h1,_⟩:=upto n g4 N z;exact absurd (J5 h1) hNe
   have hsame:t.sameMemory t.moves t.mask=some true:=by unfold SetTable.sameMemory;simp
   have hslot:t.slot (GN t.mask (q+n) (st0 t.mask (GC P w r))).j=.live i:=Zae t S.T.rise g2;have hget:es[i]?=some (es[i].1,es[i].2):=Ybd hi';rw [hget];rw [e3];rw [e3] at hget;have lst:∀v∈List.map (λx:Int×Value=>x.2) (Array.filter (λx:Int×Value=>x.1 == GC P w r) es).toList,∃a r',v=Value.ref a/\IsTu P w s.heap r' a:=by
    intro v hv;obtain ⟨e,he,rfl⟩:=Yaj.mp hv;rw [Array.toList_filter] at he;obtain ⟨j,hj,ej⟩:=Ycw (Ybt.mp he).1;obtain ⟨r3,_,_,c3,e5,e6,_⟩:=Oj hE (i:=j) (e:=e) (by rw [Yau hj,ej]);exact ⟨c3,r3,e5,e6⟩
   have hcase:∀{Z:Sem SetFound},wpAny (model P w) A Z Q E s->wpAny (model P w) A (if (!t.led)=true then do
      let u <- searchCouldBeSeen (Value.ref b) (List.map (λx:Int×Value=>x.2) (Array.filter (λx:Int×Value=>x.1 == GC P w r) es).toList)
      if u=true then do
       unsupported "set:the-search-would-show-the-table"
       Z
      else Z
     else Z) Q E s:=by
    intro Z hZ;cases hl:t.led with
    | true=>
     rw [if_neg (show ¬ ((!true)=true) by decide)];exact hZ
    | false=>
     rw [if_pos (show (!false)=true by decide)];apply Yaa;refine Y5 hx lst ?_;rw [if_neg Yam];exact hZ
   refine hcase ?_;apply Yaa;apply Yci;refine wpAny_eqBool_tuple hu e4 hx ?_;apply Yaa;refine Yen ho hd S.fits ?_;dsimp only;by_cases heq:r2=r
   ·subst heq;rw [Ybi rfl,if_pos (show (true && true)=true from rfl)];exact Yab (hyes (Yax e1))
   ·have hdec:decide (r2=r)=false:=Ybx heq;rw [hdec,if_neg (show ¬ ((true && false)=true) from Yam),hsame];dsimp only;rw [if_pos rfl,hslot];dsimp only;rw [hget];dsimp only;apply Yaa;have hrr:(c == c)=true:=by simp
    show wpAny _ _ (if (c == c)=true then pure true else _) _ _ s;rw [if_pos hrr];apply Yab;apply Yaa;apply Yab;rw [if_pos rfl];dsimp only;rw [if_neg Yam];refine OC hu ho hd S hE hx hyes hno N hN hNe jJ (q+n+1) _ rfl (by lia) (by lia) λm hm'=>?_;rcases Nat.lt_or_ge m (q+n) with z | z
    ·exact upto n g4 m z
    ·have:m=q+n:=by lia
     subst this;exact ⟨i,g2,λr' hr'=>by rw [e1] at hr';cases hr';exact heq⟩
end
theorem Xy {a:Addr}{r:List Int}{Q:Bool->Shared->Prop}(hx:IsTu P w s.heap r a)(h:Q true s):wpAny (model P w) A (hashByValue 8 (.ref a)) Q E s:=by
 have hT:=IsTupleKey.typeIs hx;obtain ⟨o,its,n,ho,hc,hd,hi⟩:=hx;unfold hashByValue;apply Yaa;refine wpAny_specialOf hT F.slot_tuple_hash.lookup ?_;dsimp only;apply Yaa;apply wpAny_seqItems ho hd;apply Yaa;show wpAny _ _ (forIn its _ _) _ _ s;rw [<-Array.forIn_toList];refine wpAny_forIn_list _ (λrest c s'=>c.1=none/\s'=s/\∀v∈rest,∃i t,v=Value.int i t) _ ?_ ?_ _ _ ⟨rfl,rfl,WV hi⟩
 ·rintro v rest c s' ⟨hr,rfl,qG⟩;obtain ⟨i,t,rfl⟩:=qG v Ybe;apply Yaa;rw [hashByValue_scannable 7 (x:=.int i t) rfl];apply Yab;rw [if_neg (show ¬ ((!plainKind (Value.int i t))=true) from Yam)];exact Yab ⟨rfl,rfl,λu hu=>qG u (Ybb _ hu)⟩
 ·rintro ⟨c1,c2⟩ s' ⟨hr,rfl,_⟩;simp only at hr;subst hr;exact Yab h
noncomputable def ZbT (P:Program)(w:World)(Ad:Addr->List Int->Prop)(h0:Heap)(o:Obj)(ps:List (List Int)):Prop:=∃es ep t,o.ExactSet/\o.data=.set es ep t/\Paired (Y4 P w Ad h0) es.toList ps/\ps.Nodup/\SOk t es/\t.plain=true/\t.led=!Oi w
theorem Vz {h h':Heap}:∀{l:List (Int×Value)}{ps:List (List Int)},Paired (Y4 P w Ad h) l ps->(∀b o,h.get? b=some o->h'.get? b=some o)->Paired (Y4 P w Ad h') l ps
 | _,_,.nil,_=>.nil
 | _,_,.cons ⟨h1,a,h2,h3,h4⟩ t,k=>.cons ⟨h1,a,h2,h3.keep (λo e=>k a o e),h4⟩ (Vz t k)
theorem ZdB {a b:Addr}{o:Obj}{h0:Heap}{ps:List (List Int)}{r:List Int}{Q:Bool->Shared->Prop}(hu:A.units<cLine)(h00:∀c o',h0.get? c=some o'->s.heap.get? c=some o')(ho:s.heap.get? a=some o)(hS:ZbT P w Ad h0 o ps)(hx:IsTu P w h0 r b)(hA:Ad b r)(h76:ps.length+1<=306)(h:∀(c:Bool)(h':Heap)(o':Obj)(ps':List (List Int)),Heap.SameBut a s.heap h'->h'.get? a=some o'->ZbT P w Ad h0 o' ps'->ps'.Perm (if r∈ps then ps else ps++[r])->Q c { s with heap:=h' }) :
  wpAny (model P w) A (setAddHashed a (.ref b) (GC P w r)) Q E s:=by
 obtain ⟨es,ep,t,hex,hd,hE,hnd,S,hpl0,hled0⟩:=id hS;have qW:=Ycs hE;rw [Yan] at qW;have hE':=Vz hE h00;have hx':IsTu P w s.heap r b:=hx.keep λo' e=>h00 b o' e;obtain ⟨N,hN,hNe⟩:=S.T.empty S.le (GC P w r);have hturn:10 * SetTable.turns t.mask<=5260:=by
  unfold SetTable.turns;rcases S.T.mask with e | e | e | e <;> lia
 unfold setAddHashed setAddHashedIn;apply Yci;apply Yaa;refine Yen ho hd S.fits ?_;dsimp only;have hbs:byScan (.ref b) es=false:=rfl;rw [hbs,if_neg Yam];apply Yaa;unfold setSearch;refine OC hu ho hd S hE' hx' ?_ ?_ N hN hNe 100000 0 none rfl (Yar _) (by lia) (λm hm=>absurd hm (Yda _))
 ·intro hin;dsimp only;refine Yab ?_;exact h false s.heap o ps (Heap.SameBut.refl a s.heap) ho hS (by rw [if_pos hin])
 ·intro hnot n hn qG;dsimp only;apply Yaa;refine Yen ho hd S.fits ?_;dsimp only;obtain ⟨T1,hf1⟩:=S.put (.ref b) hn qG;have hz1:(SetTable.insertAt es (t.put (GN t.mask n (st0 t.mask (GC P w r))).j).2 (GC P w r,Value.ref b)).size=es.size+1:=V3 _ _ _;have hperm:=SetTable.insertAt_perm es (t.put (GN t.mask n (st0 t.mask (GC P w r))).j).2 (GC P w r,Value.ref b);rw [Yem] at hperm;have hm1:(t.put (GN t.mask n (st0 t.mask (GC P w r))).j).1.mask=t.mask:=rfl;have hpl1:(t.put (GN t.mask n (st0 t.mask (GC P w r))).j).1.plain=t.plain:=rfl;have hled1:(t.put (GN t.mask n (st0 t.mask (GC P w r))).j).1.led=t.led:=rfl;generalize htp:t.put (GN t.mask n (st0 t.mask (GC P w r))).j=tp at T1 hf1 hz1 hperm hm1 hpl1 hled1 ⊢;obtain ⟨t1,p1⟩:=tp;dsimp only at T1 hf1 hz1 hperm hm1 hpl1 hled1 ⊢;have hE1:Paired (Y4 P w Ad h0) (es.toList++[(GC P w r,Value.ref b)]) (ps++[r]):=WW hE (.cons ⟨rfl,b,rfl,hx,hA⟩ .nil);obtain ⟨ps1,hE2,hp2⟩:=Vy hperm hE1;have hnd1:(ps++[r]).Nodup:=Ycf.mpr ⟨hnd,by simp,λc hc d hd'=>by
   rw [Yah] at hd';subst hd';intro z;exact hnot (z▸hc)⟩
  generalize hes1:SetTable.insertAt es p1 (GC P w r,Value.ref b)=es1 at T1 hz1 hperm hE2 ⊢;have hz:es1.size<=sizeLine:=by rw [Ybf];lia
  have store:∀(bv:Bool),bv=true->wpAny (model P w) A (do
    storeSet a es1 (if bv=true then t1 else { t1 with plain:=false })
    if (!false && (if bv=true then t1 else { t1 with plain:=false }).tooFull)=true then do
     setRelay a (SetTable.grown (es.size+1))
     pure true
    else pure true) Q E s:=by
   intro bv hbv;obtain ⟨t1',et1,T1',hm1',hp1',hl1'⟩:∃t1':SetTable,(if bv=true then t1 else { t1 with plain:=false })=t1'/\TOk t1' (ZbN es1)/\t1'.mask=t.mask/\t1'.plain=t.plain/\t1'.led=t.led:=by
    subst hbv;exact ⟨t1,rfl,T1,hm1,hpl1,hled1⟩
   rw [et1];apply Yaa;refine wpAny_storeSet_of ho hd ?_ hz;have ho1:=WU ho hd es1 t1';have sb1:=Yfb s.heap a (Obj.putSet es1 t1');rcases Zai S (by lia) T1' (by rw [Jx];exact hz1) hm1' with ⟨hfull,hwhen⟩ | ⟨hfull,jZ⟩
   ·rw [hfull,if_pos (show (!false && true)=true from rfl)];rw [<-hz1] at hwhen ⊢;obtain ⟨t2,od,eR,hp,S2,hl2,hpl2,h128⟩:=ZbO T1' hwhen;have hfit1:t1'.fits es1.size=true:=by
     have:=T1'.fits (by rw [Jx];rcases hwhen with ⟨q1,q2⟩ | ⟨q1,q2⟩ | ⟨q1,q2⟩ <;> lia);rw [Jx] at this;exact this
    apply Yaa;unfold setRelay;apply Yaa;refine Yen ho1 rfl hfit1 ?_;dsimp only;rw [if_neg (by rw [Ybf];lia)];apply Yaa;rw [eR];have hp3:=JY hp;have hz2:(od.filterMap (es1[·]?)).size=es1.size:=by
     have:=hp3.length_eq;rw [Yan,Yan] at this;exact this
    obtain ⟨ps2,hE3,hp4⟩:=Vy hp3 hE2;show wpAny _ _ (if ((od.filterMap (es1[·]?)).size != es1.size)=true then _ else _) _ _ _;rw [if_neg (by rw [hz2];simp)];apply Yab;dsimp only;refine wpAny_storeSet_of ho1 rfl ?_ (by rw [hz2];exact hz);apply Yab;refine h true _ _ ps2 (sb1.trans (Yfb _ a _)) (WU ho1 rfl _ t2) ⟨_,_,t2,hex,rfl,hE3,(hp4.trans hp2).nodup_iff.mpr hnd1,S2,by rw [hpl2,hp1'];exact hpl0,by rw [hl2,hl1'];exact hled0⟩ ?_;rw [if_neg hnot];exact hp4.trans hp2
   ·rw [hfull,if_neg (show ¬ ((!false && false)=true) from Yam)];apply Yab;refine h true _ _ ps1 sb1 ho1 ⟨es1,_,t1',hex,rfl,hE2,hp2.nodup_iff.mpr hnd1,⟨T1',by rw [hz1];exact jZ⟩,by rw [hp1'];exact hpl0,by rw [hl1'];exact hled0⟩ ?_;rw [if_neg hnot];exact hp2
  cases hpl:t1.plain with
  | true=>
   rw [if_pos rfl];apply Yaa;refine Xy hx' ?_;exact store true rfl
  | false=>
   rw [if_neg Yam];apply Yaa;apply Yab;exact store true rfl
end
theorem Zap (P:Program)(w:World)(Ad:Addr->List Int->Prop)(h0:Heap):ZbT P w Ad h0 (Jg w) []:=⟨#[],0,_,⟨rfl,rfl,rfl⟩,rfl,.nil,Yea,SOk.fresh 0 0 _,rfl,rfl⟩
section
variable {X:Cx}(K:W.Frag)
theorem VA {P:Program}{w:World}:∀{r:List Int}{us:List Value},Vals (r.map V.int) us->ItemsAre (intKind P w) r us
 | [],_,.nil=>.nil
 | _::_,_,.cons h t=>by
  obtain ⟨t1,rfl⟩:=h;exact .cons (intKind_is _ _ _ _) (VA t)
theorem ZdC {P:Program}{w:World}{H:Hp}{h:Heap}(I:HOk P w H h){t:Addr}{r:List Int}(e:H t=some (.tup (r.map V.int))):IsTu P w h r t:=by
 obtain ⟨_,its,rv,o,ho,hc,n,hd⟩:=I t _ e;exact ⟨o,its.toArray,n,ho,hc,hd,VA rv⟩
inductive Tus (H:Hp):List V->List (List Int)->Prop
 | nil:Tus H [] []
 | cons {p:Addr} {r:List Int} {xs:List V} {rs:List (List Int)}:H p=some (.tup (r.map V.int))->Tus H xs rs->Tus H (.ref p::xs) (r::rs)
theorem Tus.len {H:Hp}{xs:List V}{rs:List (List Int)}(h:Tus H xs rs):xs.length=rs.length:=by
 induction h with
 | nil=>rfl
 | cons _ _ ih=>rw [Ybn,Ybn,ih]
theorem Tus.get {H:Hp}:∀{xs:List V}{rs:List (List Int)},Tus H xs rs->∀{i:Nat}{x:V},xs[i]?=some x->∃t r,x=.ref t/\H t=some (.tup (r.map V.int))/\rs[i]?=some r
 | _,_,.nil,_,_,h=>by simp at h
 | _,_,.cons (r:=r) e _,0,_,h=>by
  simp at h;subst h;exact ⟨_,r,rfl,e,rfl⟩
 | _,_,.cons _ t,i+1,_,h=>by
  rw [Yfq] at h ⊢;exact Tus.get t h
end
noncomputable def chT (ks:List Tri)(x:Int):List Int:=match ks[(x-2).toNat]? with | some r=>[r.2.1,r.2.2] | none=>[]
theorem VB {ks:List Tri}{x:Int}{r:Tri}(n:Nd ks x r):chT ks x=[r.2.1,r.2.2]:=by unfold chT;rw [n.2]
noncomputable def OD (ks:List Tri)(root:Int)(f:List Int):List Int:=root::f.flatMap (chT ks)
theorem Zaq (ks:List Tri)(root:Int)(f:List Int)(x:Int):OD ks root (f++[x])=OD ks root f++chT ks x:=by
 unfold OD;rw [List.flatMap_append,List.flatMap_cons,List.flatMap_nil,Ydw]
 rfl
noncomputable def New (f:List Int)(x:Int):Prop:=x≠0/\x≠1/\x ∉ f
theorem New.num {f:List Int}{x:Int}:New f x↔Jb f x=none:=by
 constructor
 ·rintro ⟨h0,h1,h2⟩;unfold Jb;rw [if_neg h0,if_neg h1,Yft,List.idxOf?_eq_none_iff];exact h2
 ·intro h;exact U6 h
noncomputable def Ext (ks:List Tri)(root:Int)(f:List Int)(x:Int):Prop:=∃p q,OD ks root f=p++x::q/\New f x/\∀y∈p,¬ New f y
theorem Ext.one {ks:List Tri}{root:Int}{f:List Int}{x y:Int}(h:Ext ks root f x)(h':Ext ks root f y):x=y:=by
 obtain ⟨p,q,e,n,a⟩:=h;obtain ⟨p',q',e',n',a'⟩:=h';have g1:(OD ks root f)[p.length]?=some x:=by rw [e,Yce (Yad _),Ydo];rfl
 have g2:(OD ks root f)[p'.length]?=some y:=by rw [e',Yce (Yad _),Ydo];rfl
 rcases Yej p.length p'.length with z | z | z
 ·rw [e',Yby z] at g1;exact absurd n (a' x (Yax g1))
 ·rw [z,g2] at g1;cases g1
  rfl
 ·rw [e,Yby z] at g2;exact absurd n' (a y (Yax g2))
inductive Rch (ks:List Tri)(root:Int):List Int->Prop
 | nil:Rch ks root []
 | snoc {f:List Int} {x:Int}:Rch ks root f->Ext ks root f x->Rch ks root (f++[x])
noncomputable def Fin (ks:List Tri)(root:Int)(f:List Int):Prop:=∀y∈OD ks root f,¬ New f y
theorem Ext.notFin {ks:List Tri}{root:Int}{f:List Int}{x:Int}(h:Ext ks root f x)(g:Fin ks root f):False:=by
 obtain ⟨p,q,e,n,_⟩:=h;exact g x (by rw [e];exact Ycb _ Ybe) n
theorem Rch.at {ks:List Tri}{root:Int}{g:List Int}(h:Rch ks root g):∀i x,g[i]?=some x->Ext ks root (g.take i) x:=by
 induction h with
 | nil=>intro i x e;simp at e
 | @snoc f y h ex ih=>
  intro i x e;by_cases hi:i<f.length
  ·rw [Yby hi] at e;rw [List.take_append_of_le_length (Yed hi)];exact ih i x e
  ·have hz:i=f.length:=by
    have:=(Yao.mp e).1;rw [Yai,Yat] at this
    lia
   subst hz;rw [Yce (Yad _),Ydo] at e;cases e;rw [List.take_left];exact ex
theorem Rch.eq {ks:List Tri}{root:Int}{f g:List Int}(hf:Rch ks root f)(ff:Fin ks root f)(hg:Rch ks root g)(fg:Fin ks root g):f=g:=by
 have key:∀i,i<=f.length->i<=g.length->f.take i=g.take i:=by
  intro i
  induction i with
  | zero=>intro _ _;rw [Yeo,Yeo]
  | succ i ih=>
   intro h1 h2;have e:=ih (by lia) (by lia);have a:=hf.at i _ (Yau (by lia));have b:=hg.at i _ (Yau (by lia));rw [e] at a;have:=a.one b;rw [List.take_succ_eq_append_getElem (by lia),List.take_succ_eq_append_getElem (by lia),e,this]
 rcases Yej f.length g.length with z | z | z
 ·exfalso;have e:=key f.length (Yad _) (by lia);rw [Ybp] at e;have b:=hg.at f.length _ (Yau z);rw [<-e] at b;exact b.notFin ff
 ·have e:=key f.length (Yad _) (by lia);rw [Ybp,z,Ybp] at e;exact e
 ·exfalso;have e:=key g.length (by lia) (Yad _);rw [Ybp] at e;have b:=hf.at g.length _ (Yau z);rw [e] at b;exact b.notFin fg
theorem Y6 {ks:List Tri}{root:Int}{fs:List Int}{k:Nat}{x:Int}(e:fs[k]?=some x):OD ks root fs=OD ks root (fs.take k)++(chT ks x++(fs.drop (k+1)).flatMap (chT ks)):=by
 obtain ⟨hk,e'⟩:=Yao.mp e;have h:fs=fs.take k++x::fs.drop (k+1):=by
  rw [<-e',List.getElem_cons_drop,Ydb]
 unfold OD;rw [List.cons_append,<-List.flatMap_cons,<-List.flatMap_append,<-h]
theorem Fnd.old {ks:List Tri}{root:Int}{fs:List Int}{kvs:List (Key×V)}{k:Nat}(F:Fnd ks root fs kvs k)(hrt:(Jb fs root).isSome):∀y∈OD ks root (fs.take k),¬ New fs y:=by
 intro y hy nw;have hn:=New.num.mp nw;unfold OD at hy;rcases Yas.mp hy with h | h
 ·rw [<-h,hn] at hrt;cases hrt
 ·obtain ⟨x,hx,hxy⟩:=List.mem_flatMap.mp h;obtain ⟨j,hj,ej⟩:=Ycw hx;rw [Ybm] at hj;have hk:=F.kle;have ej':fs[j]?=some x:=by
   rw [<-ej,List.getElem_take];exact Yau _
  obtain ⟨r,n⟩:=F.nod x (Yax ej');obtain ⟨h1,h2⟩:=F.cl j (by lia) x r ej' n;rw [VB n] at hxy;rcases Yas.mp hxy with z | z
  ·rw [<-z,hn] at h1;cases h1
  ·rw [Yah] at z;rw [<-z,hn] at h2;cases h2
theorem Fnd.ext {ks:List Tri}{root:Int}{fs:List Int}{kvs:List (Key×V)}{k:Nat}(F:Fnd ks root fs kvs k)(hrt:(Jb fs root).isSome){x c:Int}{r:Tri}(hx:fs[k]?=some x)(n:Nd ks x r){pre post:List Int}(e:[r.2.1,r.2.2]=pre++c::post)(hp:∀y∈pre,(Jb fs y).isSome)(hc:Jb fs c=none):Ext ks root fs c:=by
 refine ⟨OD ks root (fs.take k)++pre,post++(fs.drop (k+1)).flatMap (chT ks),?_,New.num.mpr hc,λy hy nw=>?_⟩
 ·rw [Y6 hx,VB n,e];simp
 ·rcases Yag.mp hy with h | h
  ·exact F.old hrt y h nw
  ·have:=hp y h;rw [New.num.mp nw] at this;cases this
theorem Fnd.fin {ks:List Tri}{root:Int}{fs:List Int}{kvs:List (Key×V)}(F:Fnd ks root fs kvs fs.length)(hrt:(Jb fs root).isSome):Fin ks root fs:=by
 have:=F.old hrt;rw [Ybp] at this;exact this
theorem UI {K:PySem.W.Frag}{a D:Addr}{xs:List V}{g:TG}{tc:TT}{te:TE}{σ0:St}{R:Hp->Prop}{H1:Hp}(Pv:Nat->List V->Hp->Prop)(h0:Pv 0 [] (upd H1 D (.lst [])))(hl:∀i ys H,i<=xs.length->Pv i ys H->SqT K H a xs)(hs:∀i x ys H,xs[i]?=some x->Pv i ys H->g x σ0 H λσ4 H4=>Ob σ0 σ4/\tc σ4 H4 λb H5=>if b=true then te σ4 H5 λy H6=>H6 D=some (.lst ys)/\ys.length<sizeLine/\Pv (i+1) (ys++[y]) (upd H6 D (.lst (ys++[y]))) else Pv (i+1) ys H5)(hd:∀ys H,Pv xs.length ys H->R H):∃W:Nat->Nat->List V->Hp->Prop,(∃m,W 0 m [] (upd H1 D (.lst [])))/\J2 (Itt K a) D g tc te σ0 W R:=by
 refine ⟨λi m ys H=>m=xs.length-i/\i<=xs.length/\Pv i ys H,⟨_,rfl,Yar _,h0⟩,?_⟩;rintro i m ys H ⟨rfl,hi,p⟩;have q:=hl i ys H hi p;by_cases hlt:i<xs.length
 ·refine .inr ⟨⟨xs,xs[i],q,by simp [hlt]⟩,Pv (i+1),λys' H' p'=>⟨xs.length-(i+1),by lia,rfl,hlt,p'⟩,λx H' y=>?_⟩;obtain ⟨e,y⟩:=y;subst e;exact hs i x ys _ (y xs q) p
 ·have e:i=xs.length:=by lia
  subst e;exact .inl ⟨⟨xs,q,Yad _⟩,hd ys H p⟩
set_option maxRecDepth 8000 in
theorem Y7 (l:Addr)(items:Array Value)(n:Nat)(b:Addr)(items2:Array Value)(n2:Nat)(dc:Option Addr)(sl:Array (Option Value))(hs0:¬(!items.isEmpty && Builtin.List.listTooLong (items.size+items2.size))=true)(hs1:items.size<=sizeLine)(hs2:items.size+items2.size<=sizeLine+1) :
  Meets (Builtin.«list.extend» ⟨[.ref l,.ref b],[]⟩) (λ_ R s=>s.heap.get? l=some { cls:=.type "list", dict:=none,data:=.seq items n,slots:=#[] }/\s.heap.get? b=some { cls:=.type "tuple", dict:=dc,data:=.seq items2 n2,slots:=sl }/\R (.ok (.ret Value.none)) { s with heap:=s.heap.update l (Obj.mapSeq λx=>x++items2),toks:=s.toks }):=
 .of_wp λprog w A R s h=>by
  obtain ⟨hp,g,d,tk,os⟩:=s;obtain ⟨hl,hb,h⟩:=h;have f1:=AutoSeq1.idx_int;have f2:=AutoSeq1.sub_tuple_tuple;have f3:=AutoSeq1.sub_list_list;have f4:=AutoSeq1.sub_tuple_list;have f5:=AutoSeq1.sub_list_tuple;have hz':(items++items2).size<=sizeLine+1:=by rw [Array.size_append];exact hs2
  wp_walk using (wpAny_updateSeq hl rfl (hz:=hs1) (_hz':=hz')),AutoSeq1.wpAny_loadPart' hl,AutoSeq1.wpAny_loadPart' hb
  exact ⟨_,rfl,h⟩
section
variable {X:Cx}
noncomputable def ZbU:V->List V->Hp->VK->Prop:=λx vs H Q=>∃l b xs zs,x=.ref l/\vs=[.ref b]/\H l=some (.lst xs)/\H b=some (.tup zs)/\xs.length+zs.length<=sizeLine/\Q .non (upd H l (.lst (xs++zs)))
theorem VC:MtM X "list.extend" ZbU:=by
 intro qJ s σ H x vs v us Q I rx rv h;obtain ⟨l,b,xs,zs,rfl,rfl,hH,hB,hz,q⟩:=h;cases rx;obtain ⟨u,rfl,ru⟩:=rv.one;cases ru;obtain ⟨z,its,n,r,hl,e⟩:=I.lstM hH;obtain ⟨_,its2,r2,o,ho,hc,n2,hd⟩:=I.hok b _ hB;have hl2:=r2.length;have hll:=r.length;have hsz:its.toArray.size+its2.toArray.size<=sizeLine:=by rw [Yaw,Yaw];lia
 have hlong:¬ (!its.toArray.isEmpty && Builtin.List.listTooLong (its.toArray.size+its2.toArray.size))=true:=by
  rw [XW hsz,Bool.and_false];exact Yam
 refine call_meets F.slot_list_extend ⟨_,e,rfl⟩ F.entry_list_extend (F.args_list_extend_2 _ _)
  (Y7 l its.toArray n b its2.toArray n2 o.dict o.slots hlong (by rw [Yaw];lia) (by lia)) ⟨e,?_,?_⟩
 ·rw [ho];cases o;simp only at hc hd;rw [hc,hd]
 refine ⟨.non,_,I.lset (its':=its++its2) hH e (by simp) (r.append r2) ?_,rfl,q⟩;rw [Yai]
 lia
theorem ZdD {a b:Expr}{ta:TA}{p pos:Pos}(hg:Gl X "range")(hm:X.mg "range" = none)(ha:PA X [a,b] ta)(hs:starEach [a,b] X.env=[(false,eval a X.env),(false,eval b X.env)]:=by rfl)(hs2:starEach [b] X.env=[(false,eval b X.env)]:=by rfl) :
  PE X (.Call (.Name "range" p) [a,b] [] pos) (λσ H Q=>ta σ H λvs H1=>∃i j:Int,vs=[.int i,.int j]/\∀r,H1 r=none->Q (.ref r) (upd H1 r (.rng i j))):=by
 intro qJ s σ H Q I h;refine Call_ (UR I hg hm boot_range (Ygf (thn (ha pos qJ s σ H _ I h) λus s1 ⟨vs,H1,I1,r1,q1⟩=>?_) (by rw [hs,hs2]) (by rw [hs2];rfl)));obtain ⟨i,j,rfl,q⟩:=q1;obtain ⟨u1,u2,rfl,ru1,ru2⟩:=r1.two;obtain ⟨t1,rfl⟩:=ru1;obtain ⟨t2,rfl⟩:=ru2;refine call_range_2 ?_;exact ⟨.ref _,_,I1.laid (o:=.rng i j) (λb o e=>Yal _ e) (Yad _) ⟨_,_,_,Ybh _ rfl⟩,rfl,q _ I1.fresh⟩
end
theorem ZdE (ks:List Tri)(x:Int):(chT ks x).length<=2:=by
 unfold chT;split <;> simp
theorem ZbV (ks:List Tri)(root:Int)(f:List Int):(OD ks root f).length<=1+2 * f.length:=by
 unfold OD;rw [Ybn];have:(f.flatMap (chT ks)).length<=2 * f.length:=by
  induction f with
  | nil=>simp
  | cons x f ih=>
   have:=ZdE ks x;rw [List.flatMap_cons,Yai,Ybn]
   lia
 lia
theorem nodes_le {ks:List Tri}{fs:List Int}(nd:fs.Nodup)(nod:∀x∈fs,∃r,Nd ks x r):fs.length<=ks.length:=by
 have:=Ycj (l₂:=(List.range ks.length).map λ(i:Nat)=>(i:Int)+2) nd λx hx=>by
  obtain ⟨r,n⟩:=nod x hx;have h1:=n.lt;have h2:=n.1;exact Yaj.mpr ⟨(x-2).toNat,Yca.mpr (by lia),by lia⟩
 rw [Yac,Yek] at this;exact this
structure Wk (ks:List Tri)(root:Int)(fs:List Int)(kvs:List (Key×V))(pr ah:List Int):Prop where
 e:OD ks root fs=pr++ah
 old:∀y∈pr,¬ New fs y
 seen:∀n:Int,JL kvs (.inl n)=none↔New fs n
 nd:fs.Nodup
 nod:∀x∈fs,∃r,Nd ks x r
 rch:Rch ks root fs
 kl:kvs.length<=fs.length+2
 ok:∀y∈ah,At ks y (-1)
theorem Wk.le {ks:List Tri}{root:Int}{fs:List Int}{kvs:List (Key×V)}{pr ah:List Int}(h:Wk ks root fs kvs pr ah):fs.length<=ks.length:=nodes_le h.nd h.nod
theorem Wk.ahl {ks:List Tri}{root:Int}{fs:List Int}{kvs:List (Key×V)}{pr ah:List Int}(h:Wk ks root fs kvs pr ah):ah.length<=1+2 * ks.length:=by
 have h1:=ZbV ks root fs;rw [h.e,Yai] at h1;have:=h.le
 lia
theorem Wk.skip {ks:List Tri}{root:Int}{fs:List Int}{kvs:List (Key×V)}{pr ah:List Int}{c:Int}(h:Wk ks root fs kvs pr (c::ah))(n:¬ New fs c):Wk ks root fs kvs (pr++[c]) ah:=by
 refine ⟨by rw [h.e,Ybs];rfl,λy hy=>?_,h.seen,h.nd,h.nod,h.rch,h.kl,λy hy=>h.ok y (Ybb _ hy)⟩;rcases Yag.mp hy with z | z
 ·exact h.old y z
 ·rw [Yah] at z;rw [z];exact n
theorem Wk.take {ks:List Tri}{root:Int}{fs:List Int}{kvs:List (Key×V)}{pr ah:List Int}{c:Int}{r:Tri}{v:V}(T:TabOk ks)(h:Wk ks root fs kvs pr (c::ah))(n:New fs c)(d:Nd ks c r):Wk ks root (fs++[c]) (JV kvs (.inl c) v) (pr++[c]) (ah++[r.2.1,r.2.2]):=by
 obtain ⟨ht,h1,h2⟩:=T.nd d;have new_iff:∀y,New (fs++[c]) y↔(New fs y/\y≠c):=λy=>by
  unfold New;rw [Yag,Yah];constructor
  ·rintro ⟨a,b,e⟩;exact ⟨⟨a,b,λz=>e (.inl z)⟩,λz=>e (.inr z)⟩
  ·rintro ⟨⟨a,b,e⟩,f⟩;exact ⟨a,b,λz=>z.elim e f⟩
 refine ⟨?_,λy hy=>?_,λm=>?_,?_,λx hx=>?_,.snoc h.rch ⟨pr,ah,h.e,n,h.old⟩,?_,λy hy=>?_⟩
 ·rw [Zaq,h.e,VB d];simp
 ·rw [new_iff];rintro ⟨a,b⟩;rcases Yag.mp hy with z | z
  ·exact h.old y z a
  ·exact b (Yah.mp z)
 ·rw [G3,new_iff,<-h.seen m];by_cases e:m=c
  ·rw [if_pos (by rw [e])];exact ⟨λz=>(by cases z),λz=>absurd e z.2⟩
  ·rw [if_neg (λz=>e (Yec z))];exact ⟨λz=>⟨z,e⟩,λz=>z.1⟩
 ·exact Ycf.mpr ⟨h.nd,by simp,λa ha b hb=>by rw [Yah] at hb;subst hb;exact λz=>n.2.2 (z▸ha)⟩
 ·rcases Yag.mp hx with z | z
  ·exact h.nod x z
  ·rw [Yah] at z;subst z;exact ⟨r,d⟩
 ·have:=GL kvs (.inl c) v;have:=h.kl;rw [Yai,Yat]
  lia
 ·rcases Yag.mp hy with z | z
  ·exact h.ok y (Ybb _ z)
  ·rcases Yas.mp z with z | z
   ·rw [z];exact h1.mono (by lia)
   ·rw [Yah] at z;rw [z];exact h2.mono (by lia)
theorem Wk.fin {ks:List Tri}{root:Int}{fs:List Int}{kvs:List (Key×V)}{pr:List Int}(h:Wk ks root fs kvs pr []):Fin ks root fs:=by
 intro y hy;rw [h.e,Ydw] at hy;exact h.old y hy
mutual
inductive Th (H:Hp):V->PyData->Prop
 | non:Th H .non .none
 | bl (b:Bool):Th H (.bl b) (.bool b)
 | int (i:Int):Th H (.int i) (.int i)
 | str (x:Str):Th H (.str x) (.str x)
 | lst {a:Addr} {xs:List V} {ds:List PyData}:H a=some (.lst xs)->xs.length<=1000->Ths H xs ds->Th H (.ref a) (.list ds)
 | tup {a:Addr} {xs:List V} {ds:List PyData}:H a=some (.tup xs)->xs.length<=1000->Ths H xs ds->Th H (.ref a) (.tuple ds)
inductive Ths (H:Hp):List V->List PyData->Prop
 | nil:Ths H [] []
 | cons {x:V} {d:PyData} {xs:List V} {ds:List PyData}:Th H x d->Ths H xs ds->Ths H (x::xs) (d::ds)
end
mutual
theorem Th.same {H H':Hp}(s:Same H H'):∀{v:V}{d:PyData},Th H v d->Th H' v d
 | _,_,.non=>.non
 | _,_,.bl b=>.bl b
 | _,_,.int i=>.int i
 | _,_,.str x=>.str x
 | _,_,.lst e z h=>.lst (s _ _ e) z (Ths.same s h)
 | _,_,.tup e z h=>.tup (s _ _ e) z (Ths.same s h)
theorem Ths.same {H H':Hp}(s:Same H H'):∀{vs:List V}{ds:List PyData},Ths H vs ds->Ths H' vs ds
 | _,_,.nil=>.nil
 | _,_,.cons h t=>.cons (Th.same s h) (Ths.same s t)
end
section
variable {X:Cx}{e:Expr}{es:List Expr}{d:PyData}{ds:List PyData}{pos:Pos}
end
section
variable {X:Cx}{a:Expr}{ta:TE}{pos:Pos}
theorem Ye (K:W.Frag)(h:X.K=K:=by rfl):Od X (.type "tuple") (λxs H Q=>∃p ys,xs=[.ref p]/\((SqL K H p ys/\∀l,H l=none->Q (.ref l) (upd H l (.tup ys)))\/(SqT K H p ys/\Q (.ref p) H))):=h▸VS
end
open AutoSeq1 (wpAny_loadPart') in
open AutoSeq1 (wpAny_loadPart') in
section
variable {X:Cx}
end
end L2
namespace L2
open PySem PySem.Spec PyProof.Rows
section
variable {prog:Program}{w:World}{A:Around}{E:EX}{s:Shared}
theorem lt_int {x y:Int}{t u:Tok}{Q:EX}(h:Q (.bool (decide (x<y))) s):wpAny (model prog w) A (richCompare .Lt (.int x t) (.int y u)) Q E s:=
 CmpOf.ints_lt (P:=λi v=>∃t,v=.int (if i=0 then x else y) t) (λi=>if i=0 then x else y) (λ_ _ p=>p) 0 1 _ _ s Q E ⟨t,rfl⟩ ⟨u,rfl⟩ h
end
noncomputable def ZeQ (prog:Program)(w:World)(A:Around)(op:CmpOp)(J:Heap->Prop)(P:Nat->Value->Prop)(bt:Nat->Nat->Bool):Prop:=
 ∀(s:Shared)(i j:Nat)(vi vj:Value)(Q E:EX),J s.heap->P i vi->P j vj->Q (.bool (bt i j)) s->wpAny (model prog w) A (richCompare op vi vj) Q E s
section
variable {prog:Program}{w:World}{A:Around}{R:Result->Shared->Prop}{I:Addr}{fp wr:List Addr}{n:Nat}{P:Nat->Value->Prop}{St:Nat->Heap->Prop}{J:Heap->Prop}{kw:List (Str×Value)}
theorem Zar (W:Walks prog w A.in1 I fp wr n P St)(bt:Nat->Nat->Bool)(cmp:ZeQ prog w A.in1 .Lt J P bt)(D:Addr)(hD:D ∉ fp)(keepJ:∀h h':Heap,J h->(∀b o,b ∉ wr->b≠D->h.get? b=some o->h'.get? b=some o)->J h') :
  ∀(left m:Nat)(s:Shared)(best:Value)(c:Nat),n-(m+1)=left->m+1<=n->St (m+1) s.heap->J s.heap->P (argBest bt m) best ->
  s.heap.get? D=some { cls:=.type "list", dict:=none,data:=.seq #[best,best] c,slots:=#[] } ->
  (∀v h' tk,P (argBest bt (n-1)) v->(∀b o,b ∉ wr->b≠D->s.heap.get? b=some o->h'.get? b=some o)->R (.ok (.ret v)) { s with heap:=h',toks:=tk }) ->
  codeAny (model prog w) A (.builtin "min.loop" ⟨[.ref I,.none,.ref D],kw⟩) R s:=by
 have hDw:D ∉ wr:=λz=>hD (W.sub _ z);have nm:(toString "min" ++ toString ".loop" : String) = "min.loop" := by decide
 intro left
 induction left with
 | zero=>
  intro m s best c hl hm st j pb gD hR;have en:m+1=n:=by lia
  refine Ycz F.entry_min_loop ?_;rw [Ydr Yfc _];show wpAny _ A.in1 (seqItems? (.ref D) >>= _) _ _ s;refine Yaa (wpAny_seqItems gD rfl (show wpAny _ A.in1 (tryCatch (pyNext (.ref I)) _ >>= _) _ _ s from Yaa (wpAny_tryCatch (W.done s _ _ (en▸st) λh' tk kept=>?_))));show wpAny _ A.in1 (updateSeq D (λ_=>#[]) >>= _) _ _ _;refine Yaa (wpAny_updateSeq (kept D _ hDw gD) rfl (Yaa (wpAny_letGo (Yab (hR best _ tk (by rw [<-en];exact pb) λb o nw nD e=>?_)))));exact (Ycm _ _ (Ne.symm nD)).trans (kept b o nw e)
 | succ left ih=>
  intro m s best c hl hm st j pb gD hR;refine Ycz F.entry_min_loop ?_;rw [Ydr Yfc _];show wpAny _ A.in1 (seqItems? (.ref D) >>= _) _ _ s;refine Yaa (wpAny_seqItems gD rfl (show wpAny _ A.in1 (tryCatch (pyNext (.ref I)) _ >>= _) _ _ s from Yaa (wpAny_tryCatch (W.item (m+1) s _ _ (by lia) st λv h' tk pv st' kept=>?_))));have gD':=kept D _ hDw gD;have j':J h':=keepJ _ _ j λb o nw _ e=>kept b o nw e;show wpAny _ A.in1 (tryCatch (holding [v,v] (richCompare .Lt v best >>= _)) _ >>= _) _ _ _;refine Yaa (wpAny_tryCatch (Yci (Yaa (cmp _ (m+1) (argBest bt m) v best _ _ j' pv pb (Yaa (Yci (Ydv (Yaa (wpAny_letGo (Yab ?_))))))))));cases hb:bt (m+1) (argBest bt m) with
  | true=>
   simp only [if_true];refine Yaa (wpAny_updateSeq gD' rfl (Yaa (wpAny_letGo ?_)));rw [nm];refine Yab ⟨Yeb Yfc _,ih (m+1) _ v _ (by lia) (by lia) (W.frame _ _ _ st' λb bf o e=>?_) (keepJ _ _ j' λb o _ nD e=>(Ycm _ _ (Ne.symm nD)).trans e) (by simp only [argBest,hb,if_true];exact pv) (Yfr _ gD' rfl) λv' h2 tk2 pv' k2=>?_⟩
   ·exact (Ycm _ _ (λz:D=b=>hD (by rw [z];exact bf))).trans e
   ·exact hR v' h2 tk2 pv' λb o nw nD e=>k2 b o nw nD ((Ycm _ _ (Ne.symm nD)).trans (kept b o nw e))
  | false=>
   simp only [Yeg,Ycu];refine Yaa (wpAny_letGo ?_);rw [nm];refine Yab ⟨Yeb Yfc _,ih (m+1) _ best c (by lia) (by lia) st' j' (by simp only [argBest,hb,Yeg,Ycu];exact pb) gD' λv' h2 tk2 pv' k2=>?_⟩;exact hR v' h2 tk2 pv' λb o nw nD e=>k2 b o nw nD (kept b o nw e)
theorem Y8 (W:Walks prog w A.in1 I fp wr n P St)(bt:Nat->Nat->Bool)(cmp:ZeQ prog w A.in1 .Lt J P bt)(D:Addr)(hD:D ∉ fp)(keepJ:∀h h':Heap,J h->(∀b o,b ∉ wr->b≠D->h.get? b=some o->h'.get? b=some o)->J h')(hn:0<n){s:Shared}{c:Nat}(st:St 0 s.heap)(j:J s.heap)(gD:s.heap.get? D=some { cls:=.type "list", dict:=none,data:=.seq #[] c,slots:=#[] })(hR:∀v h' tk,P (argBest bt (n-1)) v->(∀b o,b ∉ wr->b≠D->s.heap.get? b=some o->h'.get? b=some o)->R (.ok (.ret v)) { s with heap:=h',toks:=tk }) :
  codeAny (model prog w) A (.builtin "min.loop" ⟨[.ref I,.none,.ref D],kw⟩) R s:=by
 have hDw:D ∉ wr:=λz=>hD (W.sub _ z);have nm:(toString "min" ++ toString ".loop" : String) = "min.loop" := by decide
 refine Ycz F.entry_min_loop ?_;rw [Ydr Yfc _];show wpAny _ A.in1 (seqItems? (.ref D) >>= _) _ _ s;refine Yaa (wpAny_seqItems gD rfl (show wpAny _ A.in1 (tryCatch (pyNext (.ref I)) _ >>= _) _ _ s from Yaa (wpAny_tryCatch (W.item 0 s _ _ hn st λv h' tk pv st' kept=>?_))));have gD':=kept D _ hDw gD;have j':J h':=keepJ _ _ j λb o nw _ e=>kept b o nw e;show wpAny _ A.in1 (updateSeq D (λ_=>#[v,v]) >>= _) _ _ _;refine Yaa (wpAny_updateSeq gD' rfl ?_);rw [nm];refine Yab ⟨Yeb Yfc _,Zar W bt cmp D hD keepJ _ 0 _ v _ rfl hn (W.frame _ _ _ st' λb bf o e=>?_) (keepJ _ _ j' λb o _ nD e=>(Ycm _ _ (Ne.symm nD)).trans e) pv (Yfr _ gD' rfl) λv' h2 tk2 pv' k2=>?_⟩
 ·exact (Ycm _ _ (λz:D=b=>hD (by rw [z];exact bf))).trans e
 ·exact hR v' h2 tk2 pv' λb o nw nD e=>k2 b o nw nD ((Ycm _ _ (Ne.symm nD)).trans (kept b o nw e))
end
section
variable {X:Cx}
end
section
variable {X:Cx}{k:Nat}{f:Addr}{fd:FuncData}{ps:List Str}{sp:Sp}{dvs:List V}{ds:List Value}{fx:Str}{fp jQ bpos np:Pos}{e:Expr}{es:List Expr}{t:TA}
end
section
variable {X:Cx}{k:Nat}{f:Addr}{fd:FuncData}{ps:List Str}{sp:Sp}{dvs:List V}{ds:List Value}{fx:Str}{fp jQ bpos np hpos pos:Pos}{e:Expr}{es:List Expr}{t:TA}
end
noncomputable def Ol:Bool->Keyed->Array Keyed->Nat->Nat->Nat->StateT SortSt Sem (Option Nat):=sortPriv% PySem.Builtin.gallop
noncomputable def V8:Array Keyed->Array Keyed->StateT SortSt Sem (Array Keyed):=sortPriv% PySem.Builtin.mergeLo
noncomputable def V9:Array Keyed->Array Keyed->StateT SortSt Sem (Array Keyed):=sortPriv% PySem.Builtin.mergeHi
noncomputable def U8:Nat->StateT SortSt Sem Unit:=sortPriv% PySem.Builtin.setMinGallop
noncomputable def Ui (left:Bool)(key:Keyed)(arr:Array Keyed)(base i:Nat):StateT SortSt Sem (Option Bool):=do
 let x <- elem' arr (base+i)
 if left then lt' x key else return (<- lt' key x).map (!·)
noncomputable def O1 (left:Bool)(key:Keyed)(arr:Array Keyed)(base n lo hi:Nat):StateT SortSt Sem (Option Nat):=do
 let mut lo:=lo
 let mut hi:=hi
 for _ in [:n] do
  if lo>=hi then break
  let m:=lo+(hi-lo) / 2
  let some more <- Ui left key arr base m | return none
  if more then lo:=m+1
  else hi:=m
 return some hi
noncomputable def Wa (left:Bool)(key:Keyed)(arr:Array Keyed)(base n hint:Nat):StateT SortSt Sem (Option Nat):=do
 let mut lastofs:=0
 let mut ofs:=1
 let maxofs:=n-hint
 for _ in [:n] do
  if ofs>=maxofs then break
  let some more <- Ui left key arr base (hint+ofs) | return none
  if !more then break
  lastofs:=ofs
  ofs:=2 * ofs+1
 O1 left key arr base n (hint+lastofs+1) (hint+min ofs maxofs)
noncomputable def Uj (left:Bool)(key:Keyed)(arr:Array Keyed)(base n hint:Nat):StateT SortSt Sem (Option Nat):=do
 let mut lastofs:=0
 let mut ofs:=1
 let maxofs:=hint+1
 for _ in [:n] do
  if ofs>=maxofs then break
  let some found <- Ui left key arr base (hint-ofs) | return none
  if found then break
  lastofs:=ofs
  ofs:=2 * ofs+1
 O1 left key arr base n (hint+1-min ofs maxofs) (hint-lastofs)
theorem Y9 (left:Bool)(key:Keyed)(arr:Array Keyed)(base n hint:Nat):Ol left key arr base n hint=(do
  let some right <- Ui left key arr base hint | return none
  if right then Wa left key arr base n hint else Uj left key arr base n hint):=rfl
section
variable {M:Model}{A:Around}{E:EX}{s:Shared}{kd:SortKind}{b:Keyed->Keyed->Bool}{good:Keyed->Prop}
structure WO (b:Keyed->Keyed->Bool):Prop where
 irr:∀x,b x x=false
 tr:∀x y z,b x y=true->b y z=true->b x z=true
 neg:∀x y z,b x z=true->b x y=true\/b y z=true
noncomputable def Uc (M:Model)(A:Around)(E:EX)(s:Shared)(kd:SortKind)(b:Keyed->Keyed->Bool)(good:Keyed->Prop):Prop:=
 ∀(x y:Keyed)(st:SortSt)(Q:Option Bool->SortSt->Prop),good x->good y->kindOf st=kd->Q (some (b x y)) st->wpS M A E s (lt' x y) Q st
theorem Gx {arr:Array Keyed}{i:Nat}{x:Keyed}{st:SortSt}{Q:Keyed->SortSt->Prop}(h:arr[i]?=some x)(q:Q x st):wpS M A E s (elem' arr i) Q st:=by
 rw [elem'_eq,h];exact Yaf q
noncomputable def byd (b:Keyed->Keyed->Bool)(left:Bool)(key:Keyed)(arr:Array Keyed)(base i:Nat):Bool:=match arr[base+i]? with
 | some x=>if left then b x key else !b key x
 | none=>false
theorem Ow {left:Bool}{key:Keyed}{arr:Array Keyed}{base i:Nat}{x:Keyed}{st:SortSt}{Q:Option Bool->SortSt->Prop}(L:Uc M A E s kd b good)(hk:good key)(hx:arr[base+i]?=some x)(gx:good x)(hs:kindOf st=kd)(q:Q (some (byd b left key arr base i)) st):wpS M A E s (Ui left key arr base i) Q st:=by
 unfold Ui;refine Yae (Gx hx ?_);unfold byd at q;rw [hx] at q;cases left with
 | true=>exact L x key st Q gx hk hs q
 | false=>exact Yae (L key x st _ hk gx hs (Yaf q))
section
variable {left:Bool}{key:Keyed}{arr:Array Keyed}{base n hint:Nat}{st:SortSt}{Q:Option Nat->SortSt->Prop}
structure Gal (b:Keyed->Keyed->Bool)(good:Keyed->Prop)(left:Bool)(key:Keyed)(arr:Array Keyed)(base n:Nat):Prop where
 gk:good key
 it:∀i,i<n->∃x,arr[base+i]?=some x/\good x
 mono:∀i j,i<=j->j<n->byd b left key arr base j=true->byd b left key arr base i=true
theorem G8 {lo hi:Nat}(L:Uc M A E s kd b good)(G:Gal b good left key arr base n)(hs:kindOf st=kd)(h1:lo<=hi)(h2:hi<=n)(h3:∀i,i<lo->byd b left key arr base i=true)(h4:∀i,hi<=i->i<n->byd b left key arr base i=false)(q:∀k,k<=n->(∀i,i<k->byd b left key arr base i=true)->(∀i,k<=i->i<n->byd b left key arr base i=false)->Q (some k) st):wpS M A E s (O1 left key arr base n lo hi) Q st:=by
 unfold O1;refine Yae (Ycd (λk c st'=>st'=st/\∃lo hi,c=(none,lo,hi)/\lo<=hi/\hi<=n/\hi-lo<=n-k/\(∀i,i<lo->byd b left key arr base i=true)/\(∀i,hi<=i->i<n->byd b left key arr base i=false)) ?_ ?_ ⟨rfl,lo,hi,rfl,h1,h2,by lia,h3,h4⟩)
 ·rintro k c st' _ hk ⟨rfl,lo,hi,rfl,h1,h2,h5,h3,h4⟩;dsimp only;split
  ·rename_i h6;have:lo=hi:=by lia
   subst this;refine Yaf ?_;dsimp only;exact Yaf (q lo h2 h3 h4)
  ·rename_i h6;obtain ⟨x,hx,gx⟩:=G.it (lo+(hi-lo) / 2) (by lia);refine Yae (Ow L G.gk hx gx hs ?_);dsimp only;cases hb:byd b left key arr base (lo+(hi-lo) / 2) with
   | true=>
    refine Yaf ⟨rfl,_,_,rfl,by lia,h2,by lia,λi hi'=>G.mono i (lo+(hi-lo) / 2) (by lia) (by lia) hb,h4⟩
   | false=>
    refine Yaf ⟨rfl,_,_,rfl,by lia,by lia,by lia,h3,λi h8 h9=>?_⟩;cases hc:byd b left key arr base i with
    | false=>rfl
    | true=>rw [G.mono _ i h8 h9 hc] at hb;cases hb
 ·rintro c st' ⟨rfl,lo,hi,rfl,h1,h2,h5,h3,h4⟩;have:lo=hi:=by simp at h5;lia
  subst this;exact Yaf (q lo h2 h3 h4)
theorem JH (L:Uc M A E s kd b good)(G:Gal b good left key arr base n)(hs:kindOf st=kd)(hn:hint<n)(q:∀k,k<=n->(∀i,i<k->byd b left key arr base i=true)->(∀i,k<=i->i<n->byd b left key arr base i=false)->Q (some k) st):wpS M A E s (Ol left key arr base n hint) Q st:=by
 rw [Y9];obtain ⟨x,hx,gx⟩:=G.it hint hn;have anti:∀i j,byd b left key arr base i=false->i<=j->j<n->byd b left key arr base j=false:=λi j h1 h2 h3=>by
  cases hc:byd b left key arr base j with
  | false=>rfl
  | true=>rw [G.mono _ j h2 h3 hc] at h1;cases h1
 refine Yae (Ow L G.gk hx gx hs ?_);cases hb:byd b left key arr base hint with
 | true=>
  show wpS M A E s (Wa left key arr base n hint) Q st;unfold Wa;refine Yae (Ycd (λk c st'=>st'=st/\∃last ofs,c=(none,last,ofs)/\last<ofs/\k+1<=ofs/\hint+last<n/\byd b left key arr base (hint+last)=true) ?_ ?_ ⟨rfl,0,1,rfl,by lia,by lia,hn,hb⟩)
  ·rintro k c st' _ hk ⟨rfl,last,ofs,rfl,h1,h2,h3,h4⟩;dsimp only;split
   ·rename_i h5;refine Yaf ?_;dsimp only;rw [Yfm h5];exact G8 L G hs (by lia) (by lia) (λi hi=>G.mono i _ (show i<=hint+last by lia) h3 h4) (λi h6 h7=>by lia) q
   ·rename_i h5;obtain ⟨y,hy,gy⟩:=G.it (hint+ofs) (by lia);refine Yae (Ow L G.gk hy gy hs ?_);dsimp only;cases hb2:byd b left key arr base (hint+ofs) with
    | true=>exact Yaf ⟨rfl,_,_,rfl,by lia,by lia,by lia,hb2⟩
    | false=>
     refine Yaf ?_;dsimp only;rw [Yeh (by lia)];exact G8 L G hs (by lia) (by lia) (λi hi=>G.mono i _ (show i<=hint+last by lia) h3 h4) (λi h6 h7=>anti _ i hb2 h6 h7) q
  ·rintro c st' ⟨rfl,last,ofs,rfl,h1,h2,h3,h4⟩;dsimp only;have h5:n-hint<=ofs:=by simp at h2;lia
   rw [Yfm h5];exact G8 L G hs (by lia) (by lia) (λi hi=>G.mono i _ (show i<=hint+last by lia) h3 h4) (λi h6 h7=>by lia) q
 | false=>
  show wpS M A E s (Uj left key arr base n hint) Q st;unfold Uj;refine Yae (Ycd (λk c st'=>st'=st/\∃last ofs,c=(none,last,ofs)/\last<ofs/\k+1<=ofs/\last<=hint/\byd b left key arr base (hint-last)=false) ?_ ?_ ⟨rfl,0,1,rfl,by lia,by lia,by lia,hb⟩)
  ·rintro k c st' _ hk ⟨rfl,last,ofs,rfl,h1,h2,h3,h4⟩;dsimp only;split
   ·rename_i h5;refine Yaf ?_;dsimp only;rw [Yfm h5];exact G8 L G hs (by lia) (by lia) (λi hi=>by lia) (λi h6 h7=>anti _ i h4 h6 h7) q
   ·rename_i h5;obtain ⟨y,hy,gy⟩:=G.it (hint-ofs) (by lia);refine Yae (Ow L G.gk hy gy hs ?_);dsimp only;cases hb2:byd b left key arr base (hint-ofs) with
    | false=>exact Yaf ⟨rfl,_,_,rfl,by lia,by lia,by lia,hb2⟩
    | true=>
     refine Yaf ?_;dsimp only;rw [Yeh (by lia)];exact G8 L G hs (by lia) (by lia) (λi hi=>G.mono i (hint-ofs) (by lia) (by lia) hb2) (λi h6 h7=>anti _ i h4 h6 h7) q
  ·rintro c st' ⟨rfl,last,ofs,rfl,h1,h2,h3,h4⟩;dsimp only;have h5:hint+1<=ofs:=by simp at h2;lia
   rw [Yfm h5];exact G8 L G hs (by lia) (by lia) (λi hi=>by lia) (λi h6 h7=>anti _ i h4 h6 h7) q
end
end
noncomputable abbrev MLs:=Option (Array Keyed)×Array Keyed×Nat×Nat×Nat×Nat
noncomputable abbrev MLt:=Option (Array Keyed)×Array Keyed×Nat×Nat×Nat×Nat×Nat
noncomputable def OE (a b out:Array Keyed)(ia ib:Nat):Array Keyed:=out++a.extract ia++b.extract ib
noncomputable def VD (a b out:Array Keyed)(ia ib:Nat):Array Keyed:=out++b.extract ib++a.extract ia
noncomputable def ZbW (a b:Array Keyed)(mg:Nat):Nat->MLs->StateT SortSt Sem (ForInStep MLs):=λ_ r=>
 let out:=r.2.1;let ia:=r.2.2.1;let ib:=r.2.2.2.1;let qX:=r.2.2.2.2.1;let qV:=r.2.2.2.2.2
 do
 let x <- elem' b ib
 let y <- elem' a ia
 match <- lt' x y with
 | some bWins=>
  if bWins=true then do
   let z <- elem' b ib
   let out:=out.push z
   let ib:=ib+1
   let qV:=qV+1
   let qX:=0
   if (ib == b.size)=true then pure (.done (some (OE a b out ia ib),out,ia,ib,qX,qV))
   else if qV>=mg then pure (.done (none,out,ia,ib,qX,qV))
   else pure (.yield (none,out,ia,ib,qX,qV))
  else do
   let z <- elem' a ia
   let out:=out.push z
   let ia:=ia+1
   let qX:=qX+1
   let qV:=0
   if (ia+1 == a.size)=true then pure (.done (some (VD a b out ia ib),out,ia,ib,qX,qV))
   else if qX>=mg then pure (.done (none,out,ia,ib,qX,qV))
   else pure (.yield (none,out,ia,ib,qX,qV))
 | _=>pure (.done (some (OE a b out ia ib),out,ia,ib,qX,qV))
noncomputable def mlD (a b:Array Keyed)(qZ qX k:Nat)(out:Array Keyed)(ia ib:Nat):StateT SortSt Sem (ForInStep MLt):=do
 let qV:=k
 let z <- elem' a ia
 let out:=out.push z
 let ia:=ia+1
 if (ia+1 == a.size)=true then pure (.done (some (VD a b out ia ib),out,ia,ib,qZ,qX,qV))
 else if (decide (qX<7) && decide (qV<7))=true then pure (.done (none,out,ia,ib,qZ,qX,qV))
 else pure (.yield (none,out,ia,ib,qZ,qX,qV))
noncomputable def mlC (a b:Array Keyed)(qZ qX qV:Nat)(out:Array Keyed)(ia ib:Nat):StateT SortSt Sem (ForInStep MLt):=do
 let z <- elem' b ib
 let out:=out.push z
 let ib:=ib+1
 if (ib == b.size)=true then pure (.done (some (OE a b out ia ib),out,ia,ib,qZ,qX,qV))
 else do
  let y <- elem' a ia
  match <- Ol true y b ib (b.size-ib) 0 with
  | some k=>
   let qV:=k
   if k > 0 then
    let out:=out++b.extract ib (ib+k)
    let ib:=ib+k
    if (ib == b.size)=true then pure (.done (some (OE a b out ia ib),out,ia,ib,qZ,qX,qV))
    else mlD a b qZ qX k out ia ib
   else mlD a b qZ qX k out ia ib
  | _=>pure (.done (some (OE a b out ia ib),out,ia,ib,qZ,qX,qV))
noncomputable def mlB (a b:Array Keyed)(qZ qX qV:Nat)(out:Array Keyed)(ia ib:Nat):StateT SortSt Sem (ForInStep MLt):=do
 U8 qZ
 let x <- elem' b ib
 match <- Ol false x a ia (a.size-ia) 0 with
 | some k=>
  let qX:=k
  if k > 0 then
   let out:=out++a.extract ia (ia+k)
   let ia:=ia+k
   if (ia+1 == a.size)=true then pure (.done (some (VD a b out ia ib),out,ia,ib,qZ,qX,qV))
   else if (ia == a.size)=true then pure (.done (some (OE a b out ia ib),out,ia,ib,qZ,qX,qV))
   else mlC a b qZ qX qV out ia ib
  else mlC a b qZ qX qV out ia ib
 | _=>pure (.done (some (OE a b out ia ib),out,ia,ib,qZ,qX,qV))
noncomputable def ZbX (a b:Array Keyed):Nat->MLt->StateT SortSt Sem (ForInStep MLt):=λ_ r=>
 let out:=r.2.1;let ia:=r.2.2.1;let ib:=r.2.2.2.1;let qZ:=r.2.2.2.2.1;let qX:=r.2.2.2.2.2.1;let qV:=r.2.2.2.2.2.2
 if qZ > 1 then mlB a b (qZ-1) qX qV out ia ib else mlB a b qZ qX qV out ia ib
noncomputable abbrev MLo:=Option (Array Keyed)×Array Keyed×Nat×Nat×Nat
noncomputable def ZbY (a b:Array Keyed):Nat->MLo->StateT SortSt Sem (ForInStep MLo):=λ_ r=>
 let out:=r.2.1;let ia:=r.2.2.1;let ib:=r.2.2.2.1;let qZ:=r.2.2.2.2
 do
 let r <- forIn [:a.size+b.size] ((none,out,ia,ib,0,0):MLs) (ZbW a b qZ)
 match r.1 with
 | some x=>pure (.done (some x,r.2.1,r.2.2.1,r.2.2.2.1,qZ))
 | none=>do
  liftM (rule "list.sort.gallop")
  let r <- forIn [:a.size+b.size] ((none,r.2.1,r.2.2.1,r.2.2.2.1,qZ+1,r.2.2.2.2.1,r.2.2.2.2.2):MLt) (ZbX a b)
  match r.1 with
  | some x=>pure (.done (some x,r.2.1,r.2.2.1,r.2.2.2.1,r.2.2.2.2.1))
  | none=>do
   U8 (r.2.2.2.2.1+1)
   pure (.yield (none,r.2.1,r.2.2.1,r.2.2.2.1,r.2.2.2.2.1+1))
theorem Js {α β:Type}{m:StateT SortSt Sem α}{f g:α->StateT SortSt Sem β}(h:∀x,f x=g x):m >>= f=m >>= g:=by rw [funext h]
theorem Wb {α:Type}{c:Prop}[Decidable c]{x y u v:α}(h1:x=y)(h2:u=v):(if c then x else u)=if c then y else v:=by rw [h1,h2]
theorem U9 {β:Type}{r:Std.Legacy.Range}{c:β}{f g:Nat->β->StateT SortSt Sem (ForInStep β)}(h:∀i x,f i x=g i x):forIn r c f=forIn r c g:=by rw [funext λi=>funext (h i)]
theorem Xz (a b:Array Keyed):V8 a b=(do
  liftM (rule "list.sort.merge-lo")
  let x <- elem' b 0
  let out:=#[x]
  if (1 == b.size)=true then pure (OE a b out 0 1)
  else if (0+1 == a.size)=true then pure (VD a b out 0 1)
  else do
   let st <- get
   let r <- forIn [:a.size+b.size] ((none,out,0,1,gallopOf st):MLo) (ZbY a b)
   match r.1 with
   | some r=>pure r
   | none=>liftM (unsupported "internal:list.sort.merge-bound")):=by
 refine Js (m:=liftM (rule "list.sort.merge-lo")) λ_=>?_;refine Js (m:=elem' b 0) λx=>?_;refine Wb (c:=(1 == b.size)=true) rfl ?_;refine Wb (c:=(0+1 == a.size)=true) rfl ?_;refine Js (m:=get) λst=>?_;refine (Ybc (λm:StateT SortSt Sem MLo=>m >>= _) (U9 (r:=[:a.size+b.size]) (c:=((none,#[x],0,1,gallopOf st):MLo)) (g:=ZbY a b) λi r=>?_)).trans ?_;rotate_left
 ·refine Js λr=>?_;obtain ⟨r1,r2⟩:=r;cases r1 <;> rfl
 unfold ZbY;refine (Ybc (λm:StateT SortSt Sem MLs=>m >>= _) (U9 (r:=[:a.size+b.size]) (g:=ZbW a b r.2.2.2.2) λi r=>rfl)).trans ?_;refine Js λq=>?_;obtain ⟨q1,q2⟩:=q;cases q1 with
 | some z=>rfl
 | none=>
  refine Js (m:=liftM (rule "list.sort.gallop")) λ_=>?_;refine (Ybc (λm:StateT SortSt Sem MLt=>m >>= _) (U9 (r:=[:a.size+b.size]) (g:=ZbX a b) λi r=>rfl)).trans ?_;refine Js λq=>?_;obtain ⟨q1,q2⟩:=q;cases q1 <;> rfl
section
variable {b:Keyed->Keyed->Bool}
noncomputable abbrev kle (b:Keyed->Keyed->Bool)(x y:Keyed):Prop:=b y x=false
theorem WO.le_trans (W:WO b){x y z:Keyed}(h1:kle b x y)(h2:kle b y z):kle b x z:=by
 cases h:b z x with
 | false=>exact h
 | true=>
  rcases W.neg z y x h with q | q
  ·rw [show b z y=false from h2] at q;cases q
  ·rw [show b y x=false from h1] at q;cases q
theorem WO.le_of_lt (W:WO b){x y:Keyed}(h:b x y=true):kle b x y:=by
 cases q:b y x with
 | false=>exact q
 | true=>
  have:=W.tr _ _ _ h q;rw [W.irr] at this;cases this
theorem WO.le_refl (W:WO b)(x:Keyed):kle b x x:=W.irr x
structure Mrg (b:Keyed->Keyed->Bool)(all out ra rb:List Keyed):Prop where
 perm:(out++ra++rb).Perm all
 so:out.Pairwise (kle b)
 le:∀x∈out,∀y∈ra++rb,kle b x y
 sa:ra.Pairwise (kle b)
 sb:rb.Pairwise (kle b)
theorem Mrg.len {all out ra rb:List Keyed}(h:Mrg b all out ra rb):out.length+ra.length+rb.length=all.length:=by
 have:=h.perm.length_eq;rw [Yai,Yai] at this;exact this
theorem Mrg.moveA {all out u ra rb:List Keyed}(h:Mrg b all out (u++ra) rb)(hu:∀x∈u,∀y∈rb,kle b x y):Mrg b all (out++u) ra rb:=by
 have sa:=Ybv.mp h.sa;refine ⟨by rw [Ybs out u ra];exact h.perm,Ybv.mpr ⟨h.so,sa.1,λx hx y hy=>h.le x hx y (by simp [hy])⟩,λx hx y hy=>?_,sa.2.1,h.sb⟩;rcases Yag.mp hx with hx | hx
 ·refine h.le x hx y ?_;rcases Yag.mp hy with hy | hy
  ·simp [hy]
  ·simp [hy]
 ·rcases Yag.mp hy with hy | hy
  ·exact sa.2.2 x hx y hy
  ·exact hu x hx y hy
theorem Mrg.moveB {all out u ra rb:List Keyed}(h:Mrg b all out ra (u++rb))(hu:∀x∈u,∀y∈ra,kle b x y):Mrg b all (out++u) ra rb:=by
 have sb:=Ybv.mp h.sb;refine ⟨?_,Ybv.mpr ⟨h.so,sb.1,λx hx y hy=>h.le x hx y (by simp [hy])⟩,λx hx y hy=>?_,h.sa,sb.2.1⟩
 ·refine List.Perm.trans ?_ h.perm;simp only [Ybs];refine Yga _ ?_;rw [<-Ybs,<-Ybs];exact List.Perm.append_right _ List.perm_append_comm
 ·rcases Yag.mp hx with hx | hx
  ·refine h.le x hx y ?_;rcases Yag.mp hy with hy | hy
   ·simp [hy]
   ·simp [hy]
  ·rcases Yag.mp hy with hy | hy
   ·exact hu x hx y hy
   ·exact sb.2.2 x hx y hy
noncomputable def JA (b:Keyed->Keyed->Bool)(all r:List Keyed):Prop:=r.Perm all/\r.Pairwise (kle b)
theorem Mrg.endA {all out ra rb:List Keyed}(h:Mrg b all out ra rb)(hz:∀x∈ra,∀y∈rb,kle b x y):JA b all (out++ra++rb):=by
 refine ⟨h.perm,?_⟩;rw [Ybs];exact Ybv.mpr ⟨h.so,Ybv.mpr ⟨h.sa,h.sb,hz⟩,h.le⟩
theorem Mrg.endB {all out ra rb:List Keyed}(h:Mrg b all out ra rb)(hz:∀x∈rb,∀y∈ra,kle b x y):JA b all (out++rb++ra):=by
 refine ⟨?_,?_⟩
 ·refine List.Perm.trans ?_ h.perm;rw [Ybs,Ybs];exact Yga _ List.perm_append_comm
 ·rw [Ybs];exact Ybv.mpr ⟨h.so,Ybv.mpr ⟨h.sb,h.sa,hz⟩,λx hx y hy=>h.le x hx y (by
   rcases Yag.mp hy with hy | hy <;> simp [hy])⟩
end
theorem UJ (a:Array Keyed)(i:Nat):(a.extract i).toList=a.toList.drop i:=by
 rw [Yfu,Yfv,Yew];rw [Ycl];exact Yad _
theorem Yg (a:Array Keyed)(i k:Nat):(a.extract i (i+k)).toList=(a.toList.drop i).take k:=by
 rw [Yfu,Yfv,Nat.add_sub_cancel_left]
theorem JO {a:Array Keyed}{i:Nat}{x:Keyed}(h:a[i]?=some x):a.toList.drop i=x::a.toList.drop (i+1):=by
 rw [<-Yay] at h;obtain ⟨h1,h2⟩:=Yao.mp h;rw [Yfo h1,h2]
noncomputable def SameG (st st':SortSt):Prop:=kindOf st'=kindOf st/\arrOf st'=arrOf st/\pendingOf st'=pendingOf st/\failedOf st'=failedOf st
theorem SameG.refl (st:SortSt):SameG st st:=⟨rfl,rfl,rfl,rfl⟩
theorem SameG.trans {st st' st'':SortSt}(h:SameG st st')(k:SameG st' st''):SameG st st'':=⟨k.1.trans h.1,k.2.1.trans h.2.1,k.2.2.1.trans h.2.2.1,k.2.2.2.trans h.2.2.2⟩
section
variable {M:Model}{A:Around}{E:EX}{s:Shared}{kd:SortKind}{b:Keyed->Keyed->Bool}{good:Keyed->Prop}
theorem Ox {g:Nat}{st:SortSt}{Q:Unit->SortSt->Prop}(q:∀st',SameG st st'->Q () st'):wpS M A E s (U8 g) Q st:=by
 refine Yco (f:=λs=>SortSt.mk' (kindOf s) (arrOf s) (pendingOf s) g (failedOf s)) (q _ ⟨rfl,rfl,rfl,rfl⟩)
structure Two (b:Keyed->Keyed->Bool)(good:Keyed->Prop)(a c:Array Keyed):Prop where
 ga:∀x∈a.toList,good x
 gc:∀x∈c.toList,good x
 sa:a.toList.Pairwise (kle b)
 sc:c.toList.Pairwise (kle b)
 na:0<a.size
 nc:0<c.size
 first:∀x,c[0]?=some x->∀y∈a.toList,kle b x y
 last:∀z,a[a.size-1]?=some z->∀y∈c.toList,kle b y z
variable {a c:Array Keyed}
theorem Two.at (T:Two b good a c){i:Nat}(h:i<a.size):∃x,a[i]?=some x/\good x:=⟨a[i],by simp [h],T.ga _ (by simp)⟩
theorem Two.ct (T:Two b good a c){i:Nat}(h:i<c.size):∃x,c[i]?=some x/\good x:=⟨c[i],by simp [h],T.gc _ (by simp)⟩
noncomputable def ML (b:Keyed->Keyed->Bool)(a c out:Array Keyed)(ia ib:Nat):Prop:=Mrg b (a.toList++c.toList) out.toList (a.toList.drop ia) (c.toList.drop ib)
theorem ML.done {out:Array Keyed}{ia ib:Nat}(h:ML b a c out ia ib)(e:ib=c.size\/ia=a.size):JA b (a.toList++c.toList) (OE a c out ia ib).toList:=by
 unfold OE;rw [Ycx,Ycx,UJ,UJ];refine Mrg.endA h λx hx y hy=>?_;rcases e with e | e
 ·rw [Yfn (by rw [e,Yan];exact Yad _)] at hy;cases hy
 ·rw [Yfn (by rw [e,Yan];exact Yad _)] at hx;cases hx
theorem ML.last {out:Array Keyed}{ia ib:Nat}(T:Two b good a c)(h:ML b a c out ia ib)(e:ia+1=a.size):JA b (a.toList++c.toList) (VD a c out ia ib).toList:=by
 unfold VD;rw [Ycx,Ycx,UJ,UJ];refine Mrg.endB h λx hx y hy=>?_;obtain ⟨z,hz,_⟩:=T.at (i:=ia) (by lia);rw [JO hz,Yfn (by rw [Yan];lia)] at hy;have:y=z:=by simpa using hy
 subst this;exact T.last y (by rw [<-e];exact hz) x (Ygd hx)
theorem ML.pushB {out:Array Keyed}{ia ib:Nat}{x:Keyed}(h:ML b a c out ia ib)(hx:c[ib]?=some x)(hl:∀y∈a.toList.drop ia,kle b x y):ML b a c (out.push x) ia (ib+1):=by
 unfold ML at h ⊢;rw [Yem];rw [JO hx] at h;exact Mrg.moveB (u:=[x]) h λz hz y hy=>by
  have:z=x:=by simpa using hz
  subst this;exact hl y hy
theorem ML.pushA {out:Array Keyed}{ia ib:Nat}{x:Keyed}(h:ML b a c out ia ib)(hx:a[ia]?=some x)(hl:∀y∈c.toList.drop ib,kle b x y):ML b a c (out.push x) (ia+1) ib:=by
 unfold ML at h ⊢;rw [Yem];rw [JO hx] at h;exact Mrg.moveA (u:=[x]) h λz hz y hy=>by
  have:z=x:=by simpa using hz
  subst this;exact hl y hy
theorem ML.takeA {out:Array Keyed}{ia ib k:Nat}(h:ML b a c out ia ib)(hl:∀x∈(a.toList.drop ia).take k,∀y∈c.toList.drop ib,kle b x y):ML b a c (out++a.extract ia (ia+k)) (ia+k) ib:=by
 unfold ML at h ⊢;rw [Ycx,Yg];rw [<-Ydb k (a.toList.drop ia),List.drop_drop] at h;exact Mrg.moveA h hl
theorem ML.takeB {out:Array Keyed}{ia ib k:Nat}(h:ML b a c out ia ib)(hl:∀x∈(c.toList.drop ib).take k,∀y∈a.toList.drop ia,kle b x y):ML b a c (out++c.extract ib (ib+k)) ia (ib+k):=by
 unfold ML at h ⊢;rw [Ycx,Yg];rw [<-Ydb k (c.toList.drop ib),List.drop_drop] at h;exact Mrg.moveB h hl
theorem Wc {l:List Keyed}{x:Keyed}(W:WO b)(h:(x::l).Pairwise (kle b)):∀y∈x::l,kle b x y:=λy hy=>by
 rcases Yas.mp hy with rfl | hy
 ·exact W.le_refl _
 ·exact (Ydc.mp h).1 y hy
theorem Zas (W:WO b)(L:Uc M A E s kd b good)(T:Two b good a c){out:Array Keyed}{ia ib mg:Nat}{st:SortSt}(hs:kindOf st=kd)(h:ML b a c out ia ib)(h1:ia+1<a.size)(h2:ib<c.size){Q:MLs->SortSt->Prop}(q1:∀r y st',SameG st st'->JA b (a.toList++c.toList) r.toList->Q (some r,y) st')(q2:∀out' ia' ib' ac bc st',SameG st st'->ML b a c out' ia' ib'->ia'+1<a.size->ib'<c.size->out.size<out'.size->Q (none,out',ia',ib',ac,bc) st') :
  wpS M A E s (forIn [:a.size+c.size] ((none,out,ia,ib,0,0):MLs) (ZbW a c mg)) Q st:=by
 refine Ycd (λk r st'=>SameG st st'/\∃out' ia' ib' ac bc,r=(none,out',ia',ib',ac,bc)/\ML b a c out' ia' ib'/\ia'+1<a.size/\ib'<c.size/\out.size+k<=out'.size) ?_ ?_ ⟨SameG.refl _,_,_,_,_,_,rfl,h,h1,h2,Yad _⟩
 ·rintro k r st1 _ hk ⟨sg,out',ia',ib',ac,bc,rfl,h,h1,h2,h3⟩;have hs1:kindOf st1=kd:=sg.1.trans hs;unfold ZbW;dsimp only;obtain ⟨x,hx,gx⟩:=T.ct h2;obtain ⟨y,hy,gy⟩:=T.at (i:=ia') (by lia);refine Yae (Gx hx (Yae (Gx hy (Yae (L x y st1 _ gx gy hs1 ?_)))));have sA:(a.toList.drop ia').Pairwise (kle b):=h.sa;have sB:(c.toList.drop ib').Pairwise (kle b):=h.sb;rw [JO hy] at sA;rw [JO hx] at sB;dsimp only;cases hb:b x y with
  | true=>
   rw [if_pos rfl];refine Yae (Gx hx ?_);have h':=h.pushB hx λz hz=>by
    rw [JO hy] at hz;exact W.le_trans (W.le_of_lt hb) (Wc W sA z hz)
   split
   ·rename_i e;exact Yaf (q1 _ _ _ sg (h'.done (.inl (eq_of_beq e))))
   ·rename_i e;have e:ib'+1<c.size:=by
     have:ib'+1≠c.size:=λz=>e (Ybg.mpr z)
     lia
    split
    ·exact Yaf (q2 _ _ _ _ _ _ sg h' h1 e (by rw [Ycn];lia))
    ·exact Yaf ⟨sg,_,_,_,_,_,rfl,h',h1,e,by rw [Ycn];lia⟩
  | false=>
   rw [if_neg Yam];refine Yae (Gx hy ?_);have h':=h.pushA hy λz hz=>by
    rw [JO hx] at hz;exact W.le_trans hb (Wc W sB z hz)
   split
   ·rename_i e;exact Yaf (q1 _ _ _ sg (h'.last T (eq_of_beq e)))
   ·rename_i e;have e:ia'+1+1<a.size:=by
     have:ia'+1+1≠a.size:=λz=>e (Ybg.mpr z)
     lia
    split
    ·exact Yaf (q2 _ _ _ _ _ _ sg h' e h2 (by rw [Ycn];lia))
    ·exact Yaf ⟨sg,_,_,_,_,_,rfl,h',e,h2,by rw [Ycn];lia⟩
 ·rintro r st1 ⟨sg,out',ia',ib',ac,bc,rfl,h,h1,h2,h3⟩;exact q2 _ _ _ _ _ _ sg h h1 h2 (by have:=T.na;simp at h3;lia)
end
noncomputable def Rng (b:Keyed->Keyed->Bool)(arr:Array Keyed)(lo hi:Nat):Prop:=∀i j x y,lo<=i->i<=j->j<hi->arr[i]?=some x->arr[j]?=some y->kle b x y
section
variable {M:Model}{A:Around}{E:EX}{s:Shared}{kd:SortKind}{b:Keyed->Keyed->Bool}{good:Keyed->Prop}
theorem ZbZ (W:WO b):∀{l:List Keyed}{i j:Nat}{x y:Keyed},l.Pairwise (kle b)->i<=j->l[i]?=some x->l[j]?=some y->kle b x y
 | [],_,_,_,_,_,_,h,_=>by simp at h
 | z::l,0,0,x,y,_,_,h1,h2=>by
  simp at h1 h2;subst h1 h2;exact W.le_refl _
 | z::l,0,j+1,x,y,h,_,h1,h2=>by
  simp at h1 h2;subst h1;exact (Ydc.mp h).1 y (Yax h2)
 | z::l,i+1,0,_,_,_,h,_,_=>by lia
 | z::l,i+1,j+1,x,y,h,hij,h1,h2=>by
  simp at h1 h2;exact ZbZ W (Ydc.mp h).2 (by lia) h1 h2
theorem ZcK (W:WO b){arr:Array Keyed}{lo:Nat}(h:(arr.toList.drop lo).Pairwise (kle b)):Rng b arr lo arr.size:=λi j x y h1 h2 h3 e1 e2=>by
 refine ZbZ (i:=i-lo) (j:=j-lo) W h (by lia) ?_ ?_
 ·rw [Yez,Ydi h1,Yay];exact e1
 ·rw [Yez,Ydi (Ybo h1 h2),Yay];exact e2
theorem VE (W:WO b){left:Bool}{key:Keyed}{arr:Array Keyed}{base n:Nat}(hk:good key)(hg:∀i,i<n->∃x,arr[base+i]?=some x/\good x)(h:Rng b arr base (base+n)):Gal b good left key arr base n:=by
 refine ⟨hk,hg,λi j h1 h2 h3=>?_⟩;obtain ⟨x,hx,_⟩:=hg i (by lia);obtain ⟨y,hy,_⟩:=hg j h2;have hxy:=h (base+i) (base+j) x y (by lia) (by lia) (by lia) hx hy;unfold byd at h3 ⊢;rw [hy] at h3;rw [hx];dsimp only at h3 ⊢;cases left with
 | true=>
  rw [if_pos rfl] at h3 ⊢;rcases W.neg y x key h3 with z | z
  ·rw [show b y x=false from hxy] at z;cases z
  ·exact z
 | false=>
  rw [if_neg Yam] at h3 ⊢;rw [Bool.not_eq_true'] at h3 ⊢;exact W.le_trans (x:=x) (y:=y) (z:=key) hxy h3
variable {a c:Array Keyed}
theorem Yh {arr:Array Keyed}{base k:Nat}{x:Keyed}(h:x∈(arr.toList.drop base).take k):∃i,i<k/\arr[base+i]?=some x:=by
 obtain ⟨i,hi⟩:=Yfw.mp h;rw [Yey] at hi;split at hi
 ·rw [Yez,Yay] at hi;exact ⟨i,by assumption,hi⟩
 ·cases hi
theorem Yi {arr:Array Keyed}{base:Nat}{x:Keyed}(h:x∈arr.toList.drop base):∃i,base+i<arr.size/\arr[base+i]?=some x:=by
 obtain ⟨i,hi⟩:=Yfw.mp h;rw [Yez,Yay] at hi;exact ⟨i,(Ygc.mp hi).1,hi⟩
section
variable {out:Array Keyed}{ia ib:Nat}{st:SortSt}{Q:ForInStep MLt->SortSt->Prop}
structure Zb0 (b:Keyed->Keyed->Bool)(a c:Array Keyed)(n:Nat)(st:SortSt)(Q:ForInStep MLt->SortSt->Prop):Prop where
 fin:∀r y st',SameG st st'->JA b (a.toList++c.toList) r.toList->Q (.done (some r,y)) st'
 brk:∀out' ia' ib' y st',SameG st st'->ML b a c out' ia' ib'->ia'+1<a.size->ib'<c.size->n<=out'.size->Q (.done (none,out',ia',ib',y)) st'
 go:∀out' ia' ib' y st',SameG st st'->ML b a c out' ia' ib'->ia'+1<a.size->ib'<c.size->n<=out'.size->Q (.yield (none,out',ia',ib',y)) st'
theorem Zat (T:Two b good a c){mg ac k n:Nat}(R:Zb0 b a c n st Q)(h:ML b a c out ia ib)(h1:ia+1<a.size)(h2:ib<c.size)(hn:n<=out.size)(hl:∀x,a[ia]?=some x->∀y∈c.toList.drop ib,kle b x y) :
  wpS M A E s (mlD a c mg ac k out ia ib) Q st:=by
 unfold mlD;obtain ⟨x,hx,gx⟩:=T.at (i:=ia) (by lia);refine Yae (Gx hx ?_);have h':=h.pushA hx (hl x hx);have hn':n<=(out.push x).size:=by rw [Ycn];lia
 dsimp only;split
 ·rename_i e;exact Yaf (R.fin _ _ _ (SameG.refl _) (h'.last T (eq_of_beq e)))
 ·rename_i e;have e:ia+1+1<a.size:=by
   have:ia+1+1≠a.size:=λz=>e (Ybg.mpr z)
   lia
  split
  ·exact Yaf (R.brk _ _ _ _ _ (SameG.refl _) h' e h2 hn')
  ·exact Yaf (R.go _ _ _ _ _ (SameG.refl _) h' e h2 hn')
theorem Zau (W:WO b)(L:Uc M A E s kd b good)(T:Two b good a c){mg ac bc n:Nat}(R:Zb0 b a c n st Q)(hs:kindOf st=kd)(h:ML b a c out ia ib)(h1:ia+1<a.size)(h2:ib<c.size)(hn:n<=out.size)(hl:∀x,c[ib]?=some x->∀y∈a.toList.drop ia,kle b x y):wpS M A E s (mlC a c mg ac bc out ia ib) Q st:=by
 unfold mlC;obtain ⟨x,hx,gx⟩:=T.ct h2;obtain ⟨y,hy,gy⟩:=T.at (i:=ia) (by lia);refine Yae (Gx hx ?_);have h':=h.pushB hx (hl x hx);have hn':n<=(out.push x).size:=by rw [Ycn];lia
 generalize out.push x=out1 at h' hn';dsimp only;split
 ·rename_i e;exact Yaf (R.fin _ _ _ (SameG.refl _) (h'.done (.inl (eq_of_beq e))))
 ·rename_i e;have e:ib+1<c.size:=by
   have:ib+1≠c.size:=λz=>e (Ybg.mpr z)
   lia
  refine Yae (Gx hy ?_);have sB:Rng b c (ib+1) c.size:=ZcK W h'.sb;have sA:(a.toList.drop ia).Pairwise (kle b):=h'.sa;rw [JO hy] at sA;have G:Gal b good true y c (ib+1) (c.size-(ib+1)):=VE W gy (λi hi=>T.ct (by lia)) (by rw [Ydi (by lia)];exact sB);refine Yae (JH L G hs (by lia) λk hk k1 k2=>?_);dsimp only;have tk:∀z∈(c.toList.drop (ib+1)).take k,∀v∈a.toList.drop ia,kle b z v:=λz hz v hv=>by
   obtain ⟨i,hi,ez⟩:=Yh hz;have:=k1 i hi;unfold byd at this;rw [ez] at this;dsimp only at this;rw [if_pos rfl] at this;rw [JO hy] at hv;exact W.le_trans (W.le_of_lt this) (Wc W sA v hv)
  have tr:∀v∈c.toList.drop (ib+1+k),kle b y v:=λv hv=>by
   obtain ⟨i,hi,ev⟩:=Yi hv;have:=k2 (k+i) (by lia) (by lia);unfold byd at this;rw [show ib+1+(k+i)=ib+1+k+i by lia,ev] at this;dsimp only at this;rw [if_pos rfl] at this;exact this
  split
  ·have h3:=h'.takeB tk;have hn3:n<=(out1++c.extract (ib+1) (ib+1+k)).size:=by rw [Array.size_append];lia
   split
   ·rename_i e2;exact Yaf (R.fin _ _ _ (SameG.refl _) (h3.done (.inl (eq_of_beq e2))))
   ·rename_i e2;have e2:ib+1+k<c.size:=by
     have:ib+1+k≠c.size:=λz=>e2 (Ybg.mpr z)
     lia
    exact Zat T R h3 h1 e2 hn3 λx' hx' v hv=>by
     rw [hy] at hx';cases hx';exact tr v hv
  ·rename_i hk0;have:k=0:=by lia
   subst this;exact Zat T R h' h1 e hn' λx' hx' v hv=>by
    rw [hy] at hx';cases hx';exact tr v hv
theorem ZdF (W:WO b)(L:Uc M A E s kd b good)(T:Two b good a c){mg ac bc n:Nat}(R:∀st',SameG st st'->Zb0 b a c n st' Q)(hs:kindOf st=kd)(h:ML b a c out ia ib)(h1:ia+1<a.size)(h2:ib<c.size)(hn:n<=out.size) :
  wpS M A E s (mlB a c mg ac bc out ia ib) Q st:=by
 unfold mlB;refine Yae (Ox λst1 sg=>?_);have R:=R st1 sg;have hs1:kindOf st1=kd:=sg.1.trans hs;obtain ⟨x,hx,gx⟩:=T.ct h2;refine Yae (Gx hx ?_);have sA:Rng b a ia a.size:=ZcK W h.sa;have sB:(c.toList.drop ib).Pairwise (kle b):=h.sb;rw [JO hx] at sB;have G:Gal b good false x a ia (a.size-ia):=VE W gx (λi hi=>T.at (by lia)) (by rw [Ydi (by lia)];exact sA);refine Yae (JH L G hs1 (by lia) λk hk k1 k2=>?_);dsimp only;have tk:∀z∈(a.toList.drop ia).take k,∀v∈c.toList.drop ib,kle b z v:=λz hz v hv=>by
  obtain ⟨i,hi,ez⟩:=Yh hz;have:=k1 i hi;unfold byd at this;rw [ez] at this;dsimp only at this;rw [if_neg Yam,Bool.not_eq_true'] at this;rw [JO hx] at hv;exact W.le_trans this (Wc W sB v hv)
 have tr:∀v∈a.toList.drop (ia+k),kle b x v:=λv hv=>by
  obtain ⟨i,hi,ev⟩:=Yi hv;have:=k2 (k+i) (by lia) (by lia);unfold byd at this;rw [show ia+(k+i)=ia+k+i by lia,ev] at this;dsimp only at this;rw [if_neg Yam,Bool.not_eq_false'] at this;exact W.le_of_lt this
 split
 ·have h3:=h.takeA tk;have hn3:n<=(out++a.extract ia (ia+k)).size:=by rw [Array.size_append];lia
  split
  ·rename_i e2;exact Yaf (R.fin _ _ _ (SameG.refl _) (h3.last T (eq_of_beq e2)))
  ·rename_i e2;split
   ·rename_i e3;exact Yaf (R.fin _ _ _ (SameG.refl _) (h3.done (.inr (eq_of_beq e3))))
   ·rename_i e3;have e4:ia+k+1<a.size:=by
     have:ia+k+1≠a.size:=λz=>e2 (Ybg.mpr z);have:ia+k≠a.size:=λz=>e3 (Ybg.mpr z)
     lia
    exact Zau W L T R hs1 h3 e4 h2 hn3 λx' hx' v hv=>by
     rw [hx] at hx';cases hx';exact tr v hv
 ·have:k=0:=by lia
  subst this;exact Zau W L T R hs1 h h1 h2 hn λx' hx' v hv=>by
   rw [hx] at hx';cases hx';exact tr v hv
end
theorem Zav (W:WO b)(L:Uc M A E s kd b good)(T:Two b good a c){out:Array Keyed}{ia ib n:Nat}{y:Nat×Nat×Nat}{st:SortSt}(hs:kindOf st=kd)(h:ML b a c out ia ib)(h1:ia+1<a.size)(h2:ib<c.size){Q:MLt->SortSt->Prop}(q1:∀r y st',SameG st st'->JA b (a.toList++c.toList) r.toList->Q (some r,y) st')(q2:∀out' ia' ib' y st',SameG st st'->ML b a c out' ia' ib'->ia'+1<a.size->ib'<c.size->out.size<=out'.size->Q (none,out',ia',ib',y) st') :
  wpS M A E s (forIn [:n] ((none,out,ia,ib,y):MLt) (ZbX a c)) Q st:=by
 refine Ycd (λk r st'=>SameG st st'/\∃out' ia' ib' y,r=(none,out',ia',ib',y)/\ML b a c out' ia' ib'/\ia'+1<a.size/\ib'<c.size/\out.size<=out'.size) ?_ ?_ ⟨SameG.refl _,_,_,_,_,rfl,h,h1,h2,Yad _⟩
 ·rintro k r st1 _ hk ⟨sg,out',ia',ib',y,rfl,h,h1,h2,h3⟩;have hs1:kindOf st1=kd:=sg.1.trans hs;have R:∀st',SameG st1 st'->Zb0 b a c out.size st' (λr st'=>match r with
   | .done c'=>Q c' st'
   | .yield c'=>SameG st st'/\∃out' ia' ib' y,c'=(none,out',ia',ib',y)/\ML b a c out' ia' ib'/\ia'+1<a.size/\ib'<c.size/\out.size<=out'.size):=λst' sg'=>
   ⟨λr y st2 g m=>q1 r y st2 ((sg.trans sg').trans g) m,λo i j y st2 g m p1 p2 p3=>q2 o i j y st2 ((sg.trans sg').trans g) m p1 p2 p3,λo i j y st2 g m p1 p2 p3=>⟨(sg.trans sg').trans g,o,i,j,y,rfl,m,p1,p2,p3⟩⟩
  unfold ZbX;dsimp only;have mono:∀mg,wpS M A E s (mlB a c mg y.2.1 y.2.2 out' ia' ib') _ st1:=λmg=>ZdF W L T R hs1 h h1 h2 h3;split
  ·exact wpS_mono (mono _) λr st' hr=>by cases r <;> exact hr
  ·exact wpS_mono (mono _) λr st' hr=>by cases r <;> exact hr
 ·rintro r st1 ⟨sg,out',ia',ib',y,rfl,h,h1,h2,h3⟩;exact q2 _ _ _ _ _ sg h h1 h2 h3
theorem XA (W:WO b)(L:Uc M A E s kd b good)(T:Two b good a c){st:SortSt}(hs:kindOf st=kd){Q:Array Keyed->SortSt->Prop}(q:∀r st',SameG st st'->JA b (a.toList++c.toList) r.toList->Q r st'):wpS M A E s (V8 a c) Q st:=by
 rw [Xz];refine Yae (wpS_lift (Yds ⟨rfl,?_⟩));obtain ⟨x,hx,gx⟩:=T.ct T.nc;refine Yae (Gx hx ?_);have h0:ML b a c #[x] 0 1:=by
  have z:ML b a c #[] 0 0:=⟨by simp,by simp,by simp,by simpa using T.sa,by simpa using T.sc⟩;exact z.pushB hx λy hy=>T.first x hx y (by simpa using hy)
 have hc:=T.nc;have ha:=T.na;dsimp only;split
 ·rename_i e;exact Yaf (q _ _ (SameG.refl _) (h0.done (.inl (eq_of_beq e))))
 ·rename_i e;have e:1<c.size:=by
   have:1≠c.size:=λz=>e (Ybg.mpr z)
   lia
  split
  ·rename_i e2;exact Yaf (q _ _ (SameG.refl _) (h0.last T (eq_of_beq e2)))
  ·rename_i e2;have e2:0+1<a.size:=by
    have:0+1≠a.size:=λz=>e2 (Ybg.mpr z)
    lia
   refine Yae (wpS_get ?_);refine Yae (Ycd (λk r st'=>SameG st st'/\∃out' ia' ib' mg,r=(none,out',ia',ib',mg)/\ML b a c out' ia' ib'/\ia'+1<a.size/\ib'<c.size/\k<out'.size) ?_ ?_ ⟨SameG.refl _,_,_,_,_,rfl,h0,e2,e,by simp⟩)
   ·rintro k r st1 _ hk ⟨sg,out',ia',ib',mg,rfl,h,h1,h2,h3⟩;have hs1:kindOf st1=kd:=sg.1.trans hs;unfold ZbY;dsimp only;refine Yae (Zas W L T hs1 h h1 h2 (λr y st2 g m=>?_) (λo i j ac bc st2 g m p1 p2 p3=>?_))
    ·refine Yaf ?_;dsimp only;exact Yaf (q r st2 (sg.trans g) m)
    ·dsimp only;refine Yae (wpS_lift (Yds ⟨rfl,?_⟩));refine Yae (Zav W L T (g.1.trans hs1) m p1 p2 (λr y st3 g3 m3=>?_) (λo3 i3 j3 y3 st3 g3 m3 r1 r2 r3=>?_))
     ·refine Yaf ?_;dsimp only;exact Yaf (q r st3 ((sg.trans g).trans g3) m3)
     ·dsimp only;refine Yae (Ox λst4 g4=>?_);exact Yaf ⟨((sg.trans g).trans g3).trans g4,_,_,_,_,rfl,m3,r1,r2,by lia⟩
   ·rintro r st1 ⟨sg,out',ia',ib',mg,rfl,h,h1,h2,h3⟩;exfalso;have:=Mrg.len h;rw [Yai,Ycl,Ycl,Yan,Yan,Yan] at this;simp at h3
    lia
end
noncomputable abbrev MHs:=Option (Array Keyed)×Nat×Nat×Array Keyed×Nat×Nat
noncomputable abbrev MHt:=Option (Array Keyed)×Nat×Nat×Array Keyed×Nat×Nat×Nat
noncomputable abbrev MHo:=Option (Array Keyed)×Nat×Nat×Array Keyed×Nat
noncomputable def OF (a b out:Array Keyed)(na nb:Nat):Array Keyed:=a.extract 0 na++b.extract 0 nb++out.reverse
noncomputable def Uk (a b out:Array Keyed)(na nb:Nat):Array Keyed:=b.extract 0 nb++a.extract 0 na++out.reverse
noncomputable def Zb1 (a b:Array Keyed)(mg:Nat):Nat->MHs->StateT SortSt Sem (ForInStep MHs):=λ_ r=>
 let na:=r.2.1;let nb:=r.2.2.1;let out:=r.2.2.2.1;let qX:=r.2.2.2.2.1;let qV:=r.2.2.2.2.2
 do
 let x <- elem' b (nb-1)
 let y <- elem' a (na-1)
 match <- lt' x y with
 | some aWins=>
  if aWins=true then do
   let na:=na-1
   let z <- elem' a na
   let out:=out.push z
   let qX:=qX+1
   let qV:=0
   if (na == 0)=true then pure (.done (some (OF a b out na nb),na,nb,out,qX,qV))
   else if qX>=mg then pure (.done (none,na,nb,out,qX,qV))
   else pure (.yield (none,na,nb,out,qX,qV))
  else do
   let nb:=nb-1
   let z <- elem' b nb
   let out:=out.push z
   let qV:=qV+1
   let qX:=0
   if (nb == 1)=true then pure (.done (some (Uk a b out na nb),na,nb,out,qX,qV))
   else if qV>=mg then pure (.done (none,na,nb,out,qX,qV))
   else pure (.yield (none,na,nb,out,qX,qV))
 | _=>pure (.done (some (OF a b out na nb),na,nb,out,qX,qV))
noncomputable def mhD (a b:Array Keyed)(qZ qX qV:Nat)(na nb:Nat)(out:Array Keyed):StateT SortSt Sem (ForInStep MHt):=do
 let na:=na-1
 let z <- elem' a na
 let out:=out.push z
 if (na == 0)=true then pure (.done (some (OF a b out na nb),na,nb,out,qZ,qX,qV))
 else if (decide (qX<7) && decide (qV<7))=true then pure (.done (none,na,nb,out,qZ,qX,qV))
 else pure (.yield (none,na,nb,out,qZ,qX,qV))
noncomputable def mhC (a b:Array Keyed)(qZ qX qV:Nat)(na nb:Nat)(out:Array Keyed):StateT SortSt Sem (ForInStep MHt):=do
 let nb:=nb-1
 let z <- elem' b nb
 let out:=out.push z
 if (nb == 1)=true then pure (.done (some (Uk a b out na nb),na,nb,out,qZ,qX,qV))
 else do
  let y <- elem' a (na-1)
  match <- Ol true y b 0 nb (nb-1) with
  | some at_=>
   let k:=nb-at_
   let qV:=k
   if k > 0 then
    let out:=out++(b.extract at_ nb).reverse
    let nb:=at_
    if (nb == 1)=true then pure (.done (some (Uk a b out na nb),na,nb,out,qZ,qX,qV))
    else if (nb == 0)=true then pure (.done (some (OF a b out na nb),na,nb,out,qZ,qX,qV))
    else mhD a b qZ qX qV na nb out
   else mhD a b qZ qX qV na nb out
  | _=>pure (.done (some (OF a b out na nb),na,nb,out,qZ,qX,qV))
noncomputable def mhB (a b:Array Keyed)(qZ qX qV:Nat)(na nb:Nat)(out:Array Keyed):StateT SortSt Sem (ForInStep MHt):=do
 U8 qZ
 let x <- elem' b (nb-1)
 match <- Ol false x a 0 na (na-1) with
 | some at_=>
  let k:=na-at_
  let qX:=k
  if k > 0 then
   let out:=out++(a.extract at_ na).reverse
   let na:=at_
   if (na == 0)=true then pure (.done (some (OF a b out na nb),na,nb,out,qZ,qX,qV))
   else mhC a b qZ qX qV na nb out
  else mhC a b qZ qX qV na nb out
 | _=>pure (.done (some (OF a b out na nb),na,nb,out,qZ,qX,qV))
noncomputable def Zb2 (a b:Array Keyed):Nat->MHt->StateT SortSt Sem (ForInStep MHt):=λ_ r=>
 let na:=r.2.1;let nb:=r.2.2.1;let out:=r.2.2.2.1;let qZ:=r.2.2.2.2.1;let qX:=r.2.2.2.2.2.1;let qV:=r.2.2.2.2.2.2
 if qZ > 1 then mhB a b (qZ-1) qX qV na nb out else mhB a b qZ qX qV na nb out
noncomputable def Zb3 (a b:Array Keyed):Nat->MHo->StateT SortSt Sem (ForInStep MHo):=λ_ r=>
 let na:=r.2.1;let nb:=r.2.2.1;let out:=r.2.2.2.1;let qZ:=r.2.2.2.2
 do
 let r <- forIn [:a.size+b.size] ((none,na,nb,out,0,0):MHs) (Zb1 a b qZ)
 match r.1 with
 | some x=>pure (.done (some x,r.2.1,r.2.2.1,r.2.2.2.1,qZ))
 | none=>do
  liftM (rule "list.sort.gallop")
  let r <- forIn [:a.size+b.size] ((none,r.2.1,r.2.2.1,r.2.2.2.1,qZ+1,r.2.2.2.2.1,r.2.2.2.2.2):MHt) (Zb2 a b)
  match r.1 with
  | some x=>pure (.done (some x,r.2.1,r.2.2.1,r.2.2.2.1,r.2.2.2.2.1))
  | none=>do
   U8 (r.2.2.2.2.1+1)
   pure (.yield (none,r.2.1,r.2.2.1,r.2.2.2.1,r.2.2.2.2.1+1))
theorem XB (a b:Array Keyed):V9 a b=(do
  liftM (rule "list.sort.merge-hi")
  let x <- elem' a (a.size-1)
  let out:=#[x]
  if (a.size-1 == 0)=true then pure (OF a b out (a.size-1) b.size)
  else if (b.size == 1)=true then pure (Uk a b out (a.size-1) b.size)
  else do
   let st <- get
   let r <- forIn [:a.size+b.size] ((none,a.size-1,b.size,out,gallopOf st):MHo) (Zb3 a b)
   match r.1 with
   | some r=>pure r
   | none=>liftM (unsupported "internal:list.sort.merge-bound")):=by
 refine Js (m:=liftM (rule "list.sort.merge-hi")) λ_=>?_;refine Js (m:=elem' a (a.size-1)) λx=>?_;refine Wb (c:=(a.size-1 == 0)=true) rfl ?_;refine Wb (c:=(b.size == 1)=true) rfl ?_;refine Js (m:=get) λst=>?_;refine (Ybc (λm:StateT SortSt Sem MHo=>m >>= _) (U9 (r:=[:a.size+b.size]) (c:=((none,a.size-1,b.size,#[x],gallopOf st):MHo)) (g:=Zb3 a b) λi r=>?_)).trans ?_;rotate_left
 ·refine Js λr=>?_;obtain ⟨r1,r2⟩:=r;cases r1 <;> rfl
 unfold Zb3;refine (Ybc (λm:StateT SortSt Sem MHs=>m >>= _) (U9 (r:=[:a.size+b.size]) (g:=Zb1 a b r.2.2.2.2) λi r=>rfl)).trans ?_;refine Js λq=>?_;obtain ⟨q1,q2⟩:=q;cases q1 with
 | some z=>rfl
 | none=>
  refine Js (m:=liftM (rule "list.sort.gallop")) λ_=>?_;refine (Ybc (λm:StateT SortSt Sem MHt=>m >>= _) (U9 (r:=[:a.size+b.size]) (g:=Zb2 a b) λi r=>rfl)).trans ?_;refine Js λq=>?_;obtain ⟨q1,q2⟩:=q;cases q1 <;> rfl
section
variable {b:Keyed->Keyed->Bool}
structure MrgH (b:Keyed->Keyed->Bool)(all out ra rb:List Keyed):Prop where
 perm:(ra++rb++out).Perm all
 so:out.Pairwise (kle b)
 le:∀x∈ra++rb,∀y∈out,kle b x y
 sa:ra.Pairwise (kle b)
 sb:rb.Pairwise (kle b)
theorem MrgH.len {all out ra rb:List Keyed}(h:MrgH b all out ra rb):ra.length+rb.length+out.length=all.length:=by
 have:=h.perm.length_eq;rw [Yai,Yai] at this;exact this
theorem MrgH.moveB {all out u ra rb:List Keyed}(h:MrgH b all out ra (rb++u))(hu:∀x∈u,∀y∈ra,kle b y x):MrgH b all (u++out) ra rb:=by
 have sb:=Ybv.mp h.sb;refine ⟨?_,Ybv.mpr ⟨sb.2.1,h.so,λx hx y hy=>h.le x (by simp [hx]) y hy⟩,λx hx y hy=>?_,h.sa,sb.1⟩
 ·have:=h.perm;simp only [Ybs] at this ⊢;exact this
 ·rcases Yag.mp hy with hy | hy
  ·rcases Yag.mp hx with hx | hx
   ·exact hu y hy x hx
   ·exact sb.2.2 x hx y hy
  ·refine h.le x ?_ y hy;rcases Yag.mp hx with hx | hx <;> simp [hx]
theorem MrgH.moveA {all out u ra rb:List Keyed}(h:MrgH b all out (ra++u) rb)(hu:∀x∈u,∀y∈rb,kle b y x):MrgH b all (u++out) ra rb:=by
 have sa:=Ybv.mp h.sa;refine ⟨?_,Ybv.mpr ⟨sa.2.1,h.so,λx hx y hy=>h.le x (by simp [hx]) y hy⟩,λx hx y hy=>?_,sa.1,h.sb⟩
 ·refine List.Perm.trans ?_ h.perm;simp only [Ybs];refine Yga _ ?_;rw [<-Ybs,<-Ybs];exact List.Perm.append_right _ List.perm_append_comm
 ·rcases Yag.mp hy with hy | hy
  ·rcases Yag.mp hx with hx | hx
   ·exact sa.2.2 x hx y hy
   ·exact hu y hy x hx
  ·refine h.le x ?_ y hy;rcases Yag.mp hx with hx | hx <;> simp [hx]
theorem MrgH.endA {all out ra rb:List Keyed}(h:MrgH b all out ra rb)(hz:∀x∈ra,∀y∈rb,kle b x y):JA b all (ra++rb++out):=
 ⟨h.perm,Ybv.mpr ⟨Ybv.mpr ⟨h.sa,h.sb,hz⟩,h.so,h.le⟩⟩
theorem MrgH.endB {all out ra rb:List Keyed}(h:MrgH b all out ra rb)(hz:∀x∈rb,∀y∈ra,kle b x y):JA b all (rb++ra++out):=by
 refine ⟨List.Perm.trans (List.Perm.append_right _ List.perm_append_comm) h.perm,Ybv.mpr ⟨Ybv.mpr ⟨h.sb,h.sa,hz⟩,h.so,λx hx y hy=>h.le x ?_ y hy⟩⟩;rcases Yag.mp hx with hx | hx <;> simp [hx]
end
theorem Yj (a:Array Keyed)(k:Nat):(a.extract 0 k).toList=a.toList.take k:=by
 rw [Yfu,Yfv,List.drop_zero,Nat.sub_zero]
theorem Zaw (a:Array Keyed){i j:Nat}(h:i<=j):a.toList.take j=a.toList.take i++(a.extract i j).toList:=by
 rw [Yfu,Yfv];have:=Ydb i (a.toList.take j);rw [List.take_take,Yeh h,List.drop_take] at this;exact this.symm
theorem Zax {a:Array Keyed}{i:Nat}{x:Keyed}(h:a[i]?=some x):a.toList.take (i+1)=a.toList.take i++[x]:=by
 rw [<-Yay] at h;rw [Ybz,h]
 rfl
theorem Zb4 {arr:Array Keyed}{k:Nat}{x:Keyed}(h:x∈arr.toList.take k):∃i,i<k/\arr[i]?=some x:=by
 obtain ⟨i,hi⟩:=Yfw.mp h;rw [Yey] at hi;split at hi
 ·rw [Yay] at hi;exact ⟨i,by assumption,hi⟩
 ·cases hi
theorem XC {arr:Array Keyed}{i j:Nat}{x:Keyed}(h:x∈(arr.extract i j).toList):∃k,i<=k/\k<j/\arr[k]?=some x:=by
 rw [Yfu,Yfv] at h;obtain ⟨k,hk⟩:=Yfw.mp h;rw [Yey] at hk;split at hk
 ·rw [Yez,Yay] at hk;exact ⟨i+k,by lia,by lia,hk⟩
 ·cases hk
section
variable {M:Model}{A:Around}{E:EX}{s:Shared}{kd:SortKind}{b:Keyed->Keyed->Bool}{good:Keyed->Prop}{a c:Array Keyed}
noncomputable def MH (b:Keyed->Keyed->Bool)(a c:Array Keyed)(na nb:Nat)(out:Array Keyed):Prop:=MrgH b (a.toList++c.toList) out.toList.reverse (a.toList.take na) (c.toList.take nb)
theorem Zay (W:WO b){arr:Array Keyed}{hi:Nat}(h:(arr.toList.take hi).Pairwise (kle b)):Rng b arr 0 (0+hi):=λi j x y h1 h2 h3 e1 e2=>by
 refine ZbZ (i:=i) (j:=j) W h h2 ?_ ?_
 ·rw [Yey,if_pos (by lia),Yay];exact e1
 ·rw [Yey,if_pos (by lia),Yay];exact e2
theorem MH.done {out:Array Keyed}{na nb:Nat}(h:MH b a c na nb out)(e:na=0\/nb=0):JA b (a.toList++c.toList) (OF a c out na nb).toList:=by
 unfold OF;rw [Ycx,Ycx,Yj,Yj,Yep];refine MrgH.endA h λx hx y hy=>?_;rcases e with e | e
 ·rw [e] at hx;simp at hx
 ·rw [e] at hy;simp at hy
theorem MH.first {out:Array Keyed}{na nb:Nat}(T:Two b good a c)(h:MH b a c na nb out)(e:nb=1):JA b (a.toList++c.toList) (Uk a c out na nb).toList:=by
 unfold Uk;rw [Ycx,Ycx,Yj,Yj,Yep];refine MrgH.endB h λx hx y hy=>?_;obtain ⟨i,hi,ex⟩:=Zb4 hx;have:i=0:=by lia
 subst this;exact T.first x ex y (Yfa hy)
theorem MH.pushB {out:Array Keyed}{na nb:Nat}{x:Keyed}(h:MH b a c na (nb+1) out)(hx:c[nb]?=some x)(hl:∀y∈a.toList.take na,kle b y x):MH b a c na nb (out.push x):=by
 unfold MH at h ⊢;rw [Yem,List.reverse_append];rw [Zax hx] at h;exact MrgH.moveB (u:=[x]) h λz hz y hy=>by
  have:z=x:=by simpa using hz
  subst this;exact hl y hy
theorem MH.pushA {out:Array Keyed}{na nb:Nat}{x:Keyed}(h:MH b a c (na+1) nb out)(hx:a[na]?=some x)(hl:∀y∈c.toList.take nb,kle b y x):MH b a c na nb (out.push x):=by
 unfold MH at h ⊢;rw [Yem,List.reverse_append];rw [Zax hx] at h;exact MrgH.moveA (u:=[x]) h λz hz y hy=>by
  have:z=x:=by simpa using hz
  subst this;exact hl y hy
theorem MH.takeA {out:Array Keyed}{na nb k:Nat}(h:MH b a c na nb out)(hk:k<=na)(hl:∀x∈(a.extract k na).toList,∀y∈c.toList.take nb,kle b y x):MH b a c k nb (out++(a.extract k na).reverse):=by
 unfold MH at h ⊢;rw [Ycx,Yep,List.reverse_append,List.reverse_reverse];rw [Zaw a hk] at h;exact MrgH.moveA h hl
theorem MH.takeB {out:Array Keyed}{na nb k:Nat}(h:MH b a c na nb out)(hk:k<=nb)(hl:∀x∈(c.extract k nb).toList,∀y∈a.toList.take na,kle b y x):MH b a c na k (out++(c.extract k nb).reverse):=by
 unfold MH at h ⊢;rw [Ycx,Yep,List.reverse_append,List.reverse_reverse];rw [Zaw c hk] at h;exact MrgH.moveB h hl
theorem Wd (W:WO b){arr:Array Keyed}{k:Nat}{x:Keyed}(h:(arr.toList.take (k+1)).Pairwise (kle b))(hx:arr[k]?=some x):∀y∈arr.toList.take (k+1),kle b y x:=λy hy=>by
 obtain ⟨i,hi,ey⟩:=Zb4 hy;exact Zay W h i k y x (Yar _) (by lia) (by lia) ey hx
theorem Zaz (W:WO b)(L:Uc M A E s kd b good)(T:Two b good a c){out:Array Keyed}{na nb mg:Nat}{st:SortSt}(hs:kindOf st=kd)(h:MH b a c na nb out)(h1:0<na/\na<=a.size)(h2:1<nb/\nb<=c.size){Q:MHs->SortSt->Prop}(q1:∀r y st',SameG st st'->JA b (a.toList++c.toList) r.toList->Q (some r,y) st')(q2:∀na' nb' out' ac bc st',SameG st st'->MH b a c na' nb' out'->(0<na'/\na'<=a.size)->(1<nb'/\nb'<=c.size)->out.size<out'.size->Q (none,na',nb',out',ac,bc) st') :
  wpS M A E s (forIn [:a.size+c.size] ((none,na,nb,out,0,0):MHs) (Zb1 a c mg)) Q st:=by
 refine Ycd (λk r st'=>SameG st st'/\∃na' nb' out' ac bc,r=(none,na',nb',out',ac,bc)/\MH b a c na' nb' out'/\(0<na'/\na'<=a.size)/\(1<nb'/\nb'<=c.size)/\out.size+k<=out'.size) ?_ ?_ ⟨SameG.refl _,_,_,_,_,_,rfl,h,h1,h2,Yad _⟩
 ·rintro k r st1 _ hk ⟨sg,na',nb',out',ac,bc,rfl,h,h1,h2,h3⟩;have hs1:kindOf st1=kd:=sg.1.trans hs;obtain ⟨na',rfl⟩:∃n,na'=n+1:=⟨na' - 1,by lia⟩;obtain ⟨nb',rfl⟩:∃n,nb'=n+1:=⟨nb' - 1,by lia⟩;unfold Zb1;dsimp only [Nat.add_sub_cancel];obtain ⟨x,hx,gx⟩:=T.ct (i:=nb') (by lia);obtain ⟨y,hy,gy⟩:=T.at (i:=na') (by lia);refine Yae (Gx hx (Yae (Gx hy (Yae (L x y st1 _ gx gy hs1 ?_)))));dsimp only;cases hb:b x y with
  | true=>
   rw [if_pos rfl];refine Yae (Gx hy ?_);have h':=h.pushA hy λz hz=>W.le_trans (Wd W h.sb hx z hz) (W.le_of_lt hb);split
   ·rename_i e;exact Yaf (q1 _ _ _ sg (h'.done (.inl (eq_of_beq e))))
   ·rename_i e;have e:0<na':=by
     have:na'≠0:=λz=>e (Ybg.mpr z)
     lia
    split
    ·exact Yaf (q2 _ _ _ _ _ _ sg h' ⟨e,by lia⟩ h2 (by rw [Ycn];lia))
    ·exact Yaf ⟨sg,_,_,_,_,_,rfl,h',⟨e,by lia⟩,h2,by rw [Ycn];lia⟩
  | false=>
   rw [if_neg Yam];refine Yae (Gx hx ?_);have h':=h.pushB hx λz hz=>W.le_trans (Wd W h.sa hy z hz) hb;split
   ·rename_i e;exact Yaf (q1 _ _ _ sg (h'.first T (eq_of_beq e)))
   ·rename_i e;have e:1<nb':=by
     have:nb'≠1:=λz=>e (Ybg.mpr z)
     lia
    split
    ·exact Yaf (q2 _ _ _ _ _ _ sg h' h1 ⟨e,by lia⟩ (by rw [Ycn];lia))
    ·exact Yaf ⟨sg,_,_,_,_,_,rfl,h',h1,⟨e,by lia⟩,by rw [Ycn];lia⟩
 ·rintro r st1 ⟨sg,na',nb',out',ac,bc,rfl,h,h1,h2,h3⟩;exact q2 _ _ _ _ _ _ sg h h1 h2 (by have:=T.na;simp at h3;lia)
section
variable {out:Array Keyed}{na nb:Nat}{st:SortSt}{Q:ForInStep MHt->SortSt->Prop}
structure Zb5 (b:Keyed->Keyed->Bool)(a c:Array Keyed)(n:Nat)(st:SortSt)(Q:ForInStep MHt->SortSt->Prop):Prop where
 fin:∀r y st',SameG st st'->JA b (a.toList++c.toList) r.toList->Q (.done (some r,y)) st'
 brk:∀na' nb' out' y st',SameG st st'->MH b a c na' nb' out'->(0<na'/\na'<=a.size)->(1<nb'/\nb'<=c.size)->n<=out'.size->Q (.done (none,na',nb',out',y)) st'
 go:∀na' nb' out' y st',SameG st st'->MH b a c na' nb' out'->(0<na'/\na'<=a.size)->(1<nb'/\nb'<=c.size)->n<=out'.size->Q (.yield (none,na',nb',out',y)) st'
theorem ZaA (T:Two b good a c){mg ac bc n:Nat}(R:Zb5 b a c n st Q)(h:MH b a c (na+1) nb out)(h1:na+1<=a.size)(h2:1<nb/\nb<=c.size)(hn:n<=out.size)(hl:∀x,a[na]?=some x->∀y∈c.toList.take nb,kle b y x) :
  wpS M A E s (mhD a c mg ac bc (na+1) nb out) Q st:=by
 unfold mhD;dsimp only [Nat.add_sub_cancel];obtain ⟨x,hx,gx⟩:=T.at (i:=na) (by lia);refine Yae (Gx hx ?_);have h':=h.pushA hx (hl x hx);have hn':n<=(out.push x).size:=by rw [Ycn];lia
 split
 ·rename_i e;exact Yaf (R.fin _ _ _ (SameG.refl _) (h'.done (.inl (eq_of_beq e))))
 ·rename_i e;have e:0<na:=by
   have:na≠0:=λz=>e (Ybg.mpr z)
   lia
  split
  ·exact Yaf (R.brk _ _ _ _ _ (SameG.refl _) h' ⟨e,by lia⟩ h2 hn')
  ·exact Yaf (R.go _ _ _ _ _ (SameG.refl _) h' ⟨e,by lia⟩ h2 hn')
theorem ZaB (W:WO b)(L:Uc M A E s kd b good)(T:Two b good a c){mg ac bc n:Nat}(R:Zb5 b a c n st Q)(hs:kindOf st=kd)(h:MH b a c (na+1) (nb+1) out)(h1:na+1<=a.size)(h2:0<nb/\nb+1<=c.size)(hn:n<=out.size)(hl:∀x,c[nb]?=some x->∀y∈a.toList.take (na+1),kle b y x):wpS M A E s (mhC a c mg ac bc (na+1) (nb+1) out) Q st:=by
 unfold mhC;dsimp only [Nat.add_sub_cancel];obtain ⟨x,hx,gx⟩:=T.ct (i:=nb) (by lia);obtain ⟨y,hy,gy⟩:=T.at (i:=na) (by lia);refine Yae (Gx hx ?_);have h':=h.pushB hx (hl x hx);have hn':n<=(out.push x).size:=by rw [Ycn];lia
 generalize out.push x=out1 at h' hn';split
 ·rename_i e;exact Yaf (R.fin _ _ _ (SameG.refl _) (h'.first T (eq_of_beq e)))
 ·rename_i e;have e:1<nb:=by
   have:nb≠1:=λz=>e (Ybg.mpr z)
   lia
  refine Yae (Gx hy ?_);have G:Gal b good true y c 0 nb:=VE W gy (λi hi=>by rw [Ydh];exact T.ct (by lia)) (Zay W h'.sb);refine Yae (JH L G hs (by lia) λk hk k1 k2=>?_);dsimp only;have tk:∀z∈(c.extract k nb).toList,∀v∈a.toList.take (na+1),kle b v z:=λz hz v hv=>by
   obtain ⟨i,hi,hj,ez⟩:=XC hz;have:=k2 i hi hj;unfold byd at this;rw [Ydh,ez] at this;dsimp only at this;rw [if_pos rfl] at this;exact W.le_trans (Wd W h'.sa hy v hv) this
  have tr:∀v∈c.toList.take k,kle b v y:=λv hv=>by
   obtain ⟨i,hi,ev⟩:=Zb4 hv;have:=k1 i hi;unfold byd at this;rw [Ydh,ev] at this;dsimp only at this;rw [if_pos rfl] at this;exact W.le_of_lt this
  split
  ·have h3:=h'.takeB hk tk;have hn3:n<=(out1++(c.extract k nb).reverse).size:=by rw [Array.size_append];lia
   split
   ·rename_i e2;exact Yaf (R.fin _ _ _ (SameG.refl _) (h3.first T (eq_of_beq e2)))
   ·rename_i e2;split
    ·rename_i e3;exact Yaf (R.fin _ _ _ (SameG.refl _) (h3.done (.inr (eq_of_beq e3))))
    ·rename_i e3;have e4:1<k:=by
      have:k≠1:=λz=>e2 (Ybg.mpr z);have:k≠0:=λz=>e3 (Ybg.mpr z)
      lia
     exact ZaA T R h3 h1 ⟨e4,by lia⟩ hn3 λx' hx' v hv=>by
      rw [hy] at hx';cases hx';exact tr v hv
  ·have:k=nb:=by lia
   subst this;exact ZaA T R h' h1 ⟨e,by lia⟩ hn' λx' hx' v hv=>by
    rw [hy] at hx';cases hx';exact tr v hv
theorem ZdG (W:WO b)(L:Uc M A E s kd b good)(T:Two b good a c){mg ac bc n:Nat}(R:∀st',SameG st st'->Zb5 b a c n st' Q)(hs:kindOf st=kd)(h:MH b a c na (nb+1) out)(h1:0<na/\na<=a.size)(h2:0<nb/\nb+1<=c.size)(hn:n<=out.size) :
  wpS M A E s (mhB a c mg ac bc na (nb+1) out) Q st:=by
 unfold mhB;refine Yae (Ox λst1 sg=>?_);have R:=R st1 sg;have hs1:kindOf st1=kd:=sg.1.trans hs;dsimp only [Nat.add_sub_cancel];obtain ⟨x,hx,gx⟩:=T.ct (i:=nb) (by lia);refine Yae (Gx hx ?_);have G:Gal b good false x a 0 na:=VE W gx (λi hi=>by rw [Ydh];exact T.at (by lia)) (Zay W h.sa);refine Yae (JH L G hs1 (by lia) λk hk k1 k2=>?_);dsimp only;have tk:∀z∈(a.extract k na).toList,∀v∈c.toList.take (nb+1),kle b v z:=λz hz v hv=>by
  obtain ⟨i,hi,hj,ez⟩:=XC hz;have:=k2 i hi hj;unfold byd at this;rw [Ydh,ez] at this;dsimp only at this;rw [if_neg Yam,Bool.not_eq_false'] at this;exact W.le_trans (Wd W h.sb hx v hv) (W.le_of_lt this)
 have tr:∀v∈a.toList.take k,kle b v x:=λv hv=>by
  obtain ⟨i,hi,ev⟩:=Zb4 hv;have:=k1 i hi;unfold byd at this;rw [Ydh,ev] at this;dsimp only at this;rw [if_neg Yam,Bool.not_eq_true'] at this;exact this
 split
 ·have h3:=h.takeA hk tk;have hn3:n<=(out++(a.extract k na).reverse).size:=by rw [Array.size_append];lia
  split
  ·rename_i e2;exact Yaf (R.fin _ _ _ (SameG.refl _) (h3.done (.inl (eq_of_beq e2))))
  ·rename_i e2;have:k≠0:=λz=>e2 (Ybg.mpr z);obtain ⟨k,rfl⟩:∃n,k=n+1:=⟨k-1,by lia⟩;exact ZaB W L T R hs1 h3 (by lia) h2 hn3 λx' hx' v hv=>by
    rw [hx] at hx';cases hx';exact tr v hv
 ·have:k=na:=by lia
  subst this;obtain ⟨k,rfl⟩:∃n,k=n+1:=⟨k-1,by lia⟩;exact ZaB W L T R hs1 h (by lia) h2 hn λx' hx' v hv=>by
   rw [hx] at hx';cases hx';exact tr v hv
end
theorem ZaC (W:WO b)(L:Uc M A E s kd b good)(T:Two b good a c){out:Array Keyed}{na nb n:Nat}{y:Nat×Nat×Nat}{st:SortSt}(hs:kindOf st=kd)(h:MH b a c na nb out)(h1:0<na/\na<=a.size)(h2:1<nb/\nb<=c.size){Q:MHt->SortSt->Prop}(q1:∀r y st',SameG st st'->JA b (a.toList++c.toList) r.toList->Q (some r,y) st')(q2:∀na' nb' out' y st',SameG st st'->MH b a c na' nb' out'->(0<na'/\na'<=a.size)->(1<nb'/\nb'<=c.size)->out.size<=out'.size->Q (none,na',nb',out',y) st') :
  wpS M A E s (forIn [:n] ((none,na,nb,out,y):MHt) (Zb2 a c)) Q st:=by
 refine Ycd (λk r st'=>SameG st st'/\∃na' nb' out' y,r=(none,na',nb',out',y)/\MH b a c na' nb' out'/\(0<na'/\na'<=a.size)/\(1<nb'/\nb'<=c.size)/\out.size<=out'.size) ?_ ?_ ⟨SameG.refl _,_,_,_,_,rfl,h,h1,h2,Yad _⟩
 ·rintro k r st1 _ hk ⟨sg,na',nb',out',y,rfl,h,h1,h2,h3⟩;have hs1:kindOf st1=kd:=sg.1.trans hs;have R:∀st',SameG st1 st'->Zb5 b a c out.size st' (λr st'=>match r with
   | .done c'=>Q c' st'
   | .yield c'=>SameG st st'/\∃na' nb' out' y,c'=(none,na',nb',out',y)/\MH b a c na' nb' out'/\(0<na'/\na'<=a.size)/\(1<nb'/\nb'<=c.size)/\out.size<=out'.size):=λst' sg'=>
   ⟨λr y st2 g m=>q1 r y st2 ((sg.trans sg').trans g) m,λo i j y st2 g m p1 p2 p3=>q2 o i j y st2 ((sg.trans sg').trans g) m p1 p2 p3,λo i j y st2 g m p1 p2 p3=>⟨(sg.trans sg').trans g,o,i,j,y,rfl,m,p1,p2,p3⟩⟩
  unfold Zb2;dsimp only;obtain ⟨nb',rfl⟩:∃n,nb'=n+1:=⟨nb' - 1,by lia⟩;have mono:∀mg,wpS M A E s (mhB a c mg y.2.1 y.2.2 na' (nb'+1) out') _ st1:=λmg=>ZdG W L T R hs1 h h1 ⟨by lia,h2.2⟩ h3;split
  ·exact wpS_mono (mono _) λr st' hr=>by cases r <;> exact hr
  ·exact wpS_mono (mono _) λr st' hr=>by cases r <;> exact hr
 ·rintro r st1 ⟨sg,na',nb',out',y,rfl,h,h1,h2,h3⟩;exact q2 _ _ _ _ _ sg h h1 h2 h3
theorem XD (W:WO b)(L:Uc M A E s kd b good)(T:Two b good a c){st:SortSt}(hs:kindOf st=kd){Q:Array Keyed->SortSt->Prop}(q:∀r st',SameG st st'->JA b (a.toList++c.toList) r.toList->Q r st'):wpS M A E s (V9 a c) Q st:=by
 rw [XB];refine Yae (wpS_lift (Yds ⟨rfl,?_⟩));have hc:=T.nc;have ha:=T.na;obtain ⟨x,hx,gx⟩:=T.at (i:=a.size-1) (by lia);refine Yae (Gx hx ?_);have h0:MH b a c (a.size-1) c.size #[x]:=by
  have z:MH b a c (a.size-1+1) c.size #[]:=by
   unfold MH;rw [Nat.sub_add_cancel (by lia),Yew (by simp),Yew (by simp)];exact ⟨by simp,by simp,by simp,T.sa,T.sc⟩
  exact z.pushA hx λy hy=>T.last x hx y (Yfa hy)
 dsimp only;split
 ·rename_i e;exact Yaf (q _ _ (SameG.refl _) (h0.done (.inl (eq_of_beq e))))
 ·rename_i e;have e:0<a.size-1:=by
   have:a.size-1≠0:=λz=>e (Ybg.mpr z)
   lia
  split
  ·rename_i e2;exact Yaf (q _ _ (SameG.refl _) (h0.first T (eq_of_beq e2)))
  ·rename_i e2;have e2:1<c.size:=by
    have:c.size≠1:=λz=>e2 (Ybg.mpr z)
    lia
   refine Yae (wpS_get ?_);refine Yae (Ycd (λk r st'=>SameG st st'/\∃na' nb' out' mg,r=(none,na',nb',out',mg)/\MH b a c na' nb' out'/\(0<na'/\na'<=a.size)/\(1<nb'/\nb'<=c.size)/\k<out'.size) ?_ ?_ ⟨SameG.refl _,_,_,_,_,rfl,h0,⟨e,by lia⟩,⟨e2,Yad _⟩,by simp⟩)
   ·rintro k r st1 _ hk ⟨sg,na',nb',out',mg,rfl,h,h1,h2,h3⟩;have hs1:kindOf st1=kd:=sg.1.trans hs;unfold Zb3;dsimp only;refine Yae (Zaz W L T hs1 h h1 h2 (λr y st2 g m=>?_) (λo i j ac bc st2 g m p1 p2 p3=>?_))
    ·refine Yaf ?_;dsimp only;exact Yaf (q r st2 (sg.trans g) m)
    ·dsimp only;refine Yae (wpS_lift (Yds ⟨rfl,?_⟩));refine Yae (ZaC W L T (g.1.trans hs1) m p1 p2 (λr y st3 g3 m3=>?_) (λo3 i3 j3 y3 st3 g3 m3 r1 r2 r3=>?_))
     ·refine Yaf ?_;dsimp only;exact Yaf (q r st3 ((sg.trans g).trans g3) m3)
     ·dsimp only;refine Yae (Ox λst4 g4=>?_);exact Yaf ⟨((sg.trans g).trans g3).trans g4,_,_,_,_,rfl,m3,r1,r2,by lia⟩
   ·rintro r st1 ⟨sg,na',nb',out',mg,rfl,h,h1,h2,h3⟩;exfalso;have:=MrgH.len h;rw [Yai,Ybm,Ybm,List.length_reverse,Yan,Yan,Yan] at this;simp at h3
    lia
end
noncomputable abbrev Asc:=Option (Option Nat)×Nat
noncomputable abbrev Dsc:=Option (Option Nat)×Nat×Nat
noncomputable def ZdH (lo:Nat):Nat->Asc->StateT SortSt Sem (ForInStep Asc):=λ_ r=>do
 match <- ltAt' (lo+r.2) (lo+r.2-1) with
 | some smaller=>if smaller=true then pure (.done (none,r.2)) else pure (.yield (none,r.2+1))
 | _=>pure (.done (some none,r.2))
noncomputable def Zge (lo:Nat):Nat->Dsc->StateT SortSt Sem (ForInStep Dsc):=λ_ r=>do
 match <- ltAt' (lo+r.2.1) (lo+r.2.1-1) with
 | some smaller=>
  if smaller=true then
   if r.2.2 > 0 then do
    reverseSlice' (lo+r.2.1-(r.2.2+1)) (lo+r.2.1)
    pure (.yield (none,r.2.1+1,0))
   else pure (.yield (none,r.2.1+1,0))
  else do
   match <- ltAt' (lo+r.2.1-1) (lo+r.2.1) with
   | some larger=>if larger=true then pure (.done (none,r.2.1,r.2.2)) else pure (.yield (none,r.2.1+1,r.2.2+1))
   | _=>pure (.done (some none,r.2.1,r.2.2))
 | _=>pure (.done (some none,r.2.1,r.2.2))
noncomputable def WX (lo n qU:Nat):StateT SortSt Sem (Option Nat):=do
 reverseSlice' lo (lo+n)
 let r <- forIn [n:qU] ((none,n):Asc) (ZdH lo)
 match r.1 with
 | some x=>pure x
 | none=>pure (some r.2)
noncomputable def Za (lo n qU:Nat):StateT SortSt Sem (Option Nat):=do
 liftM (rule "list.sort.descending-run")
 let r <- forIn [n+1:qU] ((none,n+1,0):Dsc) (Zge lo)
 match r.1 with
 | some x=>pure x
 | none=>(if r.2.2 > 0 then (do
   reverseSlice' (lo+r.2.1-(r.2.2+1)) (lo+r.2.1)
   WX lo r.2.1 qU) else WX lo r.2.1 qU)
theorem XE (lo qU:Nat):countRun' lo qU=(do
  let r <- forIn [1:qU] ((none,1):Asc) (ZdH lo)
  match r.1 with
  | some x=>pure x
  | none=>(if (r.2 == qU)=true then pure (some r.2) else (if r.2 > 1 then (do
    match <- ltAt' lo (lo+r.2-1) with
    | some rose=>(if rose=true then pure (some r.2) else (do
      reverseSlice' lo (lo+r.2)
      Za lo r.2 qU))
    | _=>pure none)
   else Za lo r.2 qU))):=by
 rw [countRun'_eq];refine (Ybc (λm:StateT SortSt Sem Asc=>m >>= _) (U9 (r:=[1:qU]) (c:=((none,1):Asc)) (g:=ZdH lo) λi r=>rfl)).trans ?_;refine Js λr=>?_;obtain ⟨r1,r2⟩:=r;cases r1 with
 | some z=>rfl
 | none=>
  refine Wb (c:=(r2 == qU)=true) rfl ?_;refine Wb (c:=r2 > 1) ?_ ?_
  ·refine Js λz=>?_;cases z with
   | none=>rfl
   | some z=>
    refine Wb (c:=z=true) rfl ?_;refine Js λ_=>?_;unfold Za;refine Js λ_=>?_;refine (Ybc (λm:StateT SortSt Sem Dsc=>m >>= _) (U9 (r:=[r2+1:qU]) (c:=((none,r2+1,0):Dsc)) (g:=Zge lo) λi r=>rfl)).trans ?_;refine Js λr=>?_;obtain ⟨r1,r2,r3⟩:=r;cases r1 with
    | some z=>rfl
    | none=>
     refine Wb (c:=r3 > 0) (Js λ_=>?_) ?_
     all_goals
      unfold WX;refine Js λ_=>?_;refine (Ybc (λm:StateT SortSt Sem Asc=>m >>= _) (U9 (r:=[r2:qU]) (c:=((none,r2):Asc)) (g:=ZdH lo) λi r=>rfl)).trans ?_;refine Js λr=>?_;obtain ⟨r1,r2⟩:=r;cases r1 <;> rfl
  ·unfold Za;refine Js λ_=>?_;refine (Ybc (λm:StateT SortSt Sem Dsc=>m >>= _) (U9 (r:=[r2+1:qU]) (c:=((none,r2+1,0):Dsc)) (g:=Zge lo) λi r=>rfl)).trans ?_;refine Js λr=>?_;obtain ⟨r1,r2,r3⟩:=r;cases r1 with
   | some z=>rfl
   | none=>
    refine Wb (c:=r3 > 0) (Js λ_=>?_) ?_
    all_goals
     unfold WX;refine Js λ_=>?_;refine (Ybc (λm:StateT SortSt Sem Asc=>m >>= _) (U9 (r:=[r2:qU]) (c:=((none,r2):Asc)) (g:=ZdH lo) λi r=>rfl)).trans ?_;refine Js λr=>?_;obtain ⟨r1,r2⟩:=r;cases r1 <;> rfl
structure Ah (lo:Nat)(st st':SortSt):Prop where
 kd:kindOf st'=kindOf st
 pe:pendingOf st'=pendingOf st
 fa:failedOf st'=failedOf st
 pm:(arrOf st').Perm (arrOf st)
 lw:∀i,i<lo->(arrOf st')[i]?=(arrOf st)[i]?
theorem Ah.refl (lo:Nat)(st:SortSt):Ah lo st st:=⟨rfl,rfl,rfl,.refl _,λ_ _=>rfl⟩
theorem Ah.trans {lo:Nat}{st st' st'':SortSt}(h:Ah lo st st')(k:Ah lo st' st''):Ah lo st st'':=
 ⟨k.kd.trans h.kd,k.pe.trans h.pe,k.fa.trans h.fa,k.pm.trans h.pm,λi hi=>(k.lw i hi).trans (h.lw i hi)⟩
theorem Ah.size {lo:Nat}{st st':SortSt}(h:Ah lo st st'):(arrOf st').size=(arrOf st).size:=h.pm.size_eq
noncomputable def AllG (good:Keyed->Prop)(arr:Array Keyed):Prop:=∀x∈arr.toList,good x
theorem AllG.perm {good:Keyed->Prop}{a c:Array Keyed}(h:AllG good a)(p:c.Perm a):AllG good c:=λx hx=>h x (p.toList.mem_iff.mp hx)
theorem AllG.at {good:Keyed->Prop}{a:Array Keyed}(h:AllG good a){i:Nat}(hi:i<a.size):∃x,a[i]?=some x/\good x:=⟨a[i],by simp [hi],h _ (by simp)⟩
noncomputable def Zbr (b:Keyed->Keyed->Bool)(arr:Array Keyed)(lo hi:Nat):Prop:=∀i j x y,lo<=i->i<=j->j<hi->arr[i]?=some x->arr[j]?=some y->kle b y x
section
variable {M:Model}{A:Around}{E:EX}{s:Shared}{kd:SortKind}{b:Keyed->Keyed->Bool}{good:Keyed->Prop}
theorem O2 {st:SortSt}{i j:Nat}{Q:Option Bool->SortSt->Prop}(L:Uc M A E s kd b good)(hs:kindOf st=kd)(G:AllG good (arrOf st))(hi:i<(arrOf st).size)(hj:j<(arrOf st).size)(q:∀x y,(arrOf st)[i]?=some x->(arrOf st)[j]?=some y->Q (some (b x y)) st):wpS M A E s (ltAt' i j) Q st:=by
 obtain ⟨x,hx,gx⟩:=G.at hi;obtain ⟨y,hy,gy⟩:=G.at hj;rw [ltAt'_eq];refine Yae (wpS_get ?_);exact Yae (Gx hx (Yae (Gx hy (L x y st Q gx gy hs (q x y hx hy)))))
theorem ZdI (arr:Array Keyed)(W:WO b)(lo:Nat):Rng b arr lo (lo+1):=λi j x y h1 h2 h3 e1 e2=>by
 have:i=j:=by lia
 subst this;rw [e1] at e2;cases e2;exact W.le_refl _
theorem Zb6 {arr:Array Keyed}(W:WO b){lo n:Nat}{x y:Keyed}(h:Rng b arr lo (lo+n))(hn:0<n)(hx:arr[lo+n-1]?=some x)(hy:arr[lo+n]?=some y)(hxy:kle b x y):Rng b arr lo (lo+n+1):=λi j u v h1 h2 h3 e1 e2=>by
 by_cases hj:j<lo+n
 ·exact h i j u v h1 h2 hj e1 e2
 ·have:j=lo+n:=by lia
  subst this;rw [hy] at e2;cases e2;by_cases hi:i=lo+n
  ·subst hi;rw [hy] at e1;cases e1;exact W.le_refl _
  ·exact W.le_trans (h i (lo+n-1) u x h1 (by lia) (by lia) e1 hx) hxy
theorem Om {arr:Array Keyed}(W:WO b){lo n:Nat}{x y:Keyed}(h:Zbr b arr lo (lo+n))(hn:0<n)(hx:arr[lo+n-1]?=some x)(hy:arr[lo+n]?=some y)(hxy:kle b y x):Zbr b arr lo (lo+n+1):=λi j u v h1 h2 h3 e1 e2=>by
 by_cases hj:j<lo+n
 ·exact h i j u v h1 h2 hj e1 e2
 ·have:j=lo+n:=by lia
  subst this;rw [hy] at e2;cases e2;by_cases hi:i=lo+n
  ·subst hi;rw [hy] at e1;cases e1;exact W.le_refl _
  ·exact W.le_trans hxy (h i (lo+n-1) u x h1 (by lia) (by lia) e1 hx)
theorem ZaD (W:WO b)(L:Uc M A E s kd b good){st:SortSt}{lo a qU:Nat}{Q:Asc->SortSt->Prop}(hs:kindOf st=kd)(G:AllG good (arrOf st))(hn:lo+qU<=(arrOf st).size)(h1:1<=a)(h2:a<=qU)(h3:Rng b (arrOf st) lo (lo+a))(q:∀n,a<=n->n<=qU->Rng b (arrOf st) lo (lo+n)->(n=qU\/∃x y,(arrOf st)[lo+n-1]?=some x/\(arrOf st)[lo+n]?=some y/\b y x=true)->Q (none,n) st):wpS M A E s (forIn [a:qU] ((none,a):Asc) (ZdH lo)) Q st:=by
 refine Ycd (λk r st'=>st'=st/\r=(none,k)/\a<=k/\k<=qU/\Rng b (arrOf st) lo (lo+k)) ?_ ?_ ⟨rfl,rfl,Yad _,h2,h3⟩
 ·rintro k r st' _ hk ⟨rfl,rfl,h4,h5,h6⟩;unfold ZdH;refine Yae (O2 L hs G (by show lo+k<_;lia) (by show lo+k-1<_;lia) λy x hy hx=>?_);dsimp only;split
  ·rename_i hb;exact Yaf (q k h4 h5 h6 (.inr ⟨x,y,hx,hy,hb⟩))
  ·rename_i hb;exact Yaf ⟨rfl,rfl,by lia,by lia,Zb6 W h6 (by lia) hx hy (Yev.mpr hb)⟩
 ·rintro r st' ⟨rfl,rfl,h4,h5,h6⟩;rw [Nat.max_eq_right h2] at h6 ⊢;exact q qU h2 (Yad _) h6 (.inl rfl)
noncomputable def ZaE (b:Keyed->Keyed->Bool)(arr:Array Keyed)(lo hi:Nat):Prop:=∀i j x y,lo<=i->i<hi->lo<=j->j<hi->arr[i]?=some x->arr[j]?=some y->kle b x y
theorem O3 {st:SortSt}{lo i j:Nat}(h:lo<=i)(hj:j<=(arrOf st).size):Ah lo st (setArr st (mirror (arrOf st) i j ((j-i) / 2))):=by
 refine ⟨rfl,rfl,rfl,mirror_perm _ _ _ _,λk hk=>?_⟩;show (mirror (arrOf st) i j ((j-i) / 2))[k]?=_;rw [Yfd hj,if_neg (by lia)]
theorem Zb {arr:Array Keyed}{lo hi:Nat}(hj:hi<=arr.size)(h:Zbr b arr lo hi):Rng b (mirror arr lo hi ((hi-lo) / 2)) lo hi:=λi j x y h1 h2 h3 e1 e2=>by
 rw [Yfd hj,if_pos (by lia)] at e1 e2;exact h (lo+hi-1-j) (lo+hi-1-i) y x (by lia) (by lia) (by lia) e2 e1
theorem OH {arr:Array Keyed}{lo hi i j:Nat}(hj:j<=arr.size)(h1:lo<=i)(h2:i<=j)(h3:j<=hi)(hA:ZaE b arr i j)(h:Zbr b arr lo hi):Zbr b (mirror arr i j ((j-i) / 2)) lo hi:=λp q x y k1 k2 k3 e1 e2=>by
 rw [Yfd hj] at e1 e2;by_cases hp:i<=p/\p<j
 ·rw [if_pos hp] at e1;by_cases hq:i<=q/\q<j
  ·rw [if_pos hq] at e2;exact hA (i+j-1-q) (i+j-1-p) y x (by lia) (by lia) (by lia) (by lia) e2 e1
  ·rw [if_neg hq] at e2;exact h _ q x y (by lia) (by lia) k3 e1 e2
 ·rw [if_neg hp] at e1;by_cases hq:i<=q/\q<j
  ·rw [if_pos hq] at e2;exact h p _ x y k1 (by lia) (by lia) e1 e2
  ·rw [if_neg hq] at e2;exact h p q x y k1 k2 k3 e1 e2
noncomputable def ZgT (b:Keyed->Keyed->Bool)(lo qU:Nat)(st:SortSt)(Q:Option Nat->SortSt->Prop):Prop:=∀m st',Ah lo st st'->1<=m->m<=qU->Rng b (arrOf st') lo (lo+m)->Q (some m) st'
theorem WY (W:WO b)(L:Uc M A E s kd b good){st:SortSt}{lo n qU:Nat}{Q:Option Nat->SortSt->Prop}(hs:kindOf st=kd)(G:AllG good (arrOf st))(hn:lo+qU<=(arrOf st).size)(h1:1<=n)(h2:n<=qU)(h3:Zbr b (arrOf st) lo (lo+n))(q:ZgT b lo qU st Q):wpS M A E s (WX lo n qU) Q st:=by
 unfold WX;rw [reverseSlice'_eq];refine Yae (Yco ?_);have ah:=O3 (st:=st) (lo:=lo) (i:=lo) (j:=lo+n) (Yad _) (by lia);have r:=Zb (arr:=arrOf st) (lo:=lo) (hi:=lo+n) (by lia) h3;generalize hst:setArr st (mirror (arrOf st) lo (lo+n) ((lo+n-lo) / 2))=st1 at ah;have e1:arrOf st1=mirror (arrOf st) lo (lo+n) ((lo+n-lo) / 2):=by rw [<-hst]
 rw [<-e1] at r;refine Yae (ZaD W L (ah.kd.trans hs) (G.perm ah.pm) (by rw [ah.size];exact hn) h1 h2 r λm k1 k2 k3 _=>?_);dsimp only;exact Yaf (q m st1 ah (by lia) k2 k3)
theorem WZ (W:WO b)(L:Uc M A E s kd b good){st:SortSt}{lo n qU:Nat}{Q:Option Nat->SortSt->Prop}(hs:kindOf st=kd)(G:AllG good (arrOf st))(hn:lo+qU<=(arrOf st).size)(h2:n+1<=qU)(h3:Zbr b (arrOf st) lo (lo+(n+1)))(q:ZgT b lo qU st Q):wpS M A E s (Za lo n qU) Q st:=by
 unfold Za;refine Yae (wpS_lift (Yds ⟨rfl,?_⟩));have fin:∀m neq st1,Ah lo st st1->n+1<=m->m<=qU->Zbr b (arrOf st1) lo (lo+m)->neq+1<=m->ZaE b (arrOf st1) (lo+m-(neq+1)) (lo+m) ->
   wpS M A E s (if neq > 0 then (do reverseSlice' (lo+m-(neq+1)) (lo+m);WX lo m qU) else WX lo m qU) Q st1:=by
  intro m neq st1 ah k1 k2 k3 k4 k5;have G1:=G.perm ah.pm;have hn1:lo+qU<=(arrOf st1).size:=by rw [ah.size];exact hn
  split
  ·rw [reverseSlice'_eq];refine Yae (Yco ?_);have ah2:=O3 (st:=st1) (lo:=lo) (i:=lo+m-(neq+1)) (j:=lo+m) (by lia) (by lia);have r:=OH (arr:=arrOf st1) (lo:=lo) (hi:=lo+m) (i:=lo+m-(neq+1)) (j:=lo+m) (by lia) (by lia) (by lia) (Yad _) k5 k3;generalize hst:setArr st1 (mirror (arrOf st1) (lo+m-(neq+1)) (lo+m) ((lo+m-(lo+m-(neq+1))) / 2))=st2 at ah2;have e1:arrOf st2=mirror (arrOf st1) (lo+m-(neq+1)) (lo+m) ((lo+m-(lo+m-(neq+1))) / 2):=by rw [<-hst]
   rw [<-e1] at r;have ah3:=ah.trans ah2;exact WY W L (ah3.kd.trans hs) (G.perm ah3.pm) (by rw [ah3.size];exact hn) (by lia) k2 r λm' st' a'=>q m' st' (ah3.trans a')
  ·exact WY W L (ah.kd.trans hs) G1 hn1 (by lia) k2 k3 λm' st' a'=>q m' st' (ah.trans a')
 have al0:∀(arr:Array Keyed) m,ZaE b arr (lo+m-(0+1)) (lo+m):=λarr m i j x y i1 i2 i3 i4 e1 e2=>by
  have:i=j:=by lia
  subst this;rw [e1] at e2;cases e2;exact W.le_refl _
 refine Yae (Ycd (λk r st1=>Ah lo st st1/\∃neq,r=(none,k,neq)/\n+1<=k/\k<=qU/\Zbr b (arrOf st1) lo (lo+k)/\neq+1<=k/\ZaE b (arrOf st1) (lo+k-(neq+1)) (lo+k)) ?_ ?_ ⟨Ah.refl _ _,0,rfl,Yad _,h2,h3,by lia,al0 _ _⟩)
 ·rintro k r st1 _ hk ⟨ah,neq,rfl,k1,k2,k3,k4,k5⟩;have G1:=G.perm ah.pm;have hn1:lo+qU<=(arrOf st1).size:=by rw [ah.size];exact hn
  have hs1:=ah.kd.trans hs;unfold Zge;refine Yae (O2 L hs1 G1 (by show lo+k<_;lia) (by show lo+k-1<_;lia) λy x hy hx=>?_);dsimp only;split
  ·rename_i hb;have hyx:=W.le_of_lt hb;split
   ·rw [reverseSlice'_eq];refine Yae (Yco ?_);have ah2:=O3 (st:=st1) (lo:=lo) (i:=lo+k-(neq+1)) (j:=lo+k) (by lia) (by lia);have r:=OH (arr:=arrOf st1) (lo:=lo) (hi:=lo+k) (i:=lo+k-(neq+1)) (j:=lo+k) (by lia) (by lia) (by lia) (Yad _) k5 k3;have e3:(mirror (arrOf st1) (lo+k-(neq+1)) (lo+k) ((lo+k-(lo+k-(neq+1))) / 2))[lo+k]?=some y:=by rw [Yfd (by lia),if_neg (by lia)];exact hy
    have e4:∃z,(mirror (arrOf st1) (lo+k-(neq+1)) (lo+k) ((lo+k-(lo+k-(neq+1))) / 2))[lo+k-1]?=some z/\kle b y z:=by
     obtain ⟨z,hz,_⟩:=G1.at (i:=lo+k-(neq+1)) (by lia);refine ⟨z,?_,W.le_trans hyx (k3 (lo+k-(neq+1)) (lo+k-1) z x (by lia) (by lia) (by lia) hz hx)⟩;rw [Yfd (by lia),if_pos (by lia),<-hz]
     congr 1
     lia
    generalize hst:setArr st1 (mirror (arrOf st1) (lo+k-(neq+1)) (lo+k) ((lo+k-(lo+k-(neq+1))) / 2))=st2 at ah2;have e1:arrOf st2=mirror (arrOf st1) (lo+k-(neq+1)) (lo+k) ((lo+k-(lo+k-(neq+1))) / 2):=by rw [<-hst]
    rw [<-e1] at r e3 e4;obtain ⟨z,hz,hyz⟩:=e4;exact Yaf ⟨ah.trans ah2,0,rfl,by lia,by lia,Om W r (by lia) hz e3 hyz,by lia,al0 _ _⟩
   ·exact Yaf ⟨ah,0,rfl,by lia,by lia,Om W k3 (by lia) hx hy hyx,by lia,al0 _ _⟩
  ·rename_i hb;have hxy:kle b x y:=Yev.mpr hb;refine Yae (O2 L hs1 G1 (by show lo+k-1<_;lia) (by show lo+k<_;lia) λx' y' hx' hy'=>?_);rw [hx] at hx';cases hx';rw [hy] at hy';cases hy';dsimp only;split
   ·refine Yaf ?_;dsimp only;exact fin k neq st1 ah k1 k2 k3 k4 k5
   ·rename_i hb2;have hyx:kle b y x:=Yev.mpr hb2;refine Yaf ⟨ah,neq+1,rfl,by lia,by lia,Om W k3 (by lia) hx hy hyx,by lia,λi j u v i1 i2 i3 i4 e1 e2=>?_⟩;have toX:∀i u,lo+k-(neq+1)<=i->i<lo+(k+1)->(arrOf st1)[i]?=some u->kle b u x/\kle b x u:=λi u p1 p2 e=>by
     by_cases hi:i<lo+k
     ·exact ⟨k5 i (lo+k-1) u x p1 hi (by lia) (by lia) e hx,k5 (lo+k-1) i x u (by lia) (by lia) p1 hi hx e⟩
     ·have:i=lo+k:=by lia
      subst this;rw [hy] at e;cases e;exact ⟨hyx,hxy⟩
    exact W.le_trans (toX i u (by lia) i2 e1).1 (toX j v (by lia) i4 e2).2
 ·rintro r st1 ⟨ah,neq,rfl,k1,k2,k3,k4,k5⟩;dsimp only;rw [Nat.max_eq_right h2] at *;exact fin qU neq st1 ah k1 k2 k3 k4 k5
theorem We (W:WO b)(L:Uc M A E s kd b good){st:SortSt}{lo qU:Nat}{Q:Option Nat->SortSt->Prop}(hs:kindOf st=kd)(G:AllG good (arrOf st))(hn:lo+qU<=(arrOf st).size)(h1:1<=qU)(q:ZgT b lo qU st Q):wpS M A E s (countRun' lo qU) Q st:=by
 rw [XE];refine Yae (ZaD W L hs G hn (Yad _) h1 (ZdI _ W _) λn k1 k2 k3 k4=>?_);dsimp only;split
 ·exact Yaf (q n st (Ah.refl _ _) k1 k2 k3)
 ·rename_i e;have e:n≠qU:=λz=>e (Ybg.mpr z);obtain ⟨x,y,hx,hy,hb⟩:=k4.resolve_left e;have hyx:=W.le_of_lt hb;split
  ·rename_i e1;refine Yae (O2 L hs G (by lia) (by lia) λu v hu hv=>?_);rw [hx] at hv;cases hv;dsimp only;split
   ·exact Yaf (q n st (Ah.refl _ _) k1 k2 k3)
   ·rename_i hb2;have hxu:kle b x u:=Yev.mpr hb2;have al:ZaE b (arrOf st) lo (lo+n):=λi j p r i1 i2 i3 i4 e1 e2=>
     W.le_trans (k3 i (lo+n-1) p x i1 (by lia) (by lia) e1 hx) (W.le_trans hxu (k3 lo j u r (Yad _) i3 i4 hu e2))
    have ni:Zbr b (arrOf st) lo (lo+n):=λi j p r i1 i2 i3 e1 e2=>al j i r p (by lia) i3 i1 (by lia) e2 e1;rw [reverseSlice'_eq];refine Yae (Yco ?_);have ah:=O3 (st:=st) (lo:=lo) (i:=lo) (j:=lo+n) (Yad _) (by lia);have r:=OH (arr:=arrOf st) (lo:=lo) (hi:=lo+n) (i:=lo) (j:=lo+n) (by lia) (Yad _) (by lia) (Yad _) al ni;have e3:(mirror (arrOf st) lo (lo+n) ((lo+n-lo) / 2))[lo+n]?=some y:=by rw [Yfd (by lia),if_neg (by lia)];exact hy
    have e4:(mirror (arrOf st) lo (lo+n) ((lo+n-lo) / 2))[lo+n-1]?=some u:=by
     rw [Yfd (by lia),if_pos (by lia),<-hu]
     congr 1
     lia
    generalize hst:setArr st (mirror (arrOf st) lo (lo+n) ((lo+n-lo) / 2))=st2 at ah;have e1:arrOf st2=mirror (arrOf st) lo (lo+n) ((lo+n-lo) / 2):=by rw [<-hst]
    rw [<-e1] at r e3 e4;exact WZ W L (ah.kd.trans hs) (G.perm ah.pm) (by rw [ah.size];exact hn) (by lia) (Om W r (by lia) e4 e3 (W.le_trans hyx hxu)) λm' st' a'=>q m' st' (ah.trans a')
  ·have:n=1:=by lia
   subst this;refine WZ W L hs G hn (by lia) (Om W (λi j p r i1 i2 i3 e1 e2=>?_) (by lia) hx hy hyx) q;have:i=j:=by lia
   subst this;rw [e1] at e2;cases e2;exact W.le_refl _
theorem Zc (W:WO b){arr:Array Keyed}{lo k l:Nat}{p:Keyed}(hk:lo+k<arr.size)(hl:l<=k)(h:Rng b arr lo (lo+k))(hp:arr[lo+k]?=some p)(h1:∀i x,i<l->arr[lo+i]?=some x->kle b x p)(h2:∀i x,l<=i->i<k->arr[lo+i]?=some x->kle b p x) :
  Rng b (bubble arr (lo+k) (lo+k-(lo+l))) lo (lo+(k+1)):=by
 have e0:lo+k-(lo+k-(lo+l))=lo+l:=by lia
 have at_:∀q,(bubble arr (lo+k) (lo+k-(lo+l)))[q]?=if q=lo+l then some p else if lo+l<q/\q<=lo+k then arr[q-1]? else arr[q]?:=λq=>by
  rw [getElem?_bubble hk _ (by lia),e0,hp]
 intro i j x y i1 i2 i3 e1 e2;rw [at_] at e1 e2;have low:∀q z,lo<=q->q<lo+l->arr[q]?=some z->kle b z p:=λq z q1 q2 e=>h1 (q-lo) z (by lia) (by rw [Ydi q1];exact e);have high:∀q z,lo+l<=q->q<lo+k->arr[q]?=some z->kle b p z:=λq z q1 q2 e=>h2 (q-lo) z (by lia) (by lia) (by rw [Ydi (by lia)];exact e);by_cases ci:i=lo+l
 ·rw [if_pos ci] at e1;cases e1;by_cases cj:j=lo+l
  ·rw [if_pos cj] at e2;cases e2;exact W.le_refl _
  ·rw [if_neg cj,if_pos (by lia)] at e2;exact high (j-1) y (by lia) (by lia) e2
 ·rw [if_neg ci] at e1;by_cases di:lo+l<i/\i<=lo+k
  ·rw [if_pos di] at e1;rw [if_neg (by lia),if_pos (by lia)] at e2;exact h (i-1) (j-1) x y (by lia) (by lia) (by lia) e1 e2
  ·rw [if_neg di] at e1;by_cases cj:j=lo+l
   ·rw [if_pos cj] at e2;cases e2;exact low i x i1 (by lia) e1
   ·rw [if_neg cj] at e2;by_cases dj:lo+l<j/\j<=lo+k
    ·rw [if_pos dj] at e2;exact h i (j-1) x y i1 (by lia) (by lia) e1 e2
    ·rw [if_neg dj] at e2;exact h i j x y i1 i2 (by lia) e1 e2
theorem ZaF {st:SortSt}{lo src d:Nat}(h1:src<(arrOf st).size)(h2:d<=src)(h3:lo<=src-d):Ah lo st (setArr st (bubble (arrOf st) src d)):=by
 refine ⟨rfl,rfl,rfl,bubble_perm _ _ _,λk hk=>?_⟩;show (bubble (arrOf st) src d)[k]?=_;rw [getElem?_bubble h1 _ h2,if_neg (by lia),if_neg (by lia)]
theorem Zd (W:WO b)(L:Uc M A E s kd b good){st:SortSt}{lo n ok:Nat}{Q:Bool->SortSt->Prop}(hs:kindOf st=kd)(G:AllG good (arrOf st))(hn:lo+n<=(arrOf st).size)(h1:1<=ok)(h2:ok<=n)(h3:Rng b (arrOf st) lo (lo+ok))(q:∀st',Ah lo st st'->Rng b (arrOf st') lo (lo+n)->Q true st'):wpS M A E s (binarySort' lo n ok) Q st:=by
 rw [binarySort'_eq,Nat.max_eq_left h1];refine Yae (Ycd (λk r st1=>Ah lo st st1/\r=(none,())/\ok<=k/\k<=n/\Rng b (arrOf st1) lo (lo+k)) ?_ ?_ ⟨Ah.refl _ _,rfl,Yad _,h2,h3⟩)
 ·rintro k r st1 _ hk ⟨ah,rfl,k1,k2,k3⟩;have G1:=G.perm ah.pm;have hn1:lo+n<=(arrOf st1).size:=by rw [ah.size];exact hn
  have hs1:=ah.kd.trans hs;obtain ⟨p,hp,gp⟩:=G1.at (i:=lo+k) (by lia);have fin:∀l,l<=k->(∀i x,i<l->(arrOf st1)[lo+i]?=some x->kle b x p)->(∀i x,l<=i->i<k->(arrOf st1)[lo+i]?=some x->kle b p x) ->
    wpS M A E s (do moveDown' (lo+k) (lo+l);pure (ForInStep.yield ((none,()):Option Bool×Unit))) (λr st'=>match r with
     | .done c'=>False
     | .yield c'=>Ah lo st st'/\c'=(none,())/\ok<=k+1/\k+1<=n/\Rng b (arrOf st') lo (lo+(k+1))) st1:=by
   intro l hl g1 g2;rw [moveDown'_eq];refine Yae (Yco ?_);have ah2:=ZaF (st:=st1) (lo:=lo) (src:=lo+k) (d:=lo+k-(lo+l)) (by lia) (by lia) (by lia);exact Yaf ⟨ah.trans ah2,rfl,by lia,by lia,Zc W (by lia) hl k3 hp g1 g2⟩
  dsimp only;refine Yae (Ycd (λi c st'=>st'=st1/\∃l r,c=(none,l,r)/\l<=r/\r<=k/\r-l<=k-i/\(∀i x,i<l->(arrOf st1)[lo+i]?=some x->kle b x p)/\(∀i x,r<=i->i<k->(arrOf st1)[lo+i]?=some x->kle b p x)) ?_ ?_ ⟨rfl,0,k,rfl,by lia,by lia,by lia,λi x hi=>by lia,λi x h1 h2=>by lia⟩)
  ·rintro i c st' _ hi ⟨rfl,l,r,rfl,g1,g2,g3,g4,g5⟩;dsimp only;split
   ·have:l=r:=by lia
    subst this;refine Yaf ?_;dsimp only;exact wpS_mono (fin l g2 g4 g5) λr st' hr=>by
     cases r with
     | done z=>exact False.elim hr
     | yield z=>exact hr
   ·refine Yae (O2 L hs1 G1 (by lia) (by lia) λp' m hp' hm=>?_);rw [hp] at hp';cases hp';dsimp only;split
    ·rename_i hb;refine Yaf ⟨rfl,_,_,rfl,by lia,by lia,by lia,g4,λj x j1 j2 e=>?_⟩;exact W.le_trans (W.le_of_lt hb) (k3 _ (lo+j) m x (by lia) (by lia) (by lia) hm e)
    ·rename_i hb;refine Yaf ⟨rfl,_,_,rfl,by lia,by lia,by lia,λj x j1 e=>?_,g5⟩;exact W.le_trans (k3 (lo+j) _ x m (by lia) (by lia) (by lia) e hm) (Yev.mpr hb)
  ·rintro c st' ⟨rfl,l,r,rfl,g1,g2,g3,g4,g5⟩;have:l=r:=by simp at g3;lia
   subst this;dsimp only;exact wpS_mono (fin l g2 g4 g5) λr st' hr=>by
     cases r with
     | done z=>exact False.elim hr
     | yield z=>exact hr
 ·rintro r st1 ⟨ah,rfl,k1,k2,k3⟩;dsimp only;rw [Nat.max_eq_right h2] at k3;exact Yaf (q st1 ah k3)
noncomputable def O4 (arr:Array Keyed)(base:Nat)(l:List Keyed):Array Keyed:=List.foldl (λa (x:Keyed×Nat)=>a.setIfInBounds (base+x.2) x.1) arr l.zipIdx
noncomputable def Zb7 (sa:Nat)(merged:Array Keyed):StateT SortSt Sem Bool:=do
 modify λs=>setArr s (O4 (arrOf s) sa merged.toList)
 let s <- get
 pure (failedOf s).isNone
noncomputable def ZeR (st:SortSt)(sa na sb nb:Nat):StateT SortSt Sem Bool:=(if (nb == 0)=true then pure true else (if na<=nb then (do
  let m <- V8 ((arrOf st).extract sa sb) ((arrOf st).extract sb (sb+nb))
  Zb7 sa m) else (do
  let m <- V9 ((arrOf st).extract sa sb) ((arrOf st).extract sb (sb+nb))
  Zb7 sa m)))
noncomputable def ZeS (st:SortSt)(sa na sb nb:Nat):StateT SortSt Sem Bool:=(if (na == 0)=true then pure true else (do
  let y <- elem' (arrOf st) (sa+na-1)
  match <- Ol true y (arrOf st) sb nb (nb-1) with
  | some nb=>ZeR st sa na sb nb
  | _=>pure false))
theorem XF (i:Nat):mergeAt' i=(do
  let st <- get
  match (pendingOf st)[i]?,(pendingOf st)[i+1]? with
  | some (sa,na,power),some (sb,nb,_)=>do
   set (setPending st (((pendingOf st).setIfInBounds i (sa,na+nb,power)).eraseIdxIfInBounds (i+1)))
   let x <- elem' (arrOf st) sb
   match <- Ol false x (arrOf st) sa na 0 with
   | some k=>ZeS st (sa+k) (na-k) sb nb
   | _=>pure false
  | _,_=>liftM (unsupported "internal:list.sort.pending")):=by
 refine Js (m:=get) λst=>?_;cases (pendingOf st)[i]? with
 | none=>rfl
 | some p=>
  cases (pendingOf st)[i+1]? with
  | none=>rfl
  | some q=>
   obtain ⟨sa,na,pw⟩:=p;obtain ⟨sb,nb,pw'⟩:=q
   rfl
theorem ZcL:∀(l:List Keyed)(arr:Array Keyed)(base n i:Nat),base+n+l.length<=arr.size ->
  (List.foldl (λa (x:Keyed×Nat)=>a.setIfInBounds (base+x.2) x.1) arr (l.zipIdx n))[i]?=if base+n<=i/\i<base+n+l.length then l[i-(base+n)]? else arr[i]?
 | [],arr,base,n,i,_=>by
  rw [if_neg (by simp)]
  rfl
 | x::l,arr,base,n,i,h=>by
  rw [List.zipIdx_cons,List.foldl_cons];rw [Ybn] at h;have ih:=ZcL l (arr.setIfInBounds (base+n) x) base (n+1) i (by rw [Array.size_setIfInBounds];lia);refine ih.trans ?_;rw [Ybn];by_cases h1:base+(n+1)<=i/\i<base+(n+1)+l.length
  ·rw [if_pos h1,if_pos (by lia)];rw [show i-(base+n)=(i-(base+(n+1)))+1 by lia,Yfq]
  ·rw [if_neg h1,Array.getElem?_setIfInBounds];by_cases h2:base+n=i
   ·subst h2;rw [if_pos rfl,if_pos (by lia),if_pos (by lia),Ydo]
    rfl
   ·rw [if_neg h2,if_neg (by lia)]
theorem ZcM {arr:Array Keyed}{base:Nat}{l:List Keyed}(h:base+l.length<=arr.size)(i:Nat):(O4 arr base l)[i]?=if base<=i/\i<base+l.length then l[i-base]? else arr[i]?:=ZcL l arr base 0 i h
theorem Zb8 {arr:Array Keyed}{base:Nat}{l:List Keyed}(h:base+l.length<=arr.size)(p:l.Perm ((arr.toList.drop base).take l.length)):(O4 arr base l).Perm arr:=by
 have e:(O4 arr base l).toList=arr.toList.take base++l++arr.toList.drop (base+l.length):=by
  refine List.ext_getElem? λi=>?_;have hl:arr.toList.length=arr.size:=Yan;rw [Yay,ZcM h];rw [Ybs,List.getElem?_append,Ybm,hl,Yeh (by lia)];by_cases h1:i<base
  ·rw [if_neg (by lia),if_pos h1,Yey,if_pos h1,Yay]
  ·rw [if_neg h1,List.getElem?_append];by_cases h2:i<base+l.length
   ·rw [if_pos (by lia),if_pos (by lia)]
   ·rw [if_neg (by lia),if_neg (by lia),Yez,Yay]
    congr 1
    lia
 have e2:arr.toList=arr.toList.take base++(arr.toList.drop base).take l.length++arr.toList.drop (base+l.length):=by
  rw [Ybs,<-List.drop_drop,Ydb,Ydb]
 rw [Array.perm_iff_toList_perm,e];exact ((Yga _ p).append_right _).trans (.of_eq e2.symm)
theorem UK {arr:Array Keyed}{lo mid hi:Nat}(h1:Rng b arr lo mid)(h2:Rng b arr mid hi)(h3:∀i j x y,lo<=i->i<mid->mid<=j->j<hi->arr[i]?=some x->arr[j]?=some y->kle b x y):Rng b arr lo hi:=λi j x y i1 i2 i3 e1 e2=>by
 by_cases c1:j<mid
 ·exact h1 i j x y i1 i2 c1 e1 e2
 ·by_cases c2:i<mid
  ·exact h3 i j x y i1 c2 (by lia) i3 e1 e2
  ·exact h2 i j x y (by lia) i2 i3 e1 e2
theorem ZcN {arr:Array Keyed}{lo hi:Nat}(hh:hi<=arr.size)(h:Rng b arr lo hi):(arr.extract lo hi).toList.Pairwise (kle b):=by
 rw [Yei];intro i j hi' hj' hij;have sz:(arr.extract lo hi).toList.length=hi-lo:=by rw [Yan,Yfx,Yeh hh]
 refine h (lo+i) (lo+j) _ _ (by lia) (by lia) (by lia) ?_ ?_
 ·simp [Array.getElem_extract]
 ·simp [Array.getElem_extract]
noncomputable def MgQ (b:Keyed->Keyed->Bool)(st:SortSt)(lo hi:Nat)(Q:Bool->SortSt->Prop):Prop:=∀st',kindOf st'=kindOf st->pendingOf st'=pendingOf st->failedOf st'=failedOf st->(arrOf st').Perm (arrOf st) ->
 (∀i,i<lo\/hi<=i->(arrOf st')[i]?=(arrOf st)[i]?)->Rng b (arrOf st') lo hi->Q true st'
structure GalF (b:Keyed->Keyed->Bool)(arr:Array Keyed)(sa k sb nb hi:Nat):Prop where
 k0:sa<=k
 k1:k<sb
 n0:0<nb
 n1:sb+nb<=hi
 ra:Rng b arr sa sb
 rb:Rng b arr sb hi
 lowA:∀i x y,sa<=i->i<k->arr[i]?=some x->arr[sb]?=some y->kle b x y
 highA:∀i x y,k<=i->i<sb->arr[i]?=some x->arr[sb]?=some y->kle b y x
 lowB:∀i x y,sb<=i->i<sb+nb->arr[i]?=some x->arr[sb-1]?=some y->kle b x y
 highB:∀i x y,sb+nb<=i->i<hi->arr[i]?=some x->arr[sb-1]?=some y->kle b y x
theorem GalF.two {arr:Array Keyed}{sa k sb nb hi:Nat}(F:GalF b arr sa k sb nb hi)(hh:hi<=arr.size)(G:AllG good arr):Two b good (arr.extract k sb) (arr.extract sb (sb+nb)):=by
 have h0:=F.k0;have h1:=F.k1;have h2:=F.n0;have h3:=F.n1;have memG:∀{i j x},x∈(arr.extract i j).toList->good x:=λ{i j x} hx=>by
  obtain ⟨q,_,_,e⟩:=XC hx;rw [<-Yay] at e;exact G x (Yax e)
 refine ⟨λx=>memG,λx=>memG,ZcN (by lia) λi j x y i1 i2 i3=>F.ra i j x y (by lia) i2 i3,ZcN (by lia) λi j x y i1 i2 i3=>F.rb i j x y i1 i2 (by lia),by rw [Yfx];lia,by rw [Yfx];lia,λx hx y hy=>?_,λz hz y hy=>?_⟩
 ·have hx:arr[sb]?=some x:=by
   rw [Array.getElem?_extract,if_pos (by lia)] at hx;exact hx
  obtain ⟨q,q1,q2,e⟩:=XC hy;exact F.highA q y x q1 q2 e hx
 ·have hz:arr[sb-1]?=some z:=by
   rw [Yfx,Array.getElem?_extract,if_pos (by lia)] at hz;rw [<-hz]
   congr 1
   lia
  obtain ⟨q,q1,q2,e⟩:=XC hy;exact F.lowB q y z q1 (by lia) e hz
theorem GalF.fin (W:WO b){st:SortSt}{sa k sb nb hi:Nat}{Q:Bool->SortSt->Prop}(F:GalF b (arrOf st) sa k sb nb hi)(hh:hi<=(arrOf st).size)(q:MgQ b st sa hi Q)(hf:failedOf st=none){m:Array Keyed}{st1:SortSt}(sg:SameG st st1)(hm:JA b (((arrOf st).extract k sb).toList++((arrOf st).extract sb (sb+nb)).toList) m.toList):wpS M A E s (Zb7 k m) Q st1:=by
 have h0:=F.k0;have h1:=F.k1;have h2:=F.n0;have h3:=F.n1;unfold Zb7;refine Yae (Yco (Yae (wpS_get (Yaf ?_))));show Q (failedOf st1).isNone _;rw [sg.2.2.2,hf];have hl:m.toList.length=sb+nb-k:=by
  have:=hm.1.length_eq;rw [Yai,Yan,Yan,Yan,Yfx,Yfx] at this;rw [Yan]
  lia
 have hb:k+m.toList.length<=(arrOf st).size:=by lia
 have e1:((arrOf st).toList.drop k).take m.toList.length=((arrOf st).extract k sb).toList++((arrOf st).extract sb (sb+nb)).toList:=by
  have x1:((arrOf st).extract k (sb+nb)).toList=((arrOf st).toList.drop k).take m.toList.length:=by
   rw [hl,Yfu,Yfv]
  rw [<-x1,<-Ycx,Array.extract_append_extract]
  congr 2 <;> lia
 have at_:=ZcM (arr:=arrOf st) (base:=k) (l:=m.toList) hb;have mem:∀i x,k<=i->i<sb+nb->(O4 (arrOf st) k m.toList)[i]?=some x->(∃j,k<=j/\j<sb/\(arrOf st)[j]?=some x)\/(∃j,sb<=j/\j<sb+nb/\(arrOf st)[j]?=some x):=λi x i1 i2 e=>by
  rw [at_,if_pos (by lia)] at e;have hx:=hm.1.mem_iff.mp (Yax e);rcases Yag.mp hx with hx | hx
  ·exact .inl (XC hx)
  ·exact .inr (XC hx)
 obtain ⟨b0,hb0⟩:∃x,(arrOf st)[sb]?=some x:=⟨_,Ybd (by lia)⟩;obtain ⟨aL,haL⟩:∃x,(arrOf st)[sb-1]?=some x:=⟨_,Ybd (by lia)⟩;refine q _ sg.1 sg.2.2.1 ?_ ?_ (λi hi'=>?_) ?_
 ·show failedOf st1=failedOf st;exact sg.2.2.2
 ·show (O4 (arrOf st1) k m.toList).Perm (arrOf st);rw [sg.2.1];exact Zb8 hb (hm.1.trans (.of_eq e1.symm))
 ·show (O4 (arrOf st1) k m.toList)[i]?=_;rw [sg.2.1,at_,if_neg (by lia)]
 ·show Rng b (O4 (arrOf st1) k m.toList) sa hi;rw [sg.2.1];have old:∀i,i<k\/sb+nb<=i->(O4 (arrOf st) k m.toList)[i]?=(arrOf st)[i]?:=λi hi'=>by rw [at_,if_neg (by lia)]
  refine UK (mid:=k) (λi j x y i1 i2 i3 e1 e2=>?_) (UK (mid:=sb+nb) (λi j x y i1 i2 i3 e1 e2=>?_) (λi j x y i1 i2 i3 e1 e2=>?_) (λi j x y i1 i2 i3 i4 e1 e2=>?_)) (λi j x y i1 i2 i3 i4 e1 e2=>?_)
  ·rw [old i (by lia)] at e1;rw [old j (by lia)] at e2;exact F.ra i j x y i1 i2 (by lia) e1 e2
  ·rw [at_,if_pos (by lia)] at e1 e2;exact ZbZ W hm.2 (by lia) e1 e2
  ·rw [old i (by lia)] at e1;rw [old j (by lia)] at e2;exact F.rb i j x y (by lia) i2 i3 e1 e2
  ·rw [old j (by lia)] at e2;rcases mem i x i1 i2 e1 with ⟨p,p1,p2,e⟩ | ⟨p,p1,p2,e⟩
   ·exact W.le_trans (F.ra p (sb-1) x aL (by lia) (by lia) (by lia) e haL) (F.highB j y aL i3 i4 e2 haL)
   ·exact F.rb p j x y p1 (by lia) i4 e e2
  ·rw [old i (by lia)] at e1;have xb:=F.lowA i x b0 i1 i2 e1 hb0;by_cases cj:j<sb+nb
   ·rcases mem j y i3 cj e2 with ⟨p,p1,p2,e⟩ | ⟨p,p1,p2,e⟩
    ·exact F.ra i p x y i1 (by lia) p2 e1 e
    ·exact W.le_trans xb (F.rb sb p b0 y (Yad _) p1 (by lia) hb0 e)
   ·rw [old j (by lia)] at e2;exact W.le_trans xb (F.rb sb j b0 y (Yad _) (by lia) i4 hb0 e2)
theorem XG (W:WO b)(L:Uc M A E s kd b good){st:SortSt}{i sa na sb nb pw pw':Nat}{Q:Bool->SortSt->Prop}(hs:kindOf st=kd)(hf:failedOf st=none)(G:AllG good (arrOf st))(p1:(pendingOf st)[i]?=some (sa,na,pw))(p2:(pendingOf st)[i+1]?=some (sb,nb,pw'))(e:sb=sa+na)(hna:0<na)(hnb:0<nb)(hh:sb+nb<=(arrOf st).size)(ra:Rng b (arrOf st) sa sb)(rb:Rng b (arrOf st) sb (sb+nb))(q:MgQ b (setPending st (((pendingOf st).setIfInBounds i (sa,na+nb,pw)).eraseIdxIfInBounds (i+1))) sa (sb+nb) Q):wpS M A E s (mergeAt' i) Q st:=by
 subst e;rw [XF];refine Yae (wpS_get ?_);rw [p1,p2];dsimp only;refine Yae ?_;show wpS M A E s (set _) _ st;refine (show wpS M A E s (modify λ_=>setPending st (((pendingOf st).setIfInBounds i (sa,na+nb,pw)).eraseIdxIfInBounds (i+1))) _ st from Yco ?_);generalize hst:setPending st (((pendingOf st).setIfInBounds i (sa,na+nb,pw)).eraseIdxIfInBounds (i+1))=st1 at q;have ea:arrOf st1=arrOf st:=by rw [<-hst]
 have ek:kindOf st1=kd:=by rw [<-hst];exact hs
 have ef:failedOf st1=none:=by rw [<-hst];exact hf
 rw [<-ea] at G hh ra rb ⊢;obtain ⟨b0,hb0,gb0⟩:=G.at (i:=sa+na) (by lia);obtain ⟨aL,haL,gaL⟩:=G.at (i:=sa+na-1) (by lia);refine Yae (Gx hb0 ?_);have G1:Gal b good false b0 (arrOf st1) sa na:=VE W gb0 (λi hi=>G.at (by lia)) ra;refine Yae (JH L G1 ek hna λk hk k1 k2=>?_);have lowA:∀i x y,sa<=i->i<sa+k->(arrOf st1)[i]?=some x->(arrOf st1)[sa+na]?=some y->kle b x y:=λi x y i1 i2 e1 e2=>by
  rw [hb0] at e2;cases e2;have:=k1 (i-sa) (by lia);unfold byd at this;rw [Ydi i1,e1] at this;dsimp only at this;rw [if_neg Yam,Bool.not_eq_true'] at this;exact this
 have highA:∀i x y,sa+k<=i->i<sa+na->(arrOf st1)[i]?=some x->(arrOf st1)[sa+na]?=some y->kle b y x:=λi x y i1 i2 e1 e2=>by
  rw [hb0] at e2;cases e2;have:=k2 (i-sa) (by lia) (by lia);unfold byd at this;rw [Ydi (by lia),e1] at this;dsimp only at this;rw [if_neg Yam,Bool.not_eq_false'] at this;exact W.le_of_lt this
 dsimp only;unfold ZeS;rw [show arrOf st=arrOf st1 from ea.symm];split
 ·rename_i e0;have e0:na-k=0:=eq_of_beq e0;refine Yaf (q st1 rfl rfl rfl (.refl _) (λ_ _=>rfl) (UK ra rb λi j x y i1 i2 i3 i4 e1 e2=>?_));exact W.le_trans (lowA i x b0 i1 (by lia) e1 hb0) (rb (sa+na) j b0 y (Yad _) i3 i4 hb0 e2)
 ·rename_i e0;have e0:na-k≠0:=λz=>e0 (Ybg.mpr z);refine Yae (Gx (show (arrOf st1)[sa+k+(na-k)-1]?=some aL by rw [<-haL];congr 1;lia) ?_);have G2:Gal b good true aL (arrOf st1) (sa+na) nb:=VE W gaL (λi hi=>G.at (by lia)) rb;refine Yae (JH L G2 ek (by lia) λnb' hk' k1' k2'=>?_);have lowB:∀i x y,sa+na<=i->i<sa+na+nb'->(arrOf st1)[i]?=some x->(arrOf st1)[sa+na-1]?=some y->kle b x y:=λi x y i1 i2 e1 e2=>by
   rw [haL] at e2;cases e2;have:=k1' (i-(sa+na)) (by lia);unfold byd at this;rw [Ydi i1,e1] at this;dsimp only at this;rw [if_pos rfl] at this;exact W.le_of_lt this
  have highB:∀i x y,sa+na+nb'<=i->i<sa+na+nb->(arrOf st1)[i]?=some x->(arrOf st1)[sa+na-1]?=some y->kle b y x:=λi x y i1 i2 e1 e2=>by
   rw [haL] at e2;cases e2;have:=k2' (i-(sa+na)) (by lia) (by lia);unfold byd at this;rw [Ydi (by lia),e1] at this;dsimp only at this;rw [if_pos rfl] at this;exact this
  dsimp only;unfold ZeR;split
  ·rename_i e1;have e1:nb'=0:=eq_of_beq e1;refine Yaf (q st1 rfl rfl rfl (.refl _) (λ_ _=>rfl) (UK ra rb λi j x y i1 i2 i3 i4 f1 f2=>?_));exact W.le_trans (ra i (sa+na-1) x aL i1 (by lia) (by lia) f1 haL) (highB j y aL (by lia) i4 f2 haL)
  ·rename_i e1;have e1:nb'≠0:=λz=>e1 (Ybg.mpr z);have F:GalF b (arrOf st1) sa (sa+k) (sa+na) nb' (sa+na+nb):=⟨by lia,by lia,by lia,by lia,ra,rb,lowA,highA,lowB,highB⟩;have T:=F.two hh G;split
   ·refine Yae ?_;rw [show arrOf st=arrOf st1 from ea.symm];exact XA W L T ek λr st' sg m=>F.fin W hh q ef sg m
   ·refine Yae ?_;rw [show arrOf st=arrOf st1 from ea.symm];exact XD W L T ek λr st' sg m=>F.fin W hh q ef sg m
end
noncomputable def Runs (b:Keyed->Keyed->Bool)(arr:Array Keyed):Nat->List (Nat×Nat×Nat)->Nat->Prop
 | s,[],e=>s=e
 | s,x::rest,e=>x.1=s/\0<x.2.1/\Rng b arr s (s+x.2.1)/\Runs b arr (s+x.2.1) rest e
section
variable {b:Keyed->Keyed->Bool}{arr arr':Array Keyed}
theorem Runs.le:∀{p:List (Nat×Nat×Nat)}{s e:Nat},Runs b arr s p e->s+p.length<=e
 | [],s,e,h=>by have h:s=e:=h;simp [h]
 | x::p,s,e,h=>by
  have:=Runs.le h.2.2.2;have:=h.2.1;rw [Ybn]
  lia
theorem Runs.app:∀{u v:List (Nat×Nat×Nat)}{s e:Nat},Runs b arr s (u++v) e↔∃m,Runs b arr s u m/\Runs b arr m v e
 | [],v,s,e=>⟨λh=>⟨s,rfl,h⟩,λ⟨m,h1,h2⟩=>by have h1:s=m:=h1;rw [h1];exact h2⟩
 | x::u,v,s,e=>by
  constructor
  ·rintro ⟨h1,h2,h3,h4⟩;obtain ⟨m,k1,k2⟩:=Runs.app.mp h4;exact ⟨m,⟨h1,h2,h3,k1⟩,k2⟩
  ·rintro ⟨m,⟨h1,h2,h3,k1⟩,k2⟩;exact ⟨h1,h2,h3,Runs.app.mpr ⟨m,k1,k2⟩⟩
theorem Runs.keep:∀{p:List (Nat×Nat×Nat)}{s e:Nat},Runs b arr s p e->(∀i,s<=i->i<e->arr'[i]?=arr[i]?)->Runs b arr' s p e
 | [],_,_,h,_=>h
 | x::p,s,e,h,k=>by
  have:=Runs.le h.2.2.2;refine ⟨h.1,h.2.1,λi j u v i1 i2 i3 e1 e2=>?_,Runs.keep h.2.2.2 λi i1 i2=>k i (by lia) i2⟩;rw [k i i1 (by lia)] at e1;rw [k j (by lia) (by lia)] at e2;exact h.2.2.1 i j u v i1 i2 i3 e1 e2
theorem Runs.push {p:List (Nat×Nat×Nat)}{s lo n pw:Nat}(h:Runs b arr s p lo)(hn:0<n)(hr:Rng b arr lo (lo+n)):Runs b arr s (p++[(lo,n,pw)]) (lo+n):=
 Runs.app.mpr ⟨lo,h,rfl,hn,hr,rfl⟩
theorem Runs.two {p:List (Nat×Nat×Nat)}{i e sa na pw sb nb pw':Nat}(h:Runs b arr 0 p e)(h1:p[i]?=some (sa,na,pw))(h2:p[i+1]?=some (sb,nb,pw')) :
  sb=sa+na/\0<na/\0<nb/\sb+nb<=e/\Rng b arr sa sb/\Rng b arr sb (sb+nb) /\
   ((∀i,i<sa\/sb+nb<=i->arr'[i]?=arr[i]?)->Rng b arr' sa (sb+nb)->Runs b arr' 0 ((p.set i (sa,na+nb,pw)).eraseIdx (i+1)) e):=by
 obtain ⟨l1,e1⟩:=Yao.mp h1;obtain ⟨l2,e2⟩:=Yao.mp h2;have d:p=p.take i++(sa,na,pw)::(sb,nb,pw')::p.drop (i+2):=by
  conv=>lhs;rw [<-Ydb i p,Yfo l1,e1,Yfo l2,e2]
 have hl:(p.take i).length=i:=by rw [Ybm];lia
 generalize p.take i=u at d hl;generalize p.drop (i+2)=v at d;subst d;obtain ⟨m,k1,k2,k3,k4,k5,k6,k7,k8⟩:=Runs.app.mp h;have k2:sa=m:=k2;have k3:0<na:=k3;have k5:sb=m+na:=k5;have k6:0<nb:=k6;have k4:Rng b arr m (m+na):=k4;have k7:Rng b arr (m+na) (m+na+nb):=k7;have k8:Runs b arr (m+na+nb) v e:=k8;subst k2 k5;have k9:sa+na+nb+v.length<=e:=k8.le;refine ⟨rfl,k3,k6,by lia,k4,k7,λho hr=>?_⟩;have es:((u++(sa,na,pw)::(sa+na,nb,pw')::v).set i (sa,na+nb,pw)).eraseIdx (i+1)=u++(sa,na+nb,pw)::v:=by
  rw [List.set_append,if_neg (by lia),hl,Ydo,List.set_cons_zero,List.eraseIdx_append_of_length_le (by lia),hl,Nat.add_sub_cancel_left]
  rfl
 rw [es];refine Runs.app.mpr ⟨sa,k1.keep λj j1 j2=>ho j (.inl j2),rfl,by show 0<na+nb;lia,by show Rng b arr' sa (sa+(na+nb));rw [<-Nat.add_assoc];exact hr,?_⟩;show Runs b arr' (sa+(na+nb)) v e;rw [<-Nat.add_assoc];exact k8.keep λj j1 j2=>ho j (.inr j1)
theorem Runs.pow:∀{p:List (Nat×Nat×Nat)}{s e:Nat}(i:Nat)(f:Nat×Nat×Nat->Nat×Nat×Nat),(∀x,(f x).1=x.1/\(f x).2.1=x.2.1)->Runs b arr s p e->Runs b arr s (p.modify i f) e
 | [],_,_,i,f,_,h=>by cases i <;> exact h
 | x::p,s,e,0,f,hf,h=>by
  rw [List.modify_zero_cons];obtain ⟨q1,q2⟩:=hf x;refine ⟨q1.trans h.1,by rw [q2];exact h.2.1,by rw [q2];exact h.2.2.1,by rw [q2];exact h.2.2.2⟩
 | x::p,s,e,i+1,f,hf,h=>by
  rw [List.modify_succ_cons];exact ⟨h.1,h.2.1,h.2.2.1,Runs.pow i f hf h.2.2.2⟩
theorem Runs.one (W:WO b){p:List (Nat×Nat×Nat)}{e:Nat}(h:Runs b arr 0 p e)(hl:p.length<=1):Rng b arr 0 e:=by
 match p,h,hl with
 | [],h,_=>
  have h:0=e:=h;subst h;intro i j x y i1 i2 i3
  lia
 | [x],h,_=>
  have h4:0+x.2.1=e:=h.2.2.2;rw [<-h4];exact h.2.2.1
end
section
variable {M:Model}{A:Around}{E:EX}{s:Shared}{kd:SortKind}{b:Keyed->Keyed->Bool}{good:Keyed->Prop}
structure SI (b:Keyed->Keyed->Bool)(kd:SortKind)(st0 st:SortSt)(lo:Nat):Prop where
 ki:kindOf st=kd
 fa:failedOf st=none
 pm:(arrOf st).Perm (arrOf st0)
 ru:Runs b (arrOf st) 0 (pendingOf st).toList lo
theorem SI.size {st0 st:SortSt}{lo:Nat}(h:SI b kd st0 st lo):(arrOf st).size=(arrOf st0).size:=h.pm.size_eq
theorem SI.merge (W:WO b)(L:Uc M A E s kd b good){st0 st:SortSt}{lo i:Nat}{Q:Bool->SortSt->Prop}(G:AllG good (arrOf st0))(h:SI b kd st0 st lo)(hlo:lo<=(arrOf st0).size)(hi:i+1<(pendingOf st).size)(q:∀st',SI b kd st0 st' lo->(pendingOf st').size+1=(pendingOf st).size->(∀i,lo<=i->(arrOf st')[i]?=(arrOf st)[i]?)->Q true st'):wpS M A E s (mergeAt' i) Q st:=by
 obtain ⟨⟨sa,na,pw⟩,p1⟩:∃x,(pendingOf st)[i]?=some x:=⟨_,Ybd (by lia)⟩;obtain ⟨⟨sb,nb,pw'⟩,p2⟩:∃x,(pendingOf st)[i+1]?=some x:=⟨_,Ybd hi⟩;have two:=λarr'=>Runs.two (arr':=arr') h.ru (by rw [Yay];exact p1) (by rw [Yay];exact p2);obtain ⟨t1,t2,t3,t4,t5,t6,_⟩:=two (arrOf st);have hsz:=h.size;refine XG W L h.ki h.fa (G.perm h.pm) p1 p2 t1 t2 t3 (by lia) t5 t6 λst' k1 k2 k3 k4 k5 k6=>?_;have e0:arrOf (setPending st (((pendingOf st).setIfInBounds i (sa,na+nb,pw)).eraseIdxIfInBounds (i+1)))=arrOf st:=rfl;rw [e0] at k4 k5;have e1:pendingOf st'=((pendingOf st).setIfInBounds i (sa,na+nb,pw)).eraseIdxIfInBounds (i+1):=k2;have e2:(pendingOf st').toList=((pendingOf st).toList.set i (sa,na+nb,pw)).eraseIdx (i+1):=by
  rw [e1,Array.toList_eraseIdxIfInBounds,Array.toList_setIfInBounds]
 refine q st' ⟨k1.trans h.ki,k3.trans h.fa,k4.trans h.pm,?_⟩ ?_ λj hj=>k5 j (.inr (by lia))
 ·rw [e2];exact (two (arrOf st')).2.2.2.2.2.2 k5 k6
 ·have:=Ybc List.length e2;rw [Yan,List.length_eraseIdx,List.length_set,Yan,if_pos hi] at this
  lia
theorem Oc (W:WO b)(L:Uc M A E s kd b good){st:SortSt}{Q:Unit->SortSt->Prop}(hs:kindOf st=kd)(hf:failedOf st=none)(hp:pendingOf st=#[])(G:AllG good (arrOf st))(q:∀st',(arrOf st').Perm (arrOf st)->failedOf st'=none->Rng b (arrOf st') 0 (arrOf st).size->Q () st'):wpS M A E s sortRuns' Q st:=by
 rw [sortRuns'_eq];refine Yae (wpS_get ?_);dsimp only;generalize hsz:(arrOf st).size=size at q;generalize minRun' size size 0=minrun;refine Yae (wpS_mono (Q:=λr st1=>r=(none,size)/\SI b kd st st1 size) (Ycd (λk r st1=>∃lo,r=(none,lo)/\k<=lo/\lo<=size/\SI b kd st st1 lo) ?_ ?_ ⟨0,rfl,Yad _,Yar _,hs,hf,.refl _,by rw [hp];rfl⟩) ?_)
 ·rintro k r st1 _ hk ⟨lo,rfl,k1,k2,I⟩;dsimp only;split
  ·have:lo=size:=by lia
   subst this;exact Yaf ⟨rfl,I⟩
  ·rename_i hlo;have s1:(arrOf st1).size=size:=I.size.trans hsz;refine Yae (We W L I.ki (G.perm I.pm) (by lia) (by lia) λn st2 ah n1 n2 n3=>?_);have I2:SI b kd st st2 lo:=⟨ah.kd.trans I.ki,ah.fa.trans I.fa,ah.pm.trans I.pm,by rw [ah.pe];exact I.ru.keep λi _ hi=>ah.lw i hi⟩;dsimp only;have pushed:∀st3 n,SI b kd st st3 lo->0<n->Rng b (arrOf st3) lo (lo+n)->SI b kd st (setPending st3 ((pendingOf st3).push (lo,n,0))) (lo+n):=by
    intro st3 n I3 n1 n3;refine ⟨I3.ki,I3.fa,I3.pm,?_⟩;show Runs b (arrOf st3) 0 ((pendingOf st3).push (lo,n,0)).toList (lo+n);rw [Yem];exact I3.ru.push n1 n3
   have pow:∀st3 pw,SI b kd st st3 lo->SI b kd st (setPending st3 ((pendingOf st3).modify ((pendingOf st3).size-1) λx=>(x.1,x.2.1,pw))) lo:=by
    intro st3 pw I3;refine ⟨I3.ki,I3.fa,I3.pm,?_⟩;show Runs b (arrOf st3) 0 ((pendingOf st3).modify ((pendingOf st3).size-1) λx=>(x.1,x.2.1,pw)).toList lo;rw [Array.toList_modify];exact I3.ru.pow _ _ λx=>⟨rfl,rfl⟩
   split
   ·rename_i hmr;refine Yae (wpS_lift (Yds ⟨rfl,?_⟩));have s2:(arrOf st2).size=size:=I2.size.trans hsz;refine Yae (Zd W L I2.ki (G.perm I2.pm) (by lia) n1 (by lia) n3 λst3 ah3 r3=>?_);have I3:SI b kd st st3 lo:=⟨ah3.kd.trans I2.ki,ah3.fa.trans I2.fa,ah3.pm.trans I2.pm,by rw [ah3.pe];exact I2.ru.keep λi _ hi=>ah3.lw i hi⟩;rw [show (!true)=false from rfl,if_neg Yam];have hN:1<=min (size-lo) minrun/\lo+min (size-lo) minrun<=size:=by lia
    clear hmr;generalize min (size-lo) minrun=N at r3 hN;refine Yae (wpS_get ?_);cases hbk:(pendingOf st3).back? with
    | none=>exact Yae (Yco (Yaf ⟨_,rfl,by lia,by lia,pushed st3 _ I3 (by lia) r3⟩))
    | some x=>
     obtain ⟨s1,n1,pw1⟩:=x;dsimp only;refine Yae (wpS_mono (Q:=λr st4=>r=(none,())/\SI b kd st st4 lo/\∀i,lo<=i->(arrOf st4)[i]?=(arrOf st3)[i]?) (Ycd (λ_ r st4=>r=(none,())/\SI b kd st st4 lo/\∀i,lo<=i->(arrOf st4)[i]?=(arrOf st3)[i]?) ?_ (λ_ _ z=>z) ⟨rfl,I3,λ_ _=>rfl⟩) ?_)
     ·rintro k' r st4 _ hk' ⟨rfl,I4,same⟩;refine Yae (wpS_get ?_);by_cases hz:(pendingOf st4).size > 1
      ·obtain ⟨⟨z1,z2,z3⟩,pz⟩:∃x,(pendingOf st4)[(pendingOf st4).size-2]?=some x:=⟨_,Ybd (by lia)⟩;rw [if_pos hz,pz];dsimp only;split
       ·exact Yaf ⟨rfl,I4,same⟩
       ·refine Yae (I4.merge W L G (by lia) (by lia) λst5 I5 _ same5=>?_);rw [show (!true)=false from rfl,if_neg Yam];exact Yaf ⟨rfl,I5,λi hi=>(same5 i hi).trans (same i hi)⟩
      ·rw [if_neg hz];exact Yaf ⟨rfl,I4,same⟩
     ·rintro r st4 ⟨rfl,I4,same⟩;dsimp only;refine Yae (Yco (Yae (Yco (Yaf ⟨_,rfl,by lia,by lia,?_⟩))));refine pushed _ _ (pow st4 _ I4) (by lia) λi j x y i1 i2 i3 e1 e2=>?_;have e1:(arrOf st4)[i]?=some x:=e1;have e2:(arrOf st4)[j]?=some y:=e2;rw [same i i1] at e1;rw [same j (by lia)] at e2;exact r3 i j x y i1 i2 i3 e1 e2
   ·have hN:1<=n/\lo+n<=size:=by lia
    refine Yae (wpS_get ?_);cases hbk:(pendingOf st2).back? with
    | none=>exact Yae (Yco (Yaf ⟨_,rfl,by lia,by lia,pushed st2 _ I2 (by lia) n3⟩))
    | some x=>
     obtain ⟨s1,n1,pw1⟩:=x;dsimp only;refine Yae (wpS_mono (Q:=λr st4=>r=(none,())/\SI b kd st st4 lo/\∀i,lo<=i->(arrOf st4)[i]?=(arrOf st2)[i]?) (Ycd (λ_ r st4=>r=(none,())/\SI b kd st st4 lo/\∀i,lo<=i->(arrOf st4)[i]?=(arrOf st2)[i]?) ?_ (λ_ _ z=>z) ⟨rfl,I2,λ_ _=>rfl⟩) ?_)
     ·rintro k' r st4 _ hk' ⟨rfl,I4,same⟩;refine Yae (wpS_get ?_);by_cases hz:(pendingOf st4).size > 1
      ·obtain ⟨⟨z1,z2,z3⟩,pz⟩:∃x,(pendingOf st4)[(pendingOf st4).size-2]?=some x:=⟨_,Ybd (by lia)⟩;rw [if_pos hz,pz];dsimp only;split
       ·exact Yaf ⟨rfl,I4,same⟩
       ·refine Yae (I4.merge W L G (by lia) (by lia) λst5 I5 _ same5=>?_);rw [show (!true)=false from rfl,if_neg Yam];exact Yaf ⟨rfl,I5,λi hi=>(same5 i hi).trans (same i hi)⟩
      ·rw [if_neg hz];exact Yaf ⟨rfl,I4,same⟩
     ·rintro r st4 ⟨rfl,I4,same⟩;dsimp only;refine Yae (Yco (Yae (Yco (Yaf ⟨_,rfl,by lia,by lia,?_⟩))));refine pushed _ _ (pow st4 _ I4) (by lia) λi j x y i1 i2 i3 e1 e2=>?_;have e1:(arrOf st4)[i]?=some x:=e1;have e2:(arrOf st4)[j]?=some y:=e2;rw [same i i1] at e1;rw [same j (by lia)] at e2;exact n3 i j x y i1 i2 i3 e1 e2
 ·rintro r st1 ⟨lo,rfl,k1,k2,I⟩;have:lo=size:=by simp at k1;lia
  subst this;exact ⟨rfl,I⟩
 ·rintro r st1 ⟨rfl,I⟩;dsimp only;refine Yae (wpS_mono (Q:=λr st2=>r=(none,())/\SI b kd st st2 size/\(pendingOf st2).size<=1) (Ycd (λk r st2=>r=(none,())/\SI b kd st st2 size/\(pendingOf st2).size+k<=size+1) ?_ ?_ ⟨rfl,I,?_⟩) ?_)
  ·rintro k r st2 _ hk ⟨rfl,I2,hz⟩;refine Yae (wpS_get ?_);split
   ·rename_i h1;exact Yaf ⟨rfl,I2,h1⟩
   ·rename_i h1;generalize hi:(if Option.any _ _=true then (pendingOf st2).size-2-1 else (pendingOf st2).size-2)=i;have hi2:i+1<(pendingOf st2).size:=by
     rw [<-hi];have key:∀(c:Prop)[Decidable c](m:Nat),(if c then m-1 else m)<=m:=λc _ m=>by split <;> lia
     refine Nat.lt_of_le_of_lt (Nat.succ_le_succ (key _ ((pendingOf st2).size-2))) ?_
     lia
    refine Yae (I2.merge W L G (by lia) hi2 λst3 I3 h3 _=>?_);rw [show (!true)=false from rfl,if_neg Yam];exact Yaf ⟨rfl,I3,by lia⟩
  ·rintro r st2 ⟨rfl,I2,hz⟩;exact ⟨rfl,I2,by simp at hz;lia⟩
  ·have:=I.ru.le;rw [Yan] at this
   lia
  ·rintro r st2 ⟨rfl,I2,h1⟩;refine Yaf (q st2 I2.pm I2.fa ?_);exact I2.ru.one W (by rw [Yan];exact h1)
end
section
variable {prog:Program}{w:World}{A:Around}{E:EX}{s:Shared}{kd:SortKind}{b:Keyed->Keyed->Bool}{good:Keyed->Prop}
noncomputable def J6 (s:Shared)(a:Addr)(vs:List Value):Shared:={ s with heap:=((s.heap.update a (Obj.mapSeq λ_=>#[])).push (seqObj "tuple" vs.toArray 0)).push (seqObj "list" #[] 0) }
theorem ZaG (W:WO b){arr:Array Keyed}(h:arr.size<2):Rng b arr 0 arr.size:=λi j x y i1 i2 i3 e1 e2=>by
 have:i=j:=by lia
 subst this;rw [e1] at e2;cases e2;exact W.le_refl _
theorem O5 {a:Addr}{vs:List Value}{n:Nat}{P:PySem.Fin->Shared->Prop}(W:WO b)(ha:s.heap.get? a=some (seqObj "list" vs.toArray n))(hz:vs.length<=sizeLine)(hg:∀v∈vs,good (v,v))(hk:2<=vs.length->∀{E':EX}{R:SortKind->Shared->Prop},R kd (J6 s a vs)->wpAny (model prog w) A (keyKind' vs.toArray) R E' (J6 s a vs))(L:Uc (model prog w) A E (J6 s a vs) kd b good)(q:∀out:Array Keyed,out.Perm (pairsOf vs)->Rng b out 0 vs.length->P (.done (.ret .none)) { s with heap:=sortedHeap s.heap a vs (out.map (·.2)) }) :
  wpAny (model prog w) A (Builtin.«list.sort» { pos:=[.ref a] }) P E s:=by
 rw [list_sort_plain];refine Yaa (Ycp ha rfl ?_);refine Yaa (Yfe ha rfl ?_ (by rw [Yaw];exact hz) (Yar _));have ha1:=get?_update_seq ha (λ_=>#[]);generalize (if ((#[]:Array Value).size == vs.toArray.size)=true then n else n+1)=n1 at ha1;refine Yaa (seqEpoch_at ha1 rfl ?_);refine Yaa (wpAny_newTuple ?_ hz);refine Yaa (Yff ?_ (Yar _));refine Yci ?_;have ha2:(J6 s a vs).heap.get? a=some (seqObj "list" #[] n1):=Yal _ (Yal _ ha1);show wpAny (model prog w) A _ P E (J6 s a vs);have hps:(pairsOf vs).size=vs.length:=pairsOf_size vs;dsimp only [Yaw];split
 ·rename_i h2;have h2:vs.length<2:=by simpa using h2
  refine Yaa (Yab ?_);refine Yaa (Ybr (Q:=λr s'=>s'=J6 s a vs/\failedOf r.2=none/\(arrOf r.2).Perm (pairsOf vs)/\Rng b (arrOf r.2) 0 vs.length) (Yab ⟨rfl,rfl,.refl _,?_⟩) ?_ (λ_ _ z=>z))
  ·have:=ZaG W (arr:=pairsOf vs) (by lia);rw [hps] at this;exact this
  ·rintro ⟨_,st⟩ s' ⟨rfl,e2,hp,hr⟩;dsimp only;refine Yaa (seqEpoch_at ha2 rfl ?_);have e2:failedOf st=none:=e2;have hl:((arrOf st).map (·.2)).size<=sizeLine+1:=by
    have this:(arrOf st).size=(pairsOf vs).size:=hp.size_eq;rw [pairsOf_size] at this;rw [Array.size_map]
    lia
   refine Yaa (Yfe ha2 rfl ?_ (Yar _) hl);have:(n1 != n1)=false:=by simp
   rw [this,e2];exact Yab (q (arrOf st) hp hr)
 ·rename_i h2;have h2:¬ vs.length<2:=by simpa using h2
  refine Yaa (hk (by lia) ?_);refine Yaa (Ybr (Q:=λr s'=>s'=J6 s a vs/\failedOf r.2=none/\(arrOf r.2).Perm (pairsOf vs)/\Rng b (arrOf r.2) 0 vs.length) ?_ ?_ (λ_ _ z=>z))
  ·refine Oc (st:=SortSt.mk' kd (vs.toArray.zip vs.toArray) #[] 7 none) (Q:=λ_ st=>failedOf st=none/\(arrOf st).Perm (pairsOf vs)/\Rng b (arrOf st) 0 vs.length) W L rfl rfl rfl (λx hx=>?_) λst' k1 k2 k3=>⟨k2,k1,?_⟩
   ·have hx:x∈(pairsOf vs).toList:=hx;rw [pairsOf_toList] at hx;obtain ⟨e,hm⟩:=mem_zip_self hx;obtain ⟨x1,x2⟩:=x;have e:x1=x2:=e;subst e;exact hg _ hm
   ·have e:(arrOf (SortSt.mk' kd (vs.toArray.zip vs.toArray) #[] 7 none)).size=vs.length:=hps;rw [e] at k3;exact k3
  ·rintro ⟨_,st⟩ s' ⟨rfl,e2,hp,hr⟩;dsimp only;refine Yaa (seqEpoch_at ha2 rfl ?_);have e2:failedOf st=none:=e2;have hl:((arrOf st).map (·.2)).size<=sizeLine+1:=by
    have this:(arrOf st).size=(pairsOf vs).size:=hp.size_eq;rw [pairsOf_size] at this;rw [Array.size_map]
    lia
   refine Yaa (Yfe ha2 rfl ?_ (Yar _) hl);have:(n1 != n1)=false:=by simp
   rw [this,e2];exact Yab (q (arrOf st) hp hr)
theorem JF {h:Heap}{a c:Addr}{o:Obj}{f:Obj->Obj}(hc:c≠a)(e:h.get? c=some o):(h.update a f).get? c=some o:=(Heap.get?_update_ne h c a f hc).trans e
theorem Ul {l:Addr}{vs:List Value}{Q:EX}(W:WO b)(hl:s.heap.IsList l vs.toArray)(hz:vs.length<=sizeLine)(hg:∀v∈vs,good (v,v))(hk:∀h':Heap,(∀c o,s.heap.get? c=some o->h'.get? c=some o)->2<=vs.length->∀{E':EX}{R:SortKind->Shared->Prop},R kd { s with heap:=h' }->wpAny (model prog w) A.in1.in1 (keyKind' vs.toArray) R E' { s with heap:=h' })(L:∀h':Heap,(∀c o,s.heap.get? c=some o->h'.get? c=some o)->Uc (model prog w) A.in1.in1 E { s with heap:=h' } kd b good)(q:∀out:Array Keyed,out.Perm (pairsOf vs)->Rng b out 0 vs.length->Q (.ref (s.heap.objs.size+1)) { s with heap:=sortedAll s.heap vs (out.map (·.2)) }) :
  wpAny (model prog w) A (call (.builtin "sorted") [.ref l]) Q E s:=by
 refine Calls.call_function_entry kind_sorted plain_sorted entry_sorted (args_sorted1 _) ?_;unfold Builtin.sorted;refine Yaa (Yab ?_);refine Yaa (collect_list hl ?_ hz);refine Yaa (Yff ?_ hz);refine Yaa (Yci ?_);generalize hh1:(s.heap.push (seqObj "list" #[] 0)).update s.heap.objs.size (Obj.mapSeq λx=>x++vs.toArray)=h1;have sz1:h1.objs.size=s.heap.objs.size+1:=by rw [<-hh1,Heap.size_update,Yck]
 have k1:∀c o,s.heap.get? c=some o->h1.get? c=some o:=λc o e=>by
  rw [<-hh1];exact JF (Yav (Yak e)) (Yal _ e)
 generalize hh2:h1.push { cls:=Value.type "list", data:=Data.seq vs.toArray }=h2;have ha:h2.get? h1.objs.size=some (seqObj "list" vs.toArray 0):=by rw [<-hh2];exact Ybh _ rfl
 have k2:∀c o,s.heap.get? c=some o->h2.get? c=some o:=λc o e=>by
  rw [<-hh2];exact Yal _ (k1 c o e)
 have k3:∀c o,s.heap.get? c=some o->(J6 { s with heap:=h2 } h1.objs.size vs).heap.get? c=some o:=λc o e=>by
  unfold J6;refine Yal _ (Yal _ (JF ?_ (k2 c o e)));have:=Yak e;rw [sz1];exact Yav (Yel this)
 refine Ycv (s:={ s with heap:=h2 }) slot_list_sort ⟨_,ha,rfl⟩ entry_list_sort ?_ (args_list_sort _);refine O5 (s:={ s with heap:=h2 }) W ha hz hg (λh=>hk _ k3 h) (L _ k3) λout p r=>⟨.none,rfl,Yab ⟨_,rfl,?_⟩⟩;have e:({ s with heap:=sortedHeap h2 h1.objs.size vs (out.map (·.2)) }:Shared)={ s with heap:=sortedAll s.heap vs (out.map (·.2)) }:=by
  unfold sortedAll;rw [sz1,<-hh2,<-hh1]
 show Q (.ref h1.objs.size) { s with heap:=sortedHeap h2 h1.objs.size vs (out.map (·.2)) };rw [e,sz1];exact q out p r
noncomputable def ZhX:Keyed->Keyed->Bool:=λx y=>match x.1,y.1 with
 | .int i _,.int j _=>decide (i<j)
 | _,_=>false
noncomputable def Um:Value->Int
 | .int i _=>i
 | _=>0
end
noncomputable def GJ:List Int->List Int->Bool
 | [],[]=>false
 | [],_::_=>true
 | _::_,[]=>false
 | x::xs,y::ys=>if x=y then GJ xs ys else decide (x<y)
section
variable {prog:Program}{w:World}{A:Around}{E:EX}{s:Shared}
theorem Uo:∀{its:List Value}{ns:List Int},IntsAre its ns->∀k:Nat,(its[k]?=none/\ns.drop k=[])\/∃i t,its[k]?=some (.int i t)/\ns.drop k=i::ns.drop (k+1)
 | _,_,.nil,k=>.inl ⟨by simp,by simp⟩
 | _,_,.cons n t h,0=>.inr ⟨n,t,rfl,rfl⟩
 | _,_,.cons n t h,k+1=>by
  rcases Uo h k with ⟨h1,h2⟩ | ⟨i,t,h1,h2⟩
  ·exact .inl ⟨by simpa using h1,by simpa using h2⟩
  ·exact .inr ⟨i,t,by simpa using h1,by simpa using h2⟩
theorem G9 {its:List Value}{ns:List Int}(h:IntsAre its ns):its.length=ns.length:=by
 induction h with
 | nil=>rfl
 | cons n t h ih=>simp [ih]
theorem ZdJ {a c:Addr}{oa oc:Obj}{xs ys:List Value}{ns ms:List Int}{na nc:Nat}{R:Result->Shared->Prop}(ga:s.heap.get? a=some oa)(gc:s.heap.get? c=some oc)(da:oa.data=.seq xs.toArray na)(dc:oc.data=.seq ys.toArray nc)(hx:IntsAre xs ns)(hy:IntsAre ys ms) :
  ∀left k:Nat,ns.length-k=left->k<=ns.length->k<=ms.length->R (.ok (.ret (.bool (GJ (ns.drop k) (ms.drop k))))) s->codeAny (model prog w) A (.builtin "list.__eq__.loop" { pos:=[.ref a,.ref c,rawInt (k:Int),rawInt 0] }) R s:=by
 intro left
 induction left with
 | zero=>
  intro k hl h1 h2 hR;refine Ycz MeetsSeq3.entry_eq_loop ?_;rw [Ydr MeetsSeq3.plain_eq_loop _];show wpAny _ A.in1 (Builtin.List.listItems (.ref a) >>= _) _ _ s;refine Yaa (Ycp ga da (Yaa (Ycp gc dc ?_)));have e1:xs.toArray[((k:Int)).toNat]?=none:=by
   rw [Yef];rcases Uo hx k with ⟨h,_⟩ | ⟨i,t,h,_⟩
   ·simpa using h
   ·have:=(Yao.mp h).1;have:=G9 hx
    lia
  rw [e1];show wpAny _ A.in1 (Builtin.List.listItems (.ref a) >>= _) _ _ s;refine Yaa (Ycp ga da (Yaa (Ycp gc dc (Yab ?_))));show R (.ok (.ret (.bool (decide (xs.toArray.size<ys.toArray.size))))) s;have e2:GJ (ns.drop k) (ms.drop k)=decide (xs.toArray.size<ys.toArray.size):=by
   rw [Yaw,Yaw,G9 hx,G9 hy];have:ns.drop k=[]:=Yfn (by lia);rw [this];cases hd:ms.drop k with
   | nil=>
    have:=List.drop_eq_nil_iff.mp hd;rw [Ybx (by lia)]
    rfl
   | cons y l=>
    have:k<ms.length:=by
     refine Nat.lt_of_not_le λh=>?_;rw [Yfn h] at hd;cases hd
    rw [Ybi (by lia)]
    rfl
  rw [<-e2];exact hR
 | succ left ih=>
  intro k hl h1 h2 hR;refine Ycz MeetsSeq3.entry_eq_loop ?_;rw [Ydr MeetsSeq3.plain_eq_loop _];show wpAny _ A.in1 (Builtin.List.listItems (.ref a) >>= _) _ _ s;refine Yaa (Ycp ga da (Yaa (Ycp gc dc ?_)));rw [Yef];rcases Uo hx k with ⟨h,z⟩ | ⟨i,t,hi,di⟩
  ·have:=List.drop_eq_nil_iff.mp z
   lia
  ·have e1:xs.toArray[k]?=some (.int i t):=by simpa using hi
   rw [e1];rcases Uo hy k with ⟨h,z⟩ | ⟨j,u,hj,dj⟩
   ·have e2:ys.toArray[k]?=none:=by simpa using h
    rw [e2];show wpAny _ A.in1 (Builtin.List.listItems (.ref a) >>= _) _ _ s;refine Yaa (Ycp ga da (Yaa (Ycp gc dc (Yab ?_))));show R (.ok (.ret (.bool (decide (xs.toArray.size<ys.toArray.size))))) s;rw [di,z] at hR;have:=List.drop_eq_nil_iff.mp z;rw [Yaw,Yaw,G9 hx,G9 hy,Ybx (by lia)];exact hR
   ·have e2:ys.toArray[k]?=some (.int j u):=by simpa using hj
    rw [e2];rw [di,dj] at hR;show wpAny _ A.in1 (eqBool (.int i t) (.int j u) >>= _) _ _ s;refine Yaa (wpAny_eqBool_int ?_);have kl:k<ms.length:=by
     have:=(Yao.mp hj).1;rw [G9 hy] at this;exact this
    by_cases hij:i=j
    ·rw [show (i == j)=true by rw [hij];exact Yfl _,if_pos rfl];refine Yab ⟨Yeb MeetsSeq3.plain_eq_loop _,ih (k+1) (by lia) (by lia) (by lia) ?_⟩;unfold GJ at hR;rw [if_pos hij] at hR;exact hR
    ·rw [show (i == j)=false by rw [Ydu];exact hij,if_neg Yam];refine Yaa (Ycp ga da (Yaa (Ycp gc dc ?_)));rw [e1,e2];refine Yaa (lt_int (Yab ?_));unfold GJ at hR;rw [if_neg hij] at hR;exact hR
theorem Zb9 (a c:Addr)(xs ys:List Value)(ns ms:List Int)(na nc:Nat)(hx:IntsAre xs ns)(hy:IntsAre ys ms):Meets (Builtin.«list.__lt__» { pos:=[.ref a,.ref c] }) λA R s=>
  s.heap.IsList a xs.toArray/\s.heap.IsList c ys.toArray/\R (.ok (.ret (.bool (GJ ns ms)))) s:=by
 intro prog w A R s ⟨ha,hc,hR⟩;obtain ⟨oa,ga,ca,n1,da⟩:=ha;obtain ⟨oc,gc,cc,n2,dc⟩:=hc;show wpAny _ A.in1 (isInstance (.ref c) (.type "list") >>= _) _ _ s;refine Yaa (Yfs (T := "list") ⟨oc,gc,cc⟩ (by first | rfl | decide +kernel) ?_);refine Yab ⟨Yeb MeetsSeq3.plain_eq_loop _,?_⟩;exact ZdJ ga gc da dc hx hy _ 0 rfl (Yar _) (Yar _) hR
theorem Ze {a c:Addr}{xs ys:List Value}{ns ms:List Int}{Q:Bool->Shared->Prop}(ha:s.heap.IsList a xs.toArray)(hc:s.heap.IsList c ys.toArray)(hx:IntsAre xs ns)(hy:IntsAre ys ms)(hu:A.units<cLine)(h:Q (GJ ns ms) s) :
  wpAny (model prog w) A (oneLt' true (.ref a) (.ref c)) Q E s:=by
 rw [oneLt'_eq];dsimp only;rw [if_pos rfl];refine Yaa (wpAny_cRoom hu ?_);have Ta:s.TypeIs (.ref a) "list" := ha.elim λo z=>⟨o,z.1,z.2.1⟩;refine Yaa (wpAny_callSpecialIfBound?_slot Ta F.slot_list_lt (call_meets F.slot_list_lt Ta F.entry_list_lt (F.args_list_lt_2 _ _) (Zb9 a c xs ys ns ms 0 0 hx hy) ⟨ha,hc,?_⟩));show wpAny _ A (truthOfDropped (.bool (GJ ns ms))) Q E s;exact Ydv h
end
end L2
namespace L2
open PySem PySem.Spec PyProof.Rows Classical
theorem Ja:∀xs:List Int,GJ xs xs=false
 | []=>rfl
 | x::xs=>by
  unfold GJ;rw [if_pos rfl];exact Ja xs
theorem On:∀{xs ys zs:List Int},GJ xs ys=true->GJ ys zs=true->GJ xs zs=true
 | [],[],_,h,_=>by simp [GJ] at h
 | [],_::_,[],_,h=>by simp [GJ] at h
 | [],_::_,_::_,_,_=>rfl
 | _::_,[],_,h,_=>by simp [GJ] at h
 | _::_,_::_,[],_,h=>by simp [GJ] at h
 | x::xs,y::ys,z::zs,h1,h2=>by
  unfold GJ at h1 h2 ⊢;by_cases e1:x=y
  ·rw [if_pos e1] at h1;by_cases e2:y=z
   ·rw [if_pos e2] at h2;rw [if_pos (e1.trans e2)];exact On h1 h2
   ·rw [if_neg e2] at h2;rw [if_neg (by rw [e1];exact e2),e1];exact h2
  ·rw [if_neg e1] at h1;have h1:=Ybw h1;by_cases e2:y=z
   ·rw [if_neg (by rw [<-e2];exact e1),<-e2];exact Ybi h1
   ·rw [if_neg e2] at h2;have h2:=Ybw h2;rw [if_neg (by lia)];exact Ybi (by lia)
theorem J9:∀{xs ys:List Int},GJ xs ys=false->GJ ys xs=false->xs=ys
 | [],[],_,_=>rfl
 | [],_::_,h,_=>by simp [GJ] at h
 | _::_,[],_,h=>by simp [GJ] at h
 | x::xs,y::ys,h1,h2=>by
  unfold GJ at h1 h2;by_cases e:x=y
  ·rw [if_pos e] at h1;rw [if_pos e.symm] at h2;rw [e,J9 h1 h2]
  ·rw [if_neg e] at h1;rw [if_neg (Ne.symm e)] at h2;have h1:=Yeq h1;have h2:=Yeq h2
   lia
theorem ZaH {α:Type}{κ:Keyed->α}{lt:α->α->Bool}(irr:∀a,lt a a=false)(tr:∀{a b c},lt a b=true->lt b c=true->lt a c=true)(tot:∀{a b},lt a b=false->lt b a=false->a=b):WO (λx y=>lt (κ x) (κ y)):=by
 refine ⟨λx=>irr _,λx y z=>tr,λx y z h=>?_⟩;cases h1:lt (κ x) (κ y) with
 | true=>exact .inl rfl
 | false=>
  cases h2:lt (κ y) (κ x) with
  | true=>exact .inr (tr h2 h)
  | false=>
   rw [<-tot h1 h2];exact .inr h
theorem J7 {α β:Type}{f:α->β}:∀{l:List β}{zs:List α},l.Perm (zs.map f)->∃zs':List α,zs'.Perm zs/\zs'.map f=l:=by
 intro l zs h;generalize hm:zs.map f=m at h
 induction h generalizing zs with
 | nil=>exact ⟨zs,.refl _,by rw [hm]⟩
 | @cons x l1 l2 _ ih=>
  cases zs with
  | nil=>simp at hm
  | cons z zs=>
   simp at hm;obtain ⟨zs',h1,h2⟩:=ih hm.2;exact ⟨z::zs',h1.cons z,by rw [Yaq,h2,hm.1]⟩
 | swap x y l=>
  cases zs with
  | nil=>simp at hm
  | cons z zs=>
   cases zs with
   | nil=>simp at hm
   | cons z2 zs=>
    simp at hm;exact ⟨z2::z::zs,.swap _ _ _,by simp [hm.1,hm.2.1,hm.2.2]⟩
 | trans _ _ ih1 ih2=>
  obtain ⟨zs1,h1,h2⟩:=ih2 hm;obtain ⟨zs2,h3,h4⟩:=ih1 h2;exact ⟨zs2,h3.trans h1,h4⟩
section
variable {prog:Program}{w:World}{A:Around}{E:EX}{s:Shared}{b:Keyed->Keyed->Bool}{good:Keyed->Prop}
theorem Wf (h:∀x y,good x->good y->∀{E':EX}{Q:Bool->Shared->Prop},Q (b x y) s->wpAny (model prog w) A (oneLt' true x.1 y.1) Q E' s):Uc (model prog w) A E s oneType' b good:=by
 intro x y st Q gx gy hs q;rw [lt'_eq];refine Yae (wpS_get ?_);refine Yae (wpS_lift ?_);rw [hs,keyLt'_oneType];exact Ydz (h x y gx gy ⟨rfl,Yaf q⟩)
theorem J8 {β:Type}{f:Value->Sem β}{g:Value->β}:∀{vs:List Value}{Q:List β->Shared->Prop},(∀v∈vs,∀{Q:β->Shared->Prop},Q (g v) s->wpAny (model prog w) A (f v) Q E s)->Q (vs.map g) s->wpAny (model prog w) A (List.mapM f vs) Q E s
 | [],Q,_,q=>by
  rw [List.mapM_nil];exact Yab q
 | v::vs,Q,h,q=>by
  rw [List.mapM_cons];refine Yaa (h v (Ybe ..) ?_);exact Yaa (J8 (λu hu=>h u (Ybb _ hu)) (Yab q))
theorem O6 {α β:Type}{m:Sem α}{f:α->β}{Q:β->Shared->Prop}(h:wpAny (model prog w) A m (λa s'=>Q (f a) s') E s):wpAny (model prog w) A (f <$> m) Q E s:=by
 rw [map_eq_pure_bind];exact Yaa (Ybr h (λa s' z=>Yab z) λ_ _ z=>z)
theorem OI {T:String}{vs:List Value}{R:SortKind->Shared->Prop}(hT:T ≠ "tuple")(h:∀v∈vs,s.TypeIs v T)(h2:2<=vs.length)(q:R oneType' s):wpAny (model prog w) A (keyKind' vs.toArray) R E s:=by
 rw [keyKind'_eq,List.mapM_toArray];have ne:(Value.type T != Value.type "tuple")=true:=by
  rw [bne_iff_ne];intro e;injection e with e
  exact hT e
 refine Yaa (O6 (J8 (g:=λ_=>none) (λv hv Q q=>?_) ?_))
 ·show wpAny _ _ (typeOf v >>= _) _ _ s;refine Yaa (Ydx (h v hv) ?_);rw [if_pos ne];exact Yab q
 ·obtain ⟨v1,v2,rest,rfl⟩:∃v1 v2 rest,vs=v1::v2::rest:=by
   match vs,h2 with
   | v1::v2::rest,_=>exact ⟨v1,v2,rest,rfl⟩
  rw [if_neg (by simp)];rw [if_neg (by simp)];rw [oneTypeOnly'_eq,List.mapM_toArray];refine Yaa (Yaa (O6 (J8 (g:=λ_=>Value.type T) (λv hv Q q=>Ydx (h v hv) q) ?_)));simp only [Yaq,List.getElem?_toArray,List.getElem?_cons_zero];refine Yab ?_;rw [if_pos (by simp)];exact Yab q
end
noncomputable def ltI (x y:Int):Bool:=decide (x<y)
theorem ZcO:WO (λx y=>ltI (Um x.1) (Um y.1)):=ZaH (κ:=λx:Keyed=>Um x.1) (lt:=ltI) (λa=>by simp [ltI]) (λ{a b c} h1 h2=>by
  have h1:=Ybw h1;have h2:=Ybw h2;exact Ybi (by lia)) (λ{a b} h1 h2=>by
  have h1:=Yeq h1;have h2:=Yeq h2
  lia)
theorem JB {b:Keyed->Keyed->Bool}{out:Array Keyed}{n:Nat}(h:Rng b out 0 n)(hn:out.size=n):out.toList.Pairwise (kle b):=by
 rw [Yei];intro i j hi hj hij;rw [Yan] at hi hj;exact h i j _ _ (Yar _) (by lia) (by lia) (by simp [hi]) (by simp [hj])
theorem UL {vs:List Value}{out:Array Keyed}(h:out.Perm (pairsOf vs)):(out.map (·.2)).toList.Perm vs/\(∀x∈out.toList,x.1=x.2/\x.1∈vs)/\out.size=vs.length:=by
 have p:out.toList.Perm (vs.zip vs):=by
  have:=h.toList;rw [pairsOf_toList] at this;exact this
 refine ⟨?_,λx hx=>mem_zip_self (p.mem_iff.mp hx),by rw [h.size_eq,pairsOf_size]⟩;rw [Yfg];have:=p.map (λx:Keyed=>x.2);rw [show (vs.zip vs).map (λx:Keyed=>x.2)=vs from List.map_snd_zip (Yad _)] at this;exact this
noncomputable def ZdK (h:Heap)(v:Value):List Int:=if q:∃ns a its,v=.ref a/\h.IsList a its/\IntsAre its.toList ns then choose q else []
theorem Wg:∀{its:List Value}{ns ms:List Int},IntsAre its ns->IntsAre its ms->ns=ms
 | _,_,_,.nil,.nil=>rfl
 | _,_,_,.cons n t h,.cons _ _ k=>by rw [Wg h k]
theorem Zf {h:Heap}{a:Addr}{xs ys:Array Value}(h1:h.IsList a xs)(h2:h.IsList a ys):xs=ys:=by
 obtain ⟨o,e,_,n,d⟩:=h1;obtain ⟨o',e',_,n',d'⟩:=h2;rw [e] at e';cases e';rw [d] at d';cases d'
 rfl
theorem Wh {h:Heap}{a:Addr}{its:Array Value}{ns:List Int}(hl:h.IsList a its)(hi:IntsAre its.toList ns):ZdK h (.ref a)=ns:=by
 have q:∃ns a' its,Value.ref a=.ref a'/\h.IsList a' its/\IntsAre its.toList ns:=⟨ns,a,its,rfl,hl,hi⟩;unfold ZdK;rw [dif_pos q];obtain ⟨a',its',e,h1,h2⟩:=choose_spec q;cases e;have:=Zf hl h1;subst this;exact Wg h2 hi
theorem ZdL (h:Heap):WO (λx y=>GJ (ZdK h x.1) (ZdK h y.1)):=ZaH (κ:=λx:Keyed=>ZdK h x.1) (lt:=GJ) Ja On J9
section
variable {X:Cx}(K:W.Frag)
noncomputable def ZeT:List V->Hp->VK->Prop:=λxs H Q=>∃(p:Addr)(ns:List Int),xs=[.ref p]/\SqL K H p (ns.map V.int)/\∀(l:Addr)(ns':List Int),H l=none->ns'.Perm ns->ns'.Pairwise (· <= ·)->Q (.ref l) (upd H l (.lst (ns'.map V.int)))
theorem ZeU (h:X.K=K:=by rfl):Od X (.builtin "sorted") (ZeT K):=by
 subst h;intro qJ s σ H xs us Q I rv h;obtain ⟨p,ns,rfl,hq,q⟩:=h;obtain ⟨u,rfl,ru⟩:=rv.one;cases ru;obtain ⟨its,r,pl,hz⟩:=I.list hq;have hl:=r.length;rw [Yac] at hl hz;have hi:=J0 r;have isI:∀v∈its,∃i t,v=.int i t:=hi.all;refine Ul (good:=λx=>∃i t,x.1=.int i t) ZcO pl.isList (by lia) isI (λh' k h2 E' R q=>?_) (λh' k=>Wf λx y gx gy E' Q q=>?_) λout hp hr=>?_
 ·exact OI (T := "int") (by decide) (λv hv=>by obtain ⟨i,t,rfl⟩:=isI v hv;exact typeIs_int _ _ _) h2 q
 ·obtain ⟨i,t,e1⟩:=gx;obtain ⟨j,u,e2⟩:=gy;simp only [e1,e2] at q ⊢;exact oneLt_int q
 ·obtain ⟨o1,o2,o3⟩:=UL hp;obtain ⟨e,he⟩:=sortedAll_at s.heap its (out.map (·.2));have rel:∀l:List Keyed,(∀x∈l,x.1=x.2/\x.1∈its)->Vals ((l.map λx=>Um x.2).map V.int) (l.map (·.2)):=by
   intro l
   induction l with
   | nil=>intro _;exact .nil
   | cons x l ih=>
    intro h;obtain ⟨h1,h2⟩:=h x (Ybe ..);obtain ⟨i,t,e⟩:=isI x.1 h2;rw [h1] at e;refine .cons ⟨t,?_⟩ (ih λy hy=>h y (Ybb _ hy));show x.2=.int (Um x.2) t;rw [e]
    rfl
  have rv':=rel out.toList o2;have pn:(out.toList.map λx=>Um x.2).Perm ns:=by
   have a1:=o1.map Um;rw [Yfg,Ycq] at a1;refine a1.trans (.of_eq ?_);have:∀{its:List Value}{ns:List Int},IntsAre its ns->its.map Um=ns:=by
    intro its ns h
    induction h with
    | nil=>rfl
    | cons n t h ih=>rw [Yaq,ih];rfl
   exact this hi
  have ps:(out.toList.map λx=>Um x.2).Pairwise (· <= ·):=by
   rw [Ybq];refine (JB hr o3).imp_of_mem λ{x y} hx hy hxy=>?_;have:=Yeq hxy;rw [<-(o2 x hx).1,<-(o2 y hy).1]
   lia
  refine ⟨.ref _,_,I.laid (a:=s.heap.objs.size+1) (t':=s.toks) (o:=.lst ((out.toList.map λx=>Um x.2).map V.int)) (λb o e=>sortedAll_old e) (Ydf _) ⟨by rw [Yac,pn.length_eq];exact hz,(out.map (·.2)).toList,e,by rw [Yfg];exact rv',he⟩,rfl,q _ _ (I.hok.fresh (Ydf _)) pn ps⟩
noncomputable def ZdM:List V->Hp->VK->Prop:=λxs H Q=>∃(p:Addr)(zs:List (Addr×List Int)),xs=[.ref p]/\SqL K H p (zs.map λz=>V.ref z.1)/\(∀z∈zs,SqL K H z.1 (z.2.map V.int)) /\
 ∀(l:Addr)(zs':List (Addr×List Int)),H l=none->zs'.Perm zs->(zs'.map (·.2)).Pairwise (λa b=>GJ b a=false)->Q (.ref l) (upd H l (.lst (zs'.map λz=>V.ref z.1)))
theorem Wi:∀{zs:List (Addr×List Int)}{its:List Value},Vals (zs.map λz=>V.ref z.1) its->its=zs.map λz=>Value.ref z.1
 | [],_,h=>by cases h;rfl
 | z::zs,_,h=>by
  cases h with
  | cons r h=>
   cases r;rw [Wi h]
   rfl
theorem O7:∀(zs:List (Addr×List Int)),Vals (zs.map λz=>V.ref z.1) (zs.map λz=>Value.ref z.1)
 | []=>.nil
 | z::zs=>.cons rfl (O7 zs)
theorem ZaI (hu:X.A.units+64<cLine)(h:X.K=K:=by rfl):Od X (.builtin "sorted") (ZdM K):=by
 subst h;intro qJ s σ H xs us Q I rv h;obtain ⟨p,zs,rfl,hq,hz,q⟩:=h;obtain ⟨u,rfl,ru⟩:=rv.one;cases ru;obtain ⟨its,r,pl,hzl⟩:=I.list hq;have hl:=r.length;rw [Yac] at hl hzl;have ei:=Wi r;have key:∀z∈zs,∃its:Array Value,s.heap.IsList z.1 its/\IntsAre its.toList z.2:=λz hzm=>by
  obtain ⟨iz,rz,pz,_⟩:=I.list (hz z hzm);exact ⟨iz.toArray,pz.isList,J0 rz⟩
 have isL:∀v∈its,∃a,∃it:Array Value,∃ns,v=.ref a/\s.heap.IsList a it/\IntsAre it.toList ns:=λv hv=>by
  rw [ei] at hv;obtain ⟨z,hzm,rfl⟩:=Yaj.mp hv;obtain ⟨it,h1,h2⟩:=key z hzm;exact ⟨z.1,it,z.2,rfl,h1,h2⟩
 have keepL:∀{h':Heap}{a:Addr}{it:Array Value},(∀c o,s.heap.get? c=some o->h'.get? c=some o)->s.heap.IsList a it->h'.IsList a it:=λk hl=>by
  obtain ⟨o,e,r⟩:=hl;exact ⟨o,k _ _ e,r⟩
 refine Ul (good:=λx=>∃a,∃it:Array Value,∃ns,x.1=.ref a/\s.heap.IsList a it/\IntsAre it.toList ns) (ZdL s.heap) pl.isList (by lia) isL (λh' k h2 E' R q=>?_) (λh' k=>Wf λx y gx gy E' Q q=>?_) λout hp hr=>?_
 ·refine OI (T := "list") (by decide) (λv hv=>?_) h2 q;obtain ⟨a,it,ns,rfl,h1,_⟩:=isL v hv;obtain ⟨o,e,c,_⟩:=keepL k h1;exact ⟨o,e,c⟩
 ·obtain ⟨a,it,ns,e1,h1,h2⟩:=gx;obtain ⟨c,jt,ms,e2,h3,h4⟩:=gy;simp only [e1,e2,Wh h1 h2,Wh h3 h4] at q ⊢;exact Ze (xs:=it.toList) (ys:=jt.toList) (keepL k h1) (keepL k h3) h2 h4 (by rw [Yer,Yer];lia) q
 ·obtain ⟨o1,o2,o3⟩:=UL hp;obtain ⟨e,he⟩:=sortedAll_at s.heap its (out.map (·.2));rw [ei] at o1;obtain ⟨zs',p1,p2⟩:=J7 o1;have ps:(zs'.map (·.2)).Pairwise (λa b=>GJ b a=false):=by
   have a1:=JB hr o3;have a2:(out.toList.map (·.2)).Pairwise (λu v=>GJ (ZdK s.heap v) (ZdK s.heap u)=false):=by
    rw [Ybq];refine a1.imp_of_mem λ{x y} hx hy hxy=>?_;rw [<-(o2 x hx).1,<-(o2 y hy).1];exact hxy
   rw [Yfg] at p2;rw [<-p2,Ybq] at a2;rw [Ybq];refine a2.imp_of_mem λ{x y} hx hy hxy=>?_;obtain ⟨it,h1,h2⟩:=key x (p1.mem_iff.mp hx);obtain ⟨jt,h3,h4⟩:=key y (p1.mem_iff.mp hy);rw [Wh h1 h2,Wh h3 h4] at hxy;exact hxy
  refine ⟨.ref _,_,I.laid (a:=s.heap.objs.size+1) (t':=s.toks) (o:=.lst (zs'.map λz=>V.ref z.1)) (λb o e=>sortedAll_old e) (Ydf _) ⟨by rw [Yac,p1.length_eq];exact hzl,(out.map (·.2)).toList,e,by rw [<-p2];exact O7 zs',he⟩,rfl,q _ _ (I.hok.fresh (Ydf _)) p1 ps⟩
end
end L2
namespace L2
open PySem PySem.Spec PyProof.Rows
section
variable {prog:Program}{w:World}{A:Around}{E:EX}{s:Shared}
end
section
variable {X:Cx}
end
section
variable {prog:Program}{w:World}{A:Around}{E:EX}{s:Shared}
noncomputable def Fall (kz:List Int)(vs out:List Value):Prop:=∃ps:List (Int×Value),ps.Perm (kz.zip vs)/\out=ps.map Prod.snd/\ps.Pairwise (λp q=>q.1<=p.1)
theorem fall_of {keys:List Value}{vs:List Value}{kz:List Int}{xs:Array Keyed}(hk:IntsAre keys kz)(hp:xs.toList.Perm (keys.zip vs))(hr:xs.toList.Pairwise (kle λx y=>ltI (Um x.1) (Um y.1))):Fall kz vs ((xs.toList.map (·.2)).reverse):=by
 have en:∀{l:List Value}{ns:List Int},IntsAre l ns->l.map Um=ns:=by
  intro l ns h
  induction h with
  | nil=>rfl
  | cons n t h ih=>rw [Yaq,ih];rfl
 refine ⟨(xs.toList.map λx=>(Um x.1,x.2)).reverse,(List.reverse_perm _).trans ?_,?_,?_⟩
 ·refine (hp.map λx:Keyed=>(Um x.1,x.2)).trans (.of_eq ?_);rw [<-en hk,List.zip_map_left];exact List.map_congr_left λ⟨x,y⟩ _=>rfl
 ·rw [List.map_reverse,Ycq]
  rfl
 ·rw [List.pairwise_reverse,Ybq];refine hr.imp λ{x y} h=>?_;have:=Yeq h
  lia
structure ZeV (J:Shared->Prop)(a b:Addr):Prop where
 put:∀(s:Shared)(c:Addr)(f:Obj->Obj),c=a\/c=b->J s->J { s with heap:=s.heap.update c f }
noncomputable abbrev keyHeap (h:Heap)(a:Addr)(vs:List Value):Heap:=((h.update a (Obj.mapSeq λ_=>#[])).push (seqObj "tuple" vs.toArray 0)).push (seqObj "list" #[] 0)
theorem Zca {α:Type}{R:α->α->Prop}:∀{l:List α},l.length<2->l.Pairwise R:=λ{l} h=>by
 cases l with
 | nil=>exact .nil
 | cons a l=>
  cases l with
  | nil=>simp
  | cons b l=>exact absurd h (by simp)
theorem O8 {a q:Addr}{vs:List Value}{kz:List Int}{n:Nat}{J:Shared->Prop}{P:PySem.Fin->Shared->Prop}(ha:s.heap.get? a=some (seqObj "list" vs.toArray n))(hz:vs.length<=sizeLine)(hl:kz.length=vs.length)(S:ZeV J a (s.heap.objs.size+1))(hJ:J { s with heap:=keyHeap s.heap a vs })(ask:∀(i:Nat)(v:Value)(k:Int)(s1:Shared)(R:EX)(E':EX),vs[i]?=some v->kz[i]?=some k->J s1->s.heap.objs.size+1<s1.heap.objs.size ->
   (∀t s2,J s2->s1.heap.objs.size<=s2.heap.objs.size->(∀c o,c=a\/c=s.heap.objs.size+1->s1.heap.get? c=some o->s2.heap.get? c=some o)->R (.int k t) s2)->wpAny (model prog w) A (call (.ref q) [v]) R E' s1)(fin:∀(s2:Shared)(out:Array Value)(c:Nat),J s2->s2.heap.get? a=some (seqObj "list" out c)->Fall kz vs out.toList->P (.done (.ret .none)) s2) :
  wpAny (model prog w) A (Builtin.«list.sort» ⟨[.ref a],[(Str.ofString "key", .ref q),(Str.ofString "reverse", .bool true)]⟩) P E s:=by
 rw [PyProof.Rows.ksk_t2];unfold PyProof.Rows.ksk_tree;have hlt:=Yak ha;refine Yaa (Ycp ha rfl ?_);refine Yaa (Yfe ha rfl ?_ (by rw [Yaw];exact hz) (Yar _));have ha1:=get?_update_seq ha (λ_=>#[]);generalize (if ((#[]:Array Value).size == vs.toArray.size)=true then n else n+1)=e1 at ha1;refine Yaa (seqEpoch_at ha1 rfl ?_);refine Yaa (wpAny_newTuple ?_ hz);refine Yaa (Yff ?_ (Yar _));refine Yci ?_;have z1:((s.heap.update a (Obj.mapSeq λ_=>#[])).push (seqObj "tuple" vs.toArray 0)).objs.size=s.heap.objs.size+1:=by rw [Yck,Heap.size_update]
 have hk1:(keyHeap s.heap a vs).get? (s.heap.objs.size+1)=some (seqObj "list" #[] 0):=by rw [<-z1];exact Ybh _ rfl
 have ha2:(keyHeap s.heap a vs).get? a=some (seqObj "list" #[] e1):=Yal _ (Yal _ ha1);have z2:(keyHeap s.heap a vs).objs.size=s.heap.objs.size+2:=by rw [Yck,z1]
 show wpAny (model prog w) A (PyProof.Rows.ksk_rest a (.ref q) true vs.toArray e1 (.ref ((s.heap.update a (Obj.mapSeq λ_=>#[])).push (seqObj "tuple" vs.toArray 0)).objs.size)) P E { s with heap:=keyHeap s.heap a vs };rw [z1];generalize keyHeap s.heap a vs=h0 at hJ hk1 ha2 z2 ⊢;generalize hkS:s.heap.objs.size+1=kS at *;have nak:a≠kS:=by rw [<-hkS];exact Yav (Yel hlt)
 unfold PyProof.Rows.ksk_rest;refine Yaa (Yds ?_);refine Yaa ?_;rw [<-Array.forIn_toList];refine PyProof.Rows.ksk_fold (λi s1=>J s1/\kS<s1.heap.objs.size/\s1.heap.get? a=some (seqObj "list" #[] e1)/\∃keys c,s1.heap.get? kS=some (seqObj "list" keys c)/\IntsAre keys.toList (kz.take i)) vs.toArray.toList 0 _ ⟨hJ,by show kS<h0.objs.size;lia,ha2,#[],0,hk1,.nil⟩ ?_ ?_
 ·rintro j x s1 hx ⟨j1,l1,a1,keys,c,k1,ik⟩;have hx:vs[j]?=some x:=by simpa using hx
  have hj:j<vs.length:=(Yao.mp hx).1;have hk:kz[j]?=some kz[j]:=Yau (by lia);rw [Ydh] at ik;refine Yaa (Ydz (ask j x kz[j] s1 _ _ hx hk j1 l1 λt s2 j2 l2 kp=>?_));have k2:=kp kS _ (.inr rfl) k1;have a2:=kp a _ (.inl rfl) a1;have il:keys.size=j:=by
   have:=ik.length;rw [Yan,Ybm] at this
   lia
  refine Yaa (Yfe k2 rfl ?_ (by lia) (by show (keys.push _).size<=_;rw [Ycn];lia));refine Yab ⟨rfl,S.put _ _ _ (.inr rfl) j2,by show kS<(s2.heap.update kS _).objs.size;rw [Heap.size_update];lia,(Ycm _ _ (Ne.symm nak)).trans a2,keys.push (.int kz[j] t),_,get?_update_seq k2 (·.push (.int kz[j] t)),?_⟩;rw [Yem,Ydh,Ybz,hk];exact PyProof.Rows.ksk_snoc ik
 ·rintro s1 ⟨j1,l1,a1,keys,c,k1,ik⟩;rw [show 0+vs.toArray.toList.length=kz.length by simp [hl],Ybp] at ik;have il:keys.size=vs.length:=by
   have:=ik.length;rw [Yan] at this
   lia
  have isI:∀v∈keys.toList,∃i t,v=.int i t:=ik.all;refine Yaa (Ycp k1 rfl ?_);have kzip:(keys.zip vs.toArray).toList=keys.toList.zip vs:=PyProof.Rows.ksk_zip keys vs;have zsz:(keys.zip vs.toArray).size=vs.length:=by simp [Array.size_zip,il]
  have tail:∀st:SortSt,failedOf st=none->(arrOf st).toList.Perm (keys.toList.zip vs)->(arrOf st).toList.Pairwise (kle λx y=>ltI (Um x.1) (Um y.1))->wpAny (model prog w) A (PyProof.Rows.ksk_tail a true e1 (.ref kS) st) P E s1:=by
   intro st f0 p0 r0;have asz:(arrOf st).size=vs.length:=by
    have:=p0.length_eq;rw [Yan,List.length_zip,Yan] at this
    lia
   unfold PyProof.Rows.ksk_tail;refine Yaa (Yfe k1 rfl ?_ (by lia) (Yar _));refine Yaa (wpAny_letGo ?_);have a3:(s1.heap.update kS (Obj.mapSeq λ_=>#[])).get? a=some (seqObj "list" #[] e1):=(Ycm _ _ (Ne.symm nak)).trans a1;refine Yaa (seqEpoch_at a3 rfl ?_);refine Yaa (Yfe a3 rfl ?_ (Yar _) (by rw [if_pos rfl,Array.size_reverse,Array.size_map];lia));rw [show (e1 != e1)=false by simp,f0];refine Yab (fin _ _ _ (S.put _ _ _ (.inl rfl) (S.put _ _ _ (.inr rfl) j1)) (get?_update_seq a3 _) ?_);rw [if_pos rfl,Yep,Yfg];exact fall_of ik p0 r0
  unfold PyProof.Rows.ksk_end;dsimp only;rw [if_pos rfl];refine Yaa (Yds ?_);split
  ·rename_i h2;have h2:vs.length<2:=by simpa using h2
   refine Yaa (Yab ?_);refine Yaa (Ybr (Q:=λr s'=>s'=s1/\r.2=SortSt.mk' general' (keys.zip vs.toArray).reverse #[] 7 none) (Yab ⟨rfl,rfl⟩) ?_ (λ_ _ z=>z));rintro ⟨_,st⟩ s' ⟨rfl,rfl⟩;refine tail _ rfl ?_ ?_
   ·show (keys.zip vs.toArray).reverse.toList.Perm _;rw [Yep,kzip];exact List.reverse_perm _
   ·show (keys.zip vs.toArray).reverse.toList.Pairwise _;have hlz:(keys.zip vs.toArray).reverse.toList.length<2:=by rw [Yan,Array.size_reverse];lia
    exact Zca hlz
  ·rename_i h2;have h2:¬ vs.length<2:=by simpa using h2
   have kk:wpAny (model prog w) A (keyKind' keys) (λkind s'=>kind=oneType'/\s'=s1) E s1:=by
    have:keys=keys.toList.toArray:=by simp
    rw [this];exact OI (T := "int") (by decide) (λv hv=>by obtain ⟨i,t,rfl⟩:=isI v hv;exact typeIs_int _ _ _) (by rw [Yan];lia) ⟨rfl,rfl⟩
   refine Yaa (Ybr kk ?_ (λ_ _ z=>z));rintro _ s1' ⟨rfl,es⟩;rw [es];have L:Uc (model prog w) A E s1 oneType' (λx y=>ltI (Um x.1) (Um y.1)) (λx=>∃i t,x.1=.int i t):=Wf λx y gx gy E' Q q=>by
    obtain ⟨i,t,e1⟩:=gx;obtain ⟨j,u,e2⟩:=gy;simp only [e1,e2] at q ⊢;exact oneLt_int q
   refine Yaa (Ybr (Oc (st:=SortSt.mk' oneType' (keys.zip vs.toArray).reverse #[] 7 none) (Q:=λ_ st=>failedOf st=none/\(arrOf st).toList.Perm (keys.toList.zip vs)/\(arrOf st).toList.Pairwise (kle λx y=>ltI (Um x.1) (Um y.1))) ZcO L rfl rfl rfl (λx hx=>?_) λst' p1 f1 r1=>⟨f1,?_,?_⟩) ?_ (λ_ _ z=>z))
   ·have hx:x∈(keys.zip vs.toArray).reverse.toList:=hx;rw [Yep,List.mem_reverse,kzip] at hx;exact isI _ (List.of_mem_zip (a:=x.1) (b:=x.2) hx).1
   ·have p1:(arrOf st').Perm (keys.zip vs.toArray).reverse:=p1;refine p1.toList.trans ?_;rw [Yep,kzip];exact List.reverse_perm _
   ·have p1:(arrOf st').Perm (keys.zip vs.toArray).reverse:=p1;exact JB r1 p1.size_eq
   ·rintro ⟨_,st⟩ s' ⟨rfl,f1,p1,r1⟩;exact tail st f1 p1 r1
noncomputable def upI (a:Int)(n:Nat):List Int:=(List.range n).map λ(i:Nat)=>a+(i:Int)
theorem ZdN {a:Int}:∀{n:Nat}{acc:Array Value},ItemsOf (λi v=>∃t,v=Value.int (a+i * 1) t) acc n->IntsAre acc.toList (upI a n):=by
 intro n acc h;have e:∀(l:List Value)(b:Int),(∀(j:Nat) v,l[j]?=some v->∃t,v=Value.int (b+j) t)->IntsAre l ((List.range l.length).map λ(i:Nat)=>b+(i:Int)):=by
  intro l
  induction l with
  | nil=>intro b _;exact .nil
  | cons x l ih=>
   intro b hx;obtain ⟨t,e⟩:=hx 0 x rfl;subst e;rw [Ybn,List.range_succ_eq_map,Yaq,Ycq];have h2:=ih (b+1) λj v hv=>by
    obtain ⟨t,e⟩:=hx (j+1) v (by simpa using hv);exact ⟨t,by rw [e];congr 1;lia⟩
   have e3:((List.range l.length).map λ(i:Nat)=>b+1+(i:Int))=(List.range l.length).map ((λ(i:Nat)=>b+(i:Int))∘Nat.succ):=List.map_congr_left λi _=>by show b+1+(i:Int)=b+((i+1:Nat):Int);lia
   rw [e3] at h2;exact .cons _ t h2
 have:=e acc.toList a λj v hv=>by
  rw [Yay] at hv;obtain ⟨t,e⟩:=h.2 j v hv;exact ⟨t,by rw [e];congr 1;lia⟩
 rw [Yan,h.1] at this;exact this
theorem Yk:∀{vs:List Value}{ns:List Int}{i:Nat}{v:Value},IntsAre vs ns->vs[i]?=some v->∃k t,ns[i]?=some k/\v=.int k t
 | _,_,i,v,.nil,h=>by simp at h
 | _,_,0,v,.cons n t _,h=>⟨n,t,rfl,by simpa using h.symm⟩
 | _,_,i+1,v,.cons n t r,h=>by
  obtain ⟨k,t',e1,e2⟩:=Yk (i:=i) r (by simpa using h);exact ⟨k,t',by simpa using e1,e2⟩
theorem W2:∀{l:List Value}{ns:List Int},IntsAre l ns->l.map Um=ns
 | _,_,.nil=>rfl
 | _,_,.cons n t r=>by rw [Yaq,W2 r];rfl
theorem Yl:∀{l:List Value},(∀v∈l,∃i t,v=.int i t)->IntsAre l (l.map Um)
 | [],_=>.nil
 | x::l,h=>by
  obtain ⟨i,t,e⟩:=h x Ybe;subst e;exact .cons i t (Yl λv hv=>h v (Ybb _ hv))
theorem ZaJ {r:Addr}{a b:Int}{t u v:Tok}{n:Nat}{R:Result->Shared->Prop}(hh:A.handled=none)(hr:IsRange s.heap r a b 1 t u v)(hsmall:Builtin.Range.small a b 1=true)(hn:Builtin.Range.rangeSize a b 1=n)(qW:n<=1000)(hR:∀h' tk (acc:Array Value) c,(∀c o,s.heap.get? c=some o->h'.get? c=some o)->h'.get? s.heap.objs.size=some { cls:=.type "list", dict:=none,data:=.seq acc c,slots:=#[] }->IntsAre acc.toList (upI a n)->R (.ok (.ret (.ref s.heap.objs.size))) { s with heap:=h',toks:=tk }) :
  codeAny (model prog w) A (.builtin "proto.collect" ⟨[.ref r],[]⟩) R s:=by
 refine Ycz F.entry_proto_collect ?_;rw [Ydr F.plain_proto_collect _];refine Yaa (Yff ?_ (Yar _));refine Yab ⟨Yeb F.plain_list_iadd _,Ycz F.entry_list_iadd ?_⟩;rw [Ydr F.plain_list_iadd _];have hS:(s.heap.push { cls:=.type "list", data:=.seq #[] }).get? s.heap.objs.size=some { cls:=.type "list", data:=.seq #[] }:=Ybh _ rfl;exact wpAny_extend_range (A:=A) (R:=R) (s:={ s with heap:=s.heap.push { cls:=.type "list", data:=.seq #[] } }) hh (Yal _ hr) hsmall hn (Ybo qW (by decide)) s.heap.objs.size (.ref s.heap.objs.size) 0 hS λh' tk acc c' kp eS it=>
  hR h' tk acc c' (λd o e=>kp d o (Yav (Yak e)) (Yal _ e)) eS (ZdN it)
theorem XH {r:Addr}{a b:Int}{t u v:Tok}{n:Nat}{Q:List Value->Shared->Prop}(hh:A.handled=none)(hr:IsRange s.heap r a b 1 t u v)(hsmall:Builtin.Range.small a b 1=true)(hn:Builtin.Range.rangeSize a b 1=n)(qW:n<=1000)(hQ:∀h' tk (vs:List Value),(∀c o,s.heap.get? c=some o->h'.get? c=some o)->s.heap.objs.size<=h'.objs.size->IntsAre vs (upI a n)->Q vs { s with heap:=h',toks:=tk }):wpAny (model prog w) A (collect (.ref r)) Q E s:=
 Yaa (wpAny_runValue (ZaJ hh hr hsmall hn qW λh' tk acc c k eS it=>Yaa (wpAny_load eS (Yab (hQ h' tk acc.toList k (Yed (Yak eS)) it)))))
theorem Vj {r q:Addr}{a b:Int}{t u v:Tok}{n:Nat}{kz:List Int}{J:Shared->Prop}{Q:EX}(hh:A.in1.in1.handled=none)(hr:IsRange s.heap r a b 1 t u v)(hsmall:Builtin.Range.small a b 1=true)(hn:Builtin.Range.rangeSize a b 1=n)(qW:n<=1000)(hl:kz.length=n)(hJ:∀h' tk,(∀c o,s.heap.get? c=some o->h'.get? c=some o)->J { s with heap:=h',toks:=tk })(put:∀(s1:Shared)(c:Addr)(f:Obj->Obj),s.heap.objs.size<=c->J s1->J { s1 with heap:=s1.heap.update c f })(ask:∀(i:Nat)(k:Int)(t:Tok)(s1:Shared)(R:EX)(E':EX),kz[i]?=some k->i<n->J s1 ->
   (∀t s2,J s2->s1.heap.objs.size<=s2.heap.objs.size->(∀c o,s.heap.objs.size<=c->s1.heap.get? c=some o->s2.heap.get? c=some o)->R (.int k t) s2)->wpAny (model prog w) A.in1.in1 (call (.ref q) [.int (a+(i:Int)) t]) R E' s1)(fin:∀(s2:Shared)(l:Addr)(out:Array Value)(c:Nat)(ps:List (Int×Int)),J s2->s.heap.objs.size<=l->s2.heap.get? l=some (seqObj "list" out c)->IntsAre out.toList (ps.map Prod.snd)->ps.Perm (kz.zip (upI a n))->ps.Pairwise (λp q=>q.1<=p.1)->Q (.ref l) s2) :
  wpAny (model prog w) A (call (.builtin "sorted") [.ref r] [(Str.ofString "key", .ref q),(Str.ofString "reverse", .bool true)]) Q E s:=by
 have h16:=Ybf;refine call_function_entry_kw kind_sorted plain_sorted entry_sorted (ksk_s2 _ _ _) ?_;unfold Builtin.sorted;refine Yaa (Yab ?_);refine Yaa (XH hh hr hsmall hn qW λh1 tk vs k1 sz iv=>?_);have hvl:vs.length=n:=by
  have:=iv.length;unfold upI at this;rw [Yac,Yek] at this;exact this
 refine Yaa (Yff ?_ (by lia));have k2:∀c o,s.heap.get? c=some o->(h1.push { cls:=Value.type "list", data:=Data.seq vs.toArray }).get? c=some o:=λc o e=>Yal _ (k1 c o e);have eL:(h1.push { cls:=Value.type "list", data:=Data.seq vs.toArray }).get? h1.objs.size=some (seqObj "list" vs.toArray 0):=Ybh _ rfl;have zz:(h1.push { cls:=Value.type "list", data:=Data.seq vs.toArray }).objs.size=h1.objs.size+1:=Yck ..;have j1:J { s with heap:=h1.push { cls:=Value.type "list", data:=Data.seq vs.toArray },toks:=tk }:=hJ _ tk k2;show wpAny _ _ _ _ _ { s with heap:=h1.push { cls:=Value.type "list", data:=Data.seq vs.toArray },toks:=tk };have hput:∀h':Heap,(∀c o,s.heap.get? c=some o->h'.get? c=some o)->J { s with heap:=h',toks:=tk }:=λh' k=>hJ h' tk k;generalize h1.push { cls:=Value.type "list", data:=Data.seq vs.toArray }=h2 at k2 eL zz j1 ⊢;refine Yaa (Yci (wpAny_call_entry_kw (s:={ s with heap:=h2,toks:=tk }) slot_list_sort ⟨_,eL,rfl⟩ entry_list_sort ?_ (ksk_l2 _ _ _)));refine O8 (s:={ s with heap:=h2,toks:=tk }) (J:=λs1=>J s1) eL (by lia) (hl.trans hvl.symm) ⟨λs1 c f hc j=>put s1 c f (by rcases hc with rfl | rfl;exact sz;show _<=h2.objs.size+1;lia) j⟩ ?_ ?_ ?_
 ·refine hput _ λc o e=>Yal _ (Yal _ ((Ycm _ _ ?_).trans (k2 c o e)));exact Ydm (Ybk (Yak e) sz)
 ·intro i v k s1 R E' hv hk j _ hR;have hi:i<n:=by rw [<-hvl];exact (Yao.mp hv).1
  obtain ⟨t,e⟩:∃t,v=.int (a+(i:Int)) t:=by
   obtain ⟨k',t,e1,e2⟩:=Yk iv hv;unfold upI at e1;rw [Yaz,List.getElem?_range hi] at e1;exact ⟨t,by rw [e2,<-Ybl e1]⟩
  subst e;exact ask i k t s1 R E' hk hi j λt s2 j2 l2 kp=>hR t s2 j2 l2 λc o hc e=>kp c o (by rcases hc with rfl | rfl;exact sz;show _<=h2.objs.size+1;lia) e
 ·intro s2 out c j e F;obtain ⟨ps,p1,p2,p3⟩:=F;refine ⟨.none,rfl,Yab ⟨_,rfl,?_⟩⟩;refine fin s2 _ out c (ps.map λx=>(x.1,Um x.2)) j sz e ?_ ?_ ?_
  ·rw [Ycq,show (Prod.snd∘λx:Int×Value=>(x.1,Um x.2))=Um∘Prod.snd from rfl,<-Ycq,<-p2];refine Yl λv hv=>?_;rw [p2] at hv;obtain ⟨x,hx,rfl⟩:=Yaj.mp hv;exact iv.all _ (List.of_mem_zip (a:=x.1) (b:=x.2) (p1.mem_iff.mp hx)).2
  ·refine (p1.map λx=>(x.1,Um x.2)).trans (.of_eq ?_);rw [<-W2 iv,List.zip_map_right];exact List.map_congr_left λ⟨x,y⟩ _=>rfl
  ·rw [Ybq];exact p3
theorem Ym {fL c':Addr}{qual:Str}{params:Arguments}{body:Expr}{scope:Scope}{clos:List (Str×Addr)}{pm ctv arg:Value}{x:Str}{R:EX}(jZ:A.depth<recursionLimit)(ho:s.heap.get? fL=some (W.kla_obj "<lambda>" qual params body scope clos pm c' ctv))(hcd:s.heap.CodeRec (.ref c') qual)(hnl:s.heap.NoLimit)(hco:scope.isCoroutine=false)(hgen:scope.isGenerator=false)(hk:scope.kind=.function)(hbind:bindArgs (W.kla_fn "<lambda>" qual params body scope clos pm (.ref c') ctv) ⟨[arg],[]⟩=pure [(x,arg)])(hloc:scope.names.lookup x=some .local)(jV:∀y∈scope.names,y.2≠.cell)(h:∀(h1:Heap)(L:Addr),(∀b o,s.heap.get? b=some o->h1.get? b=some o)->s.heap.objs.size<=h1.objs.size->h1.Ns L (λy=>[(x,arg)].reverse.lookup y) ->
   wpAny (model prog w) (A.deeper (W.envX qual scope L fL (.ref c') clos)) (eval body (W.envX qual scope L fL (.ref c') clos)) R (λ_ _=>False) { s with heap:=h1,toks:=s.toks+1 }) :
  wpAny (model prog w) A (call (.ref fL) [arg]) R E s:=by
 refine wpAny_call (W.kla_callFunE jZ ho rfl hco hgen rfl hcd ?_);rw [hbind];refine Yab (wpAny_newFunctionEnv jV (λy hy=>?_) (λh1 hns hsb=>⟨?_,?_⟩) hk)
 ·cases Yah.mp hy;exact hloc
 ·exact hnl.fresh _ hsb
 ·refine W.kla_codeExpr ?_;have k1:∀b o,s.heap.get? b=some o->h1.get? b=some o:=λb o e=>hsb.extBut b o (Yav (Yak e)) (Yal _ e);refine Ybr (h h1 s.heap.objs.size k1 ?_ hns) (λv s' hR=>hR) λ_ _ z=>z.elim;rw [hsb.1,Yck];exact Ydf _
theorem ZaK {env:Env}{x y:Str}{p1 p2 p3 p4 p5 p6 p7:Pos}{d1 d2:Nat}{m:Str->Option Value}{i k:Int}{t u:Tok}{c l p:Addr}{items vals:Array Value}{Q:EX}(hk:env.scope.kind=.function)(hkx:env.kindOf x=some .local)(hns:s.heap.Ns env.locals m)(hmx:m x=some (.int i t))(hky:env.kindOf y=some .free)(hcl:env.cells.lookup y=some c)(jV:s.heap.IsCell c (some (.ref l)))(hl:s.heap.IsList l items)(h0:2<=i)(h1:i<2 ^ 62)(hit:items[(i-2).toNat]?=some (.ref p))(hp:s.heap.IsTuple p vals)(hv:vals[0]?=some (.int k u))(hz:vals.size<=sizeLine)(hdx:(x == ("__debug__" : Str))=false)(hdy:(y == ("__debug__" : Str))=false)(hcy:(y == ("__classdict__" : Str))=false)(q:∀tk,Q (.int k u) { s with toks:=tk }) :
  wpAny (model prog w) A (eval (.Subscript (.Subscript (.Name y p1) (.BinOp (.Name x p2) .Sub (.Constant (.int 2) d1 p3) p4) p5) (.Constant (.int 0) d2 p6) p7) env) Q E s:=by
 refine Subscript_ (Subscript_ (wpAny_Name (wpAny_loadName_free hk hky hcl jV ?_ hcy) hdy));refine wpAny_BinOp (wpAny_Name (wpAny_loadName_local hk hkx hns hmx ?_) hdx);refine wpAny_Constant_int ?_;refine PyProof.Rows.sub_int ?_;refine item_listR hl (by lia) (by lia) hit ?_ rfl;refine wpAny_Constant_int ?_;have h16:=Ybf;have hvz:0<vals.size:=by
  have:=Ygc.mp hv;exact this.1
 exact subscriptTail_builtinR (x:=.int k u) hp.typeIs slot_tuple_getitem.lookup (getItem_tuple (j:=0) (Q:=λr s'=>r=.int k u/\Q r s') hp (by lia) (by lia) (by rw [seqIndex_of (by lia) (by lia)];rfl) hv ⟨rfl,q _⟩) rfl
end
noncomputable def SameL (P:Addr)(H H':Hp):Prop:=∀a o,a≠P->H a=some o->H' a=some o
theorem SameL.of {P:Addr}{H H':Hp}(s:Same H H'):SameL P H H':=λa o _ e=>s a o e
theorem SameL.trans {P:Addr}{H H' H'':Hp}(a:SameL P H H')(b:SameL P H' H''):SameL P H H'':=λc o n e=>b c o n (a c o n e)
noncomputable def ZdO (qual:Str)(oc:Obj):Prop:=∃vs t,oc.data=.fields vs/\vs[1]?=some (.str qual t)
noncomputable def LamOn (P:Addr)(line col:Nat)(qual:Str)(H:Hp)(c:Addr):Prop:=H P=some (.tbl #[rawInt line,rawInt col,.ref c])/\∃oc,H c=some (.frz oc (.own c))/\ZdO qual oc
noncomputable def LamSt (P:Addr)(line col:Nat)(qual:Str)(H:Hp):Prop:=H P=some (.tbl #[])\/∃c,LamOn P line col qual H c
theorem LamOn.same {P:Addr}{line col:Nat}{qual:Str}{H H':Hp}{c:Addr}(h:LamOn P line col qual H c)(s:Same H H'):LamOn P line col qual H' c:=⟨s _ _ h.1,h.2.elim λoc z=>⟨oc,s _ _ z.1,z.2⟩⟩
theorem LamSt.same {P:Addr}{line col:Nat}{qual:Str}{H H':Hp}(h:LamSt P line col qual H)(s:Same H H'):LamSt P line col qual H':=h.imp (λe=>s _ _ e) λ⟨c,z⟩=>⟨c,z.same s⟩
section
variable {X:Cx}
noncomputable def ZhQ (P:Addr)(qual:Str)(params:Arguments)(body:Expr)(scope:Scope)(clos:List (Str×Addr))(pos:Pos)(pm:Value):TE:=λσ H Q=>LamSt P pos.line pos.col qual H /\
 ∀(f c:Addr)(ctv:Value)(H':Hp),SameL P H H'->LamOn P pos.line pos.col qual H' c->H f=none->H' f=some (.frz (W.kla_obj "<lambda>" qual params body scope clos pm c ctv) (.own f))->Q (.ref f) H'
theorem ZcP {params:Arguments}{body:Expr}{scope:Scope}{pos:Pos}{clos:List (Str×Addr)}{c P:Addr}{qual:Str}(hcl:closureFor scope X.env=pure clos)(hcode:X.env.code=.ref c)(C:W.CodeHd X.base c P)(hb:X.base.BuiltinsAt X.mg P)(hq:X.env.qual ++ "<lambda>" = qual)(hdef:defaultsOf params X.env=([],[]):=by rfl):PE X (.Lambda params body scope pos) (ZhQ P qual params body scope clos pos ((X.mg "__name__").getD .none)):=by
 intro qJ s σ H Q I h;obtain ⟨st,q⟩:=h;refine W.kla_eval hdef ?_;rw [hq];have hg:s.heap.Ns mainGlobals X.mg:=I.ok.mod.glob.keeps I.bk;have hB:s.heap.BuiltinsAt X.mg P:=by
  obtain ⟨bm,o,h1,h2,h3,h4,h5,h6⟩:=hb;exact ⟨bm,o,h1,h2,h3,h4,I.bk _ _ h5,h6⟩
 rcases st with e0 | ⟨c',e1,oc,e2,vs,tq,hd,hv⟩
 ·have hP:s.heap.get? P=some (W.tabObj #[]):=I.hok P _ e0;have hgP:mainGlobals≠P:=λz=>by
   obtain ⟨o,es,ep,e,hd,_⟩:=hg;rw [z,hP] at e;cases e;cases hd
  refine W.kla_makeFunction (mg:=X.mg) hcl I.ok.glob hg hcode (C.keeps I.bk) hP trivial rfl hgP hB λc' ctv h' tk hx hge hlt hrec htb=>?_;obtain ⟨c2,oc,vs,tq,ec,hoc,hd,hv⟩:=hrec;cases ec;have hcP:c'≠P:=λz=>by rw [z] at hge;exact Yct _ (Ybk (Yak hP) hge)
  have hlP:P<h'.objs.size:=Yak htb;have nc:H c'=none:=I.hok.fresh hge;have hsz:s.heap.objs.size<=h'.objs.size:=Ybo hge (Yed hlt);have nf:H h'.objs.size=none:=I.hok.fresh hsz;have hcf:c'≠h'.objs.size:=Yav hlt;have hPf:P≠h'.objs.size:=Yav hlP;generalize hH':upd (upd (upd H P (.tbl #[rawInt pos.line,rawInt pos.col,.ref c'])) c' (.frz oc (.own c'))) h'.objs.size (.frz (W.kla_obj "<lambda>" qual params body scope clos ((X.mg "__name__").getD .none) c' ctv) (.own h'.objs.size))=H';have aP:H' P=some (.tbl #[rawInt pos.line,rawInt pos.col,.ref c']):=by rw [<-hH',Gm hPf,Gm (Ne.symm hcP),Ga]
  have ac:H' c'=some (.frz oc (.own c')):=by rw [<-hH',Gm hcf,Ga]
  have af:H' h'.objs.size=some (.frz (W.kla_obj "<lambda>" qual params body scope clos ((X.mg "__name__").getD .none) c' ctv) (.own h'.objs.size)):=by rw [<-hH',Ga]
  have ao:∀b,b≠P->b≠c'->b≠h'.objs.size->H' b=H b:=λb h1 h2 h3=>by rw [<-hH',Gm h3,Gm h2,Gm h1]
  have sl:SameL P H H':=λb o hb e=>by
   rw [ao b hb (λz=>by rw [z,nc] at e;cases e) (λz=>by rw [z,nf] at e;cases e)];exact e
  have kp:∀b o,b≠P->s.heap.get? b=some o->(h'.push (W.kla_obj "<lambda>" qual params body scope clos ((X.mg "__name__").getD .none) c' ctv)).get? b=some o:=λb o hb e=>Yal _ (hx b o hb e);have nP:∀b,H b=none->b≠P:=λb n z=>by rw [z,e0] at n;cases n
  have I':Inv X qJ σ H' { s with heap:=h'.push (W.kla_obj "<lambda>" qual params body scope clos ((X.mg "__name__").getD .none) c' ctv),toks:=tk }:=by
   refine I.un ⟨λb o e n _ _=>kp b o (nP b n) e,λb o e n _ _=>⟨o.slots,kp b o (nP b n) e⟩,λb o e n _=>?_,λb o e _=>?_,λb ys e=>sl b _ (λz=>by rw [z,e0] at e;cases e) e,λb o u e=>sl b _ (λz=>by rw [z,e0] at e;cases e) e,λb ps e=>?_⟩ λb o e=>?_
   ·rw [ao b (nP b n) (Yav (Ybk (Yak e) hge)) (Yav (Ybk (Yak e) hsz))];exact n
   ·by_cases z:b=P
    ·rw [z];exact ⟨_,Yal _ htb⟩
    ·exact ⟨o,kp b o z e⟩
   ·by_cases z:b=P
    ·rw [z,e0] at e;cases e;exact ⟨_,by rw [z];simpa using aP⟩
    ·exact ⟨#[],by rw [sl b _ z e];simp⟩
   ·by_cases z:b=P
    ·rw [z,aP] at e;cases e;rw [z];exact Yal _ htb
    ·by_cases z2:b=c'
     ·rw [z2,ac] at e;cases e;rw [z2];exact ⟨Yal _ hoc,_,Yal _ hoc⟩
     ·by_cases z3:b=h'.objs.size
      ·rw [z3,af] at e;cases e;rw [z3];exact ⟨Ybh _ rfl,_,Ybh _ rfl⟩
      ·rw [ao b z z2 z3] at e;refine (I.hok b o e).stay (λd u hd qd=>kp d u ?_ qd) (λd qd=>sl d _ (λy=>by rw [y,e0] at qd;cases qd) qd) λd ys qd=>sl d _ (λy=>by rw [y,e0] at qd;cases qd) qd;rcases hd with rfl | hd
       ·exact z
       ·exact λy=>by rw [y,e0] at hd;cases hd
  exact ⟨.ref h'.objs.size,H',I',rfl,q _ c' ctv H' sl ⟨aP,oc,ac,vs,tq,hd,hv⟩ nf af⟩
 ·have hP:s.heap.get? P=some (W.tabObj #[rawInt pos.line,rawInt pos.col,.ref c']):=I.hok P _ e1;refine W.kla_makeFunctionHit (cv:=.ref c') (mg:=X.mg) hcl I.ok.glob hg hcode (C.keeps I.bk) hP trivial ?_ hB λctv h' tk hk hsz=>?_
  ·simp [codeAmong,rawInt]
  ·have nf:H h'.objs.size=none:=I.hok.fresh hsz;have I':=I.laid (a:=h'.objs.size) (o:=.frz (W.kla_obj "<lambda>" qual params body scope clos ((X.mg "__name__").getD .none) c' ctv) (.own h'.objs.size)) (h':=h'.push (W.kla_obj "<lambda>" qual params body scope clos ((X.mg "__name__").getD .none) c' ctv)) (t':=tk) (λb o e=>Yal _ (hk b o e)) hsz ⟨Ybh _ rfl,_,Ybh _ rfl⟩;have sm:Same H (upd H h'.objs.size (.frz (W.kla_obj "<lambda>" qual params body scope clos ((X.mg "__name__").getD .none) c' ctv) (.own h'.objs.size))):=Same.new nf;exact ⟨.ref h'.objs.size,_,I',rfl,q _ c' ctv _ (.of sm) (LamOn.same ⟨e1,oc,e2,vs,tq,hd,hv⟩ sm) nf Ga⟩
theorem VF {id:String}{ks:List Str}{r:St->List V->List V->Hp->VK->Prop}{x:Str}{p pos:Pos}{e:Expr}{es:List Expr}{kws:List Keyword}{t tk:TA}(hc:∀(qJ:List (Addr×Obj))(s:Shared)(σ:St)(H:Hp)(xs:List V)(us:List Value)(zs:List V)(ws:List Value)(Q:VK),Inv X qJ σ H s->Vals xs us->Vals zs ws->r σ xs zs H Q->wpAny (model X.prog X.w) X.A (call (.builtin id) us (ks.zip ws)) (EP X qJ σ Q) X.xe s)(hg:Gl X x)(hm:X.mg x=none)(hv:bootBuiltins x=some (.builtin id))(ha:PA X (e::es) t)(hkw:PK X kws tk)(hks:(backToKw pos (keywordEach kws X.env)).filterMap (·.1)=ks:=by rfl)(hn:x ≠ "__name__" := by decide)(hdb:(x == ("__debug__" : Str))=false:=by decide)(he:backTo pos (starEach (e::es) X.env)=(false,eval e X.env)::backTo pos (starEach es X.env):=by rfl)(hpl:(backTo pos (starEach (e::es) X.env)).any (·.1)=false:=by rfl)(qG:(backToKw pos (keywordEach kws X.env)).all (·.1.isSome)=true:=by rfl)(hno:(backToKw pos (keywordEach kws X.env)).any (·.1.isNone)=false:=by rfl) :
  PE X (.Call (.Name x p) (e::es) kws pos) (λσ H Q=>t σ H λvs H1=>tk σ H1 λzs H2=>r σ vs zs H2 Q):=by
 intro qJ s σ H Q I h;refine Yfj (UR I hg hm hv ?_ hn hdb);refine PyProof.Rows.callWith_kw (thn (ha pos qJ s σ H _ I h) λus s1 ⟨vs,H1,I1,r1,q1⟩=>thn (hkw pos qJ s1 σ H1 _ I1 q1) λws s2 ⟨zs,H2,I2,r2,q2⟩=>?_) he hpl qG hno;rw [hks];exact hc qJ s2 σ H2 vs us zs ws Q I2 r1 r2 q2
noncomputable def ZgU (K:W.Frag)(j:Nat)(qual:Str)(params:Arguments)(body:Expr)(scope:Scope)(clos:List (Str×Addr))(pm:Value):St->List V->List V->Hp->VK->Prop:=λσ xs zs H Q=>
 ∃(r f c nl:Addr)(oc:Obj)(ctv:Value)(n:Nat)(ts:List (Addr×Int×List V)),xs=[.ref r]/\zs=[.ref f,.bl true]/\H r=some (.rng 2 ((n:Nat)+2))/\n<=1000 /\
  H f=some (.frz (W.kla_obj "<lambda>" qual params body scope clos pm c ctv) (.own f))/\H c=some (.frz oc (.own c))/\ZdO qual oc/\σ[j]?=some (some (.ref nl))/\SqL K H nl (ts.map λt=>V.ref t.1)/\ts.length=n/\(∀t∈ts,SqT K H t.1 (V.int t.2.1::t.2.2)) /\
  ∀(l:Addr)(ps:List (Int×Int)),H l=none->ps.Perm ((ts.map (·.2.1)).zip (upI 2 n))->ps.Pairwise (λp q=>q.1<=p.1)->Q (.ref l) (upd H l (.lst ((ps.map Prod.snd).map V.int)))
theorem ZaL {K:W.Frag}{j:Nat}{x y:Str}{qual:Str}{params:Arguments}{scope:Scope}{pm:Value}{cc:Addr}{p1 p2 p3 p4 p5 p6 p7:Pos}{d1 d2:Nat}(hK:X.K=K)(hc:X.calm=true)(jZ:X.A.in1.in1.depth<recursionLimit)(hN:X.N[j]?=some y)(hv:Vis X.env.scope y)(hky:X.env.kindOf y=some .cell)(hcy:X.env.cells.lookup y=some cc)(hco:scope.isCoroutine=false)(hgen:scope.isGenerator=false)(hk:scope.kind=.function)(hbind:∀(c:Addr)(ctv arg:Value),bindArgs (W.kla_fn "<lambda>" qual params (.Subscript (.Subscript (.Name y p1) (.BinOp (.Name x p2) .Sub (.Constant (.int 2) d1 p3) p4) p5) (.Constant (.int 0) d2 p6) p7) scope [(y,cc)] pm (.ref c) ctv) ⟨[arg],[]⟩=pure [(x,arg)])(hlx:scope.names.lookup x=some .local)(hly:scope.names.lookup y=some .free)(jV:∀z∈scope.names,z.2≠.cell)(hdx:(x == ("__debug__" : Str))=false)(hdy:(y == ("__debug__" : Str))=false)(hcd:(y == ("__classdict__" : Str))=false)(qJ:List (Addr×Obj))(s:Shared)(σ:St)(H:Hp)(xs:List V)(us:List Value)(zs:List V)(ws:List Value)(Q:VK)(I:Inv X qJ σ H s)(rx:Vals xs us)(rz:Vals zs ws)(h:ZgU K j qual params (.Subscript (.Subscript (.Name y p1) (.BinOp (.Name x p2) .Sub (.Constant (.int 2) d1 p3) p4) p5) (.Constant (.int 0) d2 p6) p7) scope [(y,cc)] pm σ xs zs H Q) :
  wpAny (model X.prog X.w) X.A (call (.builtin "sorted") us (([Str.ofString "key", Str.ofString "reverse"]:List Str).zip ws)) (EP X qJ σ Q) X.xe s:=by
 subst hK;obtain ⟨r,f,c,nl,oc,ctv,n,ts,rfl,rfl,er,hn,ef,ec,⟨vs1,tq,hd1,hv1⟩,eσ,hq,htl,ht,q⟩:=h;obtain ⟨u,rfl,ru⟩:=rx.one;cases ru;obtain ⟨u1,u2,rfl,ru1,ru2⟩:=rz.two;cases ru1;cases ru2;obtain ⟨t0,t1,t2,eR⟩:=I.hok r _ er;have h16:=Ybf.symm;have keepI:∀(h1:Heap)(tk:Nat),(∀b o,s.heap.get? b=some o->h1.get? b=some o)->Inv X qJ σ H { s with heap:=h1,toks:=tk }:=λh1 tk k=>I.kept (t':=tk) k;show wpAny (model X.prog X.w) X.A (call (.builtin "sorted") [.ref r] [(Str.ofString "key", .ref f),(Str.ofString "reverse", .bool true)]) (EP X qJ σ Q) X.xe s;refine Vj (kz:=ts.map (·.2.1)) (n:=n) (J:=λs1=>∃h1 tk,s1={ s with heap:=h1,toks:=tk }/\∀b o,s.heap.get? b=some o->h1.get? b=some o) (I.ok.hd hc) eR (small_one (by lia) (by lia) (by lia) (by lia)) (by rw [rangeSize_one];split <;> lia) hn (by rw [Yac];exact htl)
  (λh1 tk k=>⟨h1,tk,rfl,k⟩) ?_ ?_ ?_
 ·rintro s1 d g hd ⟨h1,tk,rfl,k⟩;exact ⟨_,tk,rfl,λb o e=>(Ycm _ _ (Ydm (Ybk (Yak e) hd))).trans (k b o e)⟩
 ·rintro i k t s1 R E' hki hi ⟨h1,tk,rfl,kp⟩ hR;have I1:=keepI h1 tk kp;obtain ⟨ti,eti,rfl⟩:∃ti,ts[i]?=some ti/\ti.2.1=k:=by
   rw [Yaz] at hki;cases z:ts[i]? with
   | none=>rw [z] at hki;cases hki
   | some ti=>rw [z] at hki;exact ⟨ti,rfl,Ybl hki⟩
  have of:h1.get? f=some (W.kla_obj "<lambda>" qual params (.Subscript (.Subscript (.Name y p1) (.BinOp (.Name x p2) .Sub (.Constant (.int 2) d1 p3) p4) p5) (.Constant (.int 0) d2 p6) p7) scope [(y,cc)] pm c ctv):=(I1.hok f _ ef).1;have oc1:h1.get? c=some oc:=(I1.hok c _ ec).1;refine Ym (s:={ s with heap:=h1,toks:=tk }) (x:=x) jZ of ⟨c,oc,vs1,tq,rfl,oc1,hd1,hv1⟩ (I1.ok.mod.nolimit.keeps I1.bk) hco hgen hk (hbind _ _ _) hlx jV λh2 L k2 sz hns=>?_;have I2:Inv X qJ σ H { s with heap:=h2,toks:=tk+1 }:=keepI h2 (tk+1) λb o e=>k2 b o (kp b o e);obtain ⟨m,hm,lk⟩:=I2.loc;obtain ⟨u,ru,lu⟩:=lk j y _ hN eσ hv;cases ru;have hcl:h2.IsCell cc (some (.ref nl)):=by
   rcases lu with ⟨z,_⟩ | ⟨_,c2,z1,z2⟩
   ·rw [hky] at z;cases z
   ·rw [hcy] at z1;cases z1;exact z2
  obtain ⟨its,rv,pl,hz⟩:=I2.list hq;obtain ⟨ui,gi,ri⟩:=rv.get (show (ts.map λt=>V.ref t.1)[i]?=some (V.ref ti.1) by rw [Yaz,eti];rfl);cases ri;obtain ⟨its2,rv2,pl2,hz2⟩:=I2.tuple (ht ti (Yax eti));obtain ⟨uk,gk,rk⟩:=rv2.get (show (V.int ti.2.1::ti.2.2)[0]?=some (V.int ti.2.1) from rfl);obtain ⟨tu,rfl⟩:=rk;refine ZaK (m:=λz=>[(x,Value.int (2+(i:Int)) t)].reverse.lookup z) (i:=2+(i:Int)) (k:=ti.2.1) (u:=tu) (t:=t) (c:=cc) (l:=nl) (p:=ti.1) (items:=its.toArray) (vals:=its2.toArray) hk hlx hns (by simp) hly (by simp) hcl pl.isList (by lia) (by lia) ?_ pl2 ?_ ?_ hdx hdy hcd λtk2=>?_
  ·rw [show (2+(i:Int)-2).toNat=i by lia];simpa using gi
  ·simpa using gk
  ·rw [Yaw,<-rv2.length];exact hz2
  ·exact hR tu _ ⟨h2,tk2,rfl,λb o e=>k2 b o (kp b o e)⟩ sz λb o _ e=>k2 b o e
 ·rintro s2 l out cn ps ⟨h1,tk,rfl,kp⟩ hl eL hi pm pw;refine ⟨.ref l,_,I.laid (a:=l) (o:=.lst ((ps.map Prod.snd).map V.int)) (h':=h1) (t':=tk) kp hl ⟨?_,out.toList,cn,UY hi,by simpa [seqObj] using eL⟩,rfl,q l ps (I.hok.fresh hl) pm pw⟩;have hl2:=pm.length_eq;rw [List.length_zip,Yac,htl] at hl2;rw [Yac,Yac,hl2]
  lia
end
section
variable {P:Program}{w:World}{K:W.Frag}{mg:Str->Option Value}{base:Heap}
theorem Fun.okC {x qual:Str}{st:Stmt}{f c:Addr}{fd:FuncData}{N ps:List Str}{k:Nat}{sp:Sp}(F:Fun K x qual st f fd)(hc:fd.code=.ref c)(S:Gp N ps (Gf st))(len:∀vs H Q E,sp vs H Q E->vs.length=ps.length)(jX:∀(A:Around)(outer:List Env)(s:Shared)(H:Hp)(vs:List V)(Q:VK)(E:XK),Room k (A.deeper (envOfC qual (Gf st) s.heap.objs.size f (.ref c)))->sp vs H Q E ->
   ∃t,PSs (YT CX0 P w K mg base N qual (Gf st) f (.ref c) A outer s H E).nox (G0 st) t/\t { nx:=λ_ H'=>Q .non H',rt:=Q } (start N vs) H):G4 P w K mg base CX0 (k+1) f fd ps sp:=by
 obtain ⟨oc,od,kV,doc,pm,an,cdv,ct,osl,rfl,lk,hcd⟩:=F.ex;have e:cdv=.ref c:=hc;subst e;refine ZP lk hcd S len λA outer s H vs Q E hr hsp=>?_;obtain ⟨t,h,q⟩:=jX A outer s H vs Q E hr hsp;exact ⟨t,h.nox,q⟩
theorem SameL.lst {P:Addr}{H H':Hp}{a:Addr}{xs:List V}{ps:Array Value}(s:SameL P H H')(hP:H P=some (.tbl ps))(e:H a=some (.lst xs)):H' a=some (.lst xs):=s a _ (λz=>by rw [z,hP] at e;cases e) e
theorem SameL.tup {P:Addr}{H H':Hp}{a:Addr}{xs:List V}{ps:Array Value}(s:SameL P H H')(hP:H P=some (.tbl ps))(e:H a=some (.tup xs)):H' a=some (.tup xs):=s a _ (λz=>by rw [z,hP] at e;cases e) e
theorem SameL.dK {P:Addr}{H H':Hp}{a:Addr}{xs:List (Key×V)}{ps:Array Value}(s:SameL P H H')(hP:H P=some (.tbl ps))(e:H a=some (.dK xs)):H' a=some (.dK xs):=s a _ (λz=>by rw [z,hP] at e;cases e) e
theorem LamSt.tbl {P:Addr}{line col:Nat}{qual:Str}{H:Hp}(h:LamSt P line col qual H):∃ps,H P=some (.tbl ps):=by
 rcases h with h | ⟨c,h,_⟩
 ·exact ⟨_,h⟩
 ·exact ⟨_,h⟩
theorem Trs.sameL {P:Addr}{H H':Hp}{ps:Array Value}(s:SameL P H H')(hP:H P=some (.tbl ps)):∀{xs:List V}{ts:List Tri},Trs H xs ts->Trs H' xs ts
 | _,_,.nil=>.nil
 | _,_,.cons e r=>.cons (s.tup hP e) (Trs.sameL s hP r)
theorem SameL.free {P p:Addr}{H H':Hp}{ps:Array Value}(s:SameL P H H')(hP:H P=some (.tbl ps))(hP':∃qs,H' P=some (.tbl qs))(h:H' p=none):H p=none:=by
 cases e:H p with
 | none=>rfl
 | some o=>
  by_cases z:p=P
  ·obtain ⟨qs,e'⟩:=hP';rw [z,e'] at h;cases h
  ·rw [s p o z e] at h;cases h
theorem SameL.put {P p:Addr}{H H':Hp}{o:HO}(s:SameL P H H')(h:H p=none):SameL P H (upd H' p o):=λa u n e=>Gj (s a u n e) (λz=>by rw [z,h] at e;cases e)
end
end L2
namespace L2
open PySem PySem.Spec PyProof.Rows Classical
section
variable {prog:Program}{w:World}{A:Around}{E:EX}{s:Shared}{b:Keyed->Keyed->Bool}{good:Keyed->Prop}
theorem ZaM (h:∀x y,good x->good y->∀{E':EX}{Q:Bool->Shared->Prop},Q (b x y) s->wpAny (model prog w) A (keyLt' (tuples' true) x.1 y.1) Q E' s):Uc (model prog w) A E s (tuples' true) b good:=by
 intro x y st Q gx gy hs q;rw [lt'_eq];refine Yae (wpS_get ?_);refine Yae (wpS_lift ?_);rw [hs];exact Ydz (h x y gx gy ⟨rfl,Yaf q⟩)
theorem Wj {Q:Bool->Shared->Prop}{fin:Bool}:∀{xs ys:List Value}{ns ms:List Int}(i:Nat),IntsAre xs ns->IntsAre ys ms->fin=decide (ns.length<ms.length)->Q (GJ ns ms) s->W.KatLex prog w A true fin Q (xs.zip ys) i s
 | _,_,_,_,i,.nil,hy,hf,q=>by
  refine W.kat_nil ?_;cases hy with
  | nil=>rw [hf];exact q
  | cons m u hy=>rw [hf];simpa [GJ] using q
 | _,_,_,_,i,.cons n t hx,.nil,hf,q=>by
  refine W.kat_nil ?_;rw [hf];simpa [GJ] using q
 | _,_,_,_,i,.cons (vs:=xs) (ns:=ns) n t hx,.cons (vs:=ys) (ns:=ms) m u hy,hf,q=>by
  rw [List.zip_cons_cons];refine W.kat_cons (wpAny_eqBool_int ?_);unfold GJ at q;refine W.kat_go (λhe=>W.kat_yes (Wj (i+1) hx hy ?_ ?_)) λhe=>W.kat_no ?_
  ·rw [hf];simp
  ·have he:n=m:=by simpa using he
   rw [if_pos he] at q;exact q
  ·have he:n≠m:=by simpa using he
   rw [if_neg he] at q;cases hc:(true && i == 0) with
   | true=>exact oneLt_int q
   | false=>exact W.kat_one _ _ (PyProof.Rows.lt_int q)
noncomputable def Zcb (h:Heap)(v:Value):List Int:=if q:∃ns a its,v=.ref a/\h.IsTuple a its/\IntsAre its.toList ns then choose q else []
theorem XI {h:Heap}{a:Addr}{xs ys:Array Value}(h1:h.IsTuple a xs)(h2:h.IsTuple a ys):xs=ys:=by
 obtain ⟨o,e,_,n,d⟩:=h1;obtain ⟨o',e',_,n',d'⟩:=h2;rw [e] at e';cases e';rw [d] at d';cases d'
 rfl
theorem Oo {h:Heap}{a:Addr}{its:Array Value}{ns:List Int}(hl:h.IsTuple a its)(hi:IntsAre its.toList ns):Zcb h (.ref a)=ns:=by
 have q:∃ns a' its,Value.ref a=.ref a'/\h.IsTuple a' its/\IntsAre its.toList ns:=⟨ns,a,its,rfl,hl,hi⟩;unfold Zcb;rw [dif_pos q];obtain ⟨a',its',e,h1,h2⟩:=choose_spec q;cases e;have:=XI hl h1;subst this;exact Wg h2 hi
theorem ZcQ (h:Heap):WO (λx y=>GJ (Zcb h x.1) (Zcb h y.1)):=ZaH (κ:=λx:Keyed=>Zcb h x.1) (lt:=GJ) Ja On J9
end
section
variable {X:Cx}(K:W.Frag)
noncomputable def ZdP:List V->Hp->VK->Prop:=λxs H Q=>∃(p:Addr)(zs:List (Addr×List Int)),xs=[.ref p]/\SqL K H p (zs.map λz=>V.ref z.1)/\(∀z∈zs,SqT K H z.1 (z.2.map V.int)/\z.2≠[]) /\
 ∀(l:Addr)(zs':List (Addr×List Int)),H l=none->zs'.Perm zs->(zs'.map (·.2)).Pairwise (λa b=>GJ b a=false)->Q (.ref l) (upd H l (.lst (zs'.map λz=>V.ref z.1)))
theorem ZdQ (h:X.K=K:=by rfl):Od X (.builtin "sorted") (ZdP K):=by
 subst h;intro qJ s σ H xs us Q I rv h;obtain ⟨p,zs,rfl,hq,hz,q⟩:=h;obtain ⟨u,rfl,ru⟩:=rv.one;cases ru;obtain ⟨its,r,pl,hzl⟩:=I.list hq;have hl:=r.length;rw [Yac] at hl hzl;have ei:=Wi r;have key:∀z∈zs,∃its:Array Value,s.heap.IsTuple z.1 its/\IntsAre its.toList z.2/\z.2≠[]:=λz hzm=>by
  obtain ⟨iz,rz,pz,_⟩:=I.tuple (hz z hzm).1;exact ⟨iz.toArray,pz,J0 rz,(hz z hzm).2⟩
 have isL:∀v∈its,∃a,∃it:Array Value,∃ns,v=.ref a/\s.heap.IsTuple a it/\IntsAre it.toList ns/\ns≠[]:=λv hv=>by
  rw [ei] at hv;obtain ⟨z,hzm,rfl⟩:=Yaj.mp hv;obtain ⟨it,h1,h2,h3⟩:=key z hzm;exact ⟨z.1,it,z.2,rfl,h1,h2,h3⟩
 have keepL:∀{h':Heap}{a:Addr}{it:Array Value},(∀c o,s.heap.get? c=some o->h'.get? c=some o)->s.heap.IsTuple a it->h'.IsTuple a it:=λk hl=>by
  obtain ⟨o,e,r⟩:=hl;exact ⟨o,k _ _ e,r⟩
 have tups:∀(h':Heap),(∀c o,s.heap.get? c=some o->h'.get? c=some o)->∀vs:List Value,(∀v∈vs,∃a,∃it:Array Value,∃ns,v=.ref a/\s.heap.IsTuple a it/\IntsAre it.toList ns/\ns≠[])->∃fs:List Value,W.KatTups h' vs fs/\fs.length=vs.length/\∀f∈fs,∃i t,f=.int i t:=by
  intro h' k vs
  induction vs with
  | nil=>intro _;exact ⟨[],.nil,rfl,λf hf=>by cases hf⟩
  | cons v vs ih=>
   intro h;obtain ⟨fs,h1,h2,h3⟩:=ih λx hx=>h x (Ybb _ hx);obtain ⟨a,it,ns,rfl,t1,t2,t3⟩:=h v (Ybe ..);obtain ⟨o,e,c,n,d⟩:=keepL k t1;have ff:∃i t,it[0]?=some (.int i t):=by
    rcases Uo t2 0 with ⟨h1,h2⟩ | ⟨i,t,h1,h2⟩
    ·exact absurd (by simpa using h2) t3
    ·exact ⟨i,t,by simpa using h1⟩
   obtain ⟨i,t,ef⟩:=ff;refine ⟨.int i t::fs,.cons e c d ef h1,by simp [h2],λf hf=>?_⟩;rcases Yas.mp hf with rfl | hf
   ·exact ⟨i,t,rfl⟩
   ·exact h3 f hf
 refine Ul (kd:=tuples' true) (good:=λx=>∃a,∃it:Array Value,∃ns,x.1=.ref a/\s.heap.IsTuple a it/\IntsAre it.toList ns/\ns≠[]) (ZcQ s.heap) pl.isList (by lia) isL (λh' k h2 E' R q=>?_) (λh' k=>ZaM λx y gx gy E' Q q=>?_) λout hp hr=>?_
 ·obtain ⟨fs,t1,t2,t3⟩:=tups h' k its isL;exact W.kat_kind (T:=.type "int") t1 (by lia) (λv hv=>by obtain ⟨i,t,rfl⟩:=t3 v hv;exact .now) rfl q
 ·obtain ⟨a,it,ns,e1,h1,h2,_⟩:=gx;obtain ⟨c,jt,ms,e2,h3,h4,_⟩:=gy;simp only [e1,e2,Oo h1 h2,Oo h3 h4] at q ⊢;obtain ⟨o1,g1,_,n1,d1⟩:=keepL k h1;obtain ⟨o2,g2,_,n2,d2⟩:=keepL k h3;refine W.kat_lt (xs:=it) (ys:=jt) g1 d1 g2 d2 (Wj 0 h2 h4 ?_ q);rw [<-G9 h2,<-G9 h4];simp
 ·obtain ⟨o1,o2,o3⟩:=UL hp;obtain ⟨e,he⟩:=sortedAll_at s.heap its (out.map (·.2));rw [ei] at o1;obtain ⟨zs',p1,p2⟩:=J7 o1;have ps:(zs'.map (·.2)).Pairwise (λa b=>GJ b a=false):=by
   have a1:=JB hr o3;have a2:(out.toList.map (·.2)).Pairwise (λu v=>GJ (Zcb s.heap v) (Zcb s.heap u)=false):=by
    rw [Ybq];refine a1.imp_of_mem λ{x y} hx hy hxy=>?_;rw [<-(o2 x hx).1,<-(o2 y hy).1];exact hxy
   rw [Yfg] at p2;rw [<-p2,Ybq] at a2;rw [Ybq];refine a2.imp_of_mem λ{x y} hx hy hxy=>?_;obtain ⟨it,h1,h2,_⟩:=key x (p1.mem_iff.mp hx);obtain ⟨jt,h3,h4,_⟩:=key y (p1.mem_iff.mp hy);rw [Oo h1 h2,Oo h3 h4] at hxy;exact hxy
  refine ⟨.ref _,_,I.laid (a:=s.heap.objs.size+1) (t':=s.toks) (o:=.lst (zs'.map λz=>V.ref z.1)) (λb o e=>sortedAll_old e) (Ydf _) ⟨by rw [Yac,p1.length_eq];exact hzl,(out.map (·.2)).toList,e,by rw [<-p2];exact O7 zs',he⟩,rfl,q _ _ (I.hok.fresh (Ydf _)) p1 ps⟩
end
end L2
namespace L2
open PySem PySem.Spec PyProof.Rows
section
variable (P:Program)(w:World)
noncomputable def Wl (h:Heap)(row:List Int)(v:Value):Prop:=∃b,v=.ref b/\IsTupleKey (intKind P w) h row b
noncomputable def Ux (h:Heap)(k:List (List Int))(a:Addr):Prop:=∃o vs n,h.get? a=some o/\o.cls=.type "tuple" /\ o.data=.seq vs n/\Paired (Wl P w h) k vs.toList
noncomputable def Wm (k:List (List Int)):Int:=reduceHash (Builtin.Tuple.tupleHashOf (k.map (tupleKeyHash (intKind P w))))
end
section
variable {P:Program}{w:World}{A:Around}{E:EX}{s:Shared}{h h':Heap}
theorem Yn:∀{k l:List (List Int)}{vs:List Value},Paired (Wl P w h) k vs->Paired (Wl P w h) l vs->k=l
 | _,_,_,.nil,.nil=>rfl
 | _,_,_,.cons ⟨b,e,x⟩ r,.cons ⟨c,e',y⟩ t=>by
  rw [e] at e';cases e';rw [x.inj y,Yn r t]
theorem W4 (hu:A.units<cLine):∀{k:List (List Int)}{vs:List Value}{b:Array Int}{s:Shared}{Q:Array Int->Shared->Prop},Paired (Wl P w s.heap) k vs ->
  (∀b':Array Int,b'.toList=b.toList++k.map (tupleKeyHash (intKind P w))->Q b' { s with toks:=s.toks+(k.map λr=>r.length+1).sum }) ->
  wpAny (model P w) A (forIn vs b λx r=>do let h <- pyHash x;pure PUnit.unit;pure (ForInStep.yield (r.push h))) Q E s
 | _,_,b,s,Q,.nil,q=>by
  rw [List.forIn_nil];exact Yab (by simpa using q b (by simp))
 | _,_,b,s,Q,.cons (a:=row) (l₁:=k) ⟨c,e,x⟩ r,q=>by
  subst e;rw [List.forIn_cons];refine Yaa (Yaa (wpAny_pyHash_tuple hu x (Yaa (Yab (Yab ?_)))));refine W4 hu (s:={ s with toks:=s.toks+(row.length+1) }) r λb' hb=>?_;have:=q b' (by rw [hb];simp);simpa [Nat.add_assoc] using this
theorem XJ {k:List (List Int)}{a:Addr}{Q:Int->Shared->Prop}(hu:A.units+70<cLine)(x:Ux P w s.heap k a)(q:Q (Wm P w k) { s with toks:=s.toks+((k.map λr=>r.length+1).sum+1) }) :
  wpAny (model P w) A (pyHash (.ref a)) Q E s:=by
 obtain ⟨o,vs,n,ho,hc,hd,r⟩:=x;refine W.pyHash_slot (T := "tuple") ⟨o,ho,hc⟩ F.slot_tuple_hash F.entry_tuple_hash (F.args_tuple_hash_1 _) (beq_builtin_none _) (.inr (by lia)) ?_;show wpAny (model P w) A.in1 (Builtin.Tuple.tupleItemsOf (.ref a) >>= _) _ E s;refine Yaa (wpAny_tupleItemsOf ho hd (Yaa ?_));rw [<-Array.forIn_toList];refine W4 (by rw [Yer];lia) r λb' hb=>?_;show wpAny _ _ (retInt (Builtin.Tuple.tupleHashOf b'.toList)) _ _ _;refine Yaa (wpAny_mkInt (Yab ⟨_,_,rfl,?_⟩));rw [hb];simpa [Wm,Nat.add_assoc] using q
noncomputable def Uy (row:List Int):PyData:=.tuple (row.map PyData.int)
theorem Zg {its:List Value}{row:List Int}(x:ItemsAre (intKind P w) row its):∃as,ReadsAll h its (row.map PyData.int) as:=by
 induction x with
 | nil=>exact ⟨_,.nil⟩
 | @cons k v ks vs h1 _ ih=>
  obtain ⟨as,r⟩:=ih;obtain ⟨t,rfl⟩:∃t,v=.int k t:=by
   cases v <;> simp [intKind,Value.isInt] at h1;subst h1;exact ⟨_,rfl⟩
  exact ⟨_,.cons (.int _ _) r⟩
theorem ZaN {row:List Int}{v:Value}(x:Wl P w h row v):∃as,Reads h v (Uy row) as:=by
 obtain ⟨b,rfl,o,its,n,h1,h2,h3,h4⟩:=x;obtain ⟨as,r⟩:=Zg (h:=h) h4;exact ⟨as,.tuple h1 h2 h3 r⟩
theorem Up:∀{k:List (List Int)}{vs:List Value},Paired (Wl P w h) k vs->∃as,ReadsAll h vs (k.map Uy) as
 | _,_,.nil=>⟨_,.nil⟩
 | _,_,.cons x r=>by
  obtain ⟨as,h1⟩:=ZaN x;obtain ⟨bs,h2⟩:=Up r;exact ⟨_,.cons h1 h2⟩
theorem Yo (row:List Int):PyData.canLay0 (Uy row)=true:=by
 unfold Uy;simp only [PyData.canLay0];exact UF row
theorem UM:∀k:List (List Int),PyData.canLayAll0 (k.map Uy)=true
 | []=>by simp [PyData.canLayAll0]
 | r::k=>by
  rw [Yaq];simp [PyData.canLayAll0,Yo r,UM k]
theorem Uq:∀k:List (List Int),PyData.depthAll (k.map Uy)<=2
 | []=>by simp [PyData.depthAll]
 | r::k=>by
  have ih:=Uq k;have:=J4 r;rw [Yaq];simp only [PyData.depthAll,Uy,PyData.depth]
  lia
theorem Wn (r q:List Int):PyData.eqv (Uy r) (Uy q)=decide (r=q):=by
 have:=VU r q;unfold Uy;simp only [PyData.eqv] at this ⊢;exact this
theorem Va:∀k l:List (List Int),PyData.eqvAll (k.map Uy) (l.map Uy)=decide (k=l)
 | [],[]=>by simp [PyData.eqvAll]
 | [],_::_=>by simp [PyData.eqvAll]
 | _::_,[]=>by simp [PyData.eqvAll]
 | r::k,q::l=>by
  rw [Yaq,Yaq];simp only [PyData.eqvAll,Wn,Va k l];by_cases e1:r=q <;> by_cases e2:k=l <;> simp [e1,e2]
theorem Yp (k l:List (List Int)):PyData.eqv (.tuple (k.map Uy)) (.tuple (l.map Uy))=decide (k=l):=by
 simp only [PyData.eqv,Va]
theorem XM {k l:List (List Int)}{a b:Addr}{Q:Bool->Shared->Prop}(hu:A.units+70<cLine)(x:Ux P w s.heap k a)(y:Ux P w s.heap l b)(q:Q (decide (k=l)) s) :
  wpAny (model P w) A (eqBool (.ref a) (.ref b)) Q E s:=by
 obtain ⟨o,vs,n,ho,hc,hd,r⟩:=x;obtain ⟨o',vs',n',ho',hc',hd',r'⟩:=y;obtain ⟨as,h1⟩:=Up r;obtain ⟨bs,h2⟩:=Up r';have e:=SeqAt.eqAt_reads (.tuple (k.map Uy)) (.tuple (l.map Uy)) A s (.ref a) (.ref b) as bs (.tuple ho hc hd h1) (.tuple ho' hc' hd' h2) (by simp only [PyData.canLay0];exact UM k) (by simp only [PyData.canLay0];exact UM l) ?_
 ·rw [Yp] at e;exact e P w E Q q
 ·have d1:=Uq k;simp only [PyData.depth]
  lia
theorem VG {n:Nat}{Q:Option Bool×PUnit->Shared->Prop}(q:Q (none,⟨⟩) s):∀{vs:List Value},(∀v∈vs,∀{Q:Bool->Shared->Prop},Q true s->wpAny (model P w) A (eqIsQuiet n v) Q E s) ->
  wpAny (model P w) A (forIn vs ((none,⟨⟩):Option Bool×PUnit) λy r=>do if !(<- eqIsQuiet n y) then pure (ForInStep.done (some false,⟨⟩)) else pure (ForInStep.yield (none,⟨⟩))) Q E s
 | [],_=>by
  rw [List.forIn_nil];exact Yab q
 | v::vs,hv=>by
  rw [List.forIn_cons];refine Yaa (Yaa (hv v (Ybe ..) ?_));simp only [Bool.not_true,Yeg,Ycu];exact Yab (VG q λu hu=>hv u (Ybb _ hu))
theorem W6 {n m:Nat}{a:Addr}{o:Obj}{vs:Array Value}{Q:Bool->Shared->Prop}(ho:s.heap.get? a=some o)(hc:o.cls=.type "tuple")(hd:o.data=.seq vs m)(hv:∀v∈vs.toList,∀{Q:Bool->Shared->Prop},Q true s->wpAny (model P w) A (eqIsQuiet n v) Q E s)(q:Q true s):wpAny (model P w) A (eqIsQuiet (n+1) (.ref a)) Q E s:=by
 unfold eqIsQuiet;refine Yaa (wpAny_specialOf (⟨o,ho,hc⟩:s.TypeIs (.ref a) "tuple") F.slot_tuple_eq.lookup ?_);show wpAny _ _ (isInstance (.ref a) (.type "tuple") >>= _) _ _ s;refine Yaa (Yfs (⟨o,ho,hc⟩:s.TypeIs (.ref a) "tuple") isSubtype_tuple_tuple ?_);simp only [Bool.not_true,Yeg,Ycu];refine Yaa (wpAny_seqItems ho hd (Yaa ?_));show wpAny _ _ (forIn vs _ _) _ _ s;rw [<-Array.forIn_toList];exact VG (Yab q) hv
theorem ZaO {n:Nat}{row:List Int}{its:List Value}{Q:Bool->Shared->Prop}(x:ItemsAre (intKind P w) row its):∀v∈its,∀{Q:Bool->Shared->Prop},Q true s->wpAny (model P w) A (eqIsQuiet n v) Q E s:=λv hv Q q=>by
 rw [eqIsQuiet_byValue n (x.byValue v hv)];exact Yab q
theorem Zh {k:List (List Int)}{a:Addr}{Q:Bool->Shared->Prop}(x:Ux P w s.heap k a)(q:Q true s):wpAny (model P w) A (eqIsQuiet 8 (.ref a)) Q E s:=by
 obtain ⟨o,vs,n,ho,hc,hd,r⟩:=x;refine W6 ho hc hd (λv hv Q q=>?_) q;have each:∀{k:List (List Int)}{vs:List Value},Paired (Wl P w s.heap) k vs->∀v∈vs,∃row,Wl P w s.heap row v:=by
  intro k vs r
  induction r with
  | nil=>intro v hv;cases hv
  | cons x _ ih=>
   intro v hv;rcases Yas.mp hv with rfl | hv
   ·exact ⟨_,x⟩
   ·exact ih v hv
 obtain ⟨row,b,rfl,o',its,m,h1,h2,h3,h4⟩:=each r v hv;exact W6 h1 h2 h3 (ZaO (Q:=λ_ _=>True) h4) q
theorem Zi {k:List (List Int)}{a d:Addr}{o:Obj}{es ep}(x:Ux P w h k a)(ho:h.get? d=some o)(hd:o.data=.dict es ep)(hs:Heap.SameBut d h h'):Ux P w h' k a:=by
 obtain ⟨o',vs,n,h1,h2,h3,r⟩:=x;have ne:a≠d:=λz=>by
  rw [z,ho] at h1;cases h1;rw [hd] at h3;cases h3
 refine ⟨o',vs,n,(hs.2 a ne).trans h1,h2,h3,?_⟩;refine Paired.mapP r λrow v z=>?_;obtain ⟨b,e,y⟩:=z;exact ⟨b,e,y.keeps ho hd hs⟩
end
noncomputable def Yq (P:Program)(w:World):HeapKind P w (List (List Int)) where
 is:=Ux P w
 hash:=Wm P w
 draws:=λk=>(k.map λr=>r.length+1).sum+1
 room:=λA=>A.units+70<cLine
 inj:=λ{h a x y} hx hy=>by
  obtain ⟨o,vs,n,h1,_,h3,r⟩:=hx;obtain ⟨o',vs',n',h1',_,h3',r'⟩:=hy;rw [h1] at h1';cases h1';rw [h3] at h3';cases h3';exact Yn r r'
 keeps:=λx ho hd hs=>Zi x ho hd hs
 pyHash:=λhu x q=>XJ hu x q
 eqBool:=λhu x y q=>XM hu x y q
 quiet:=λx q=>Zh x q
noncomputable def KeyTT (H:Hp)(b:Addr)(k:List (List Int)):Prop:=∃cs:List Addr,H b=some (.tup (cs.map V.ref))/\Paired (λ(row:List Int) (c:Addr)=>H c=some (.tup (row.map V.int))) k cs
theorem KeyTT.keep {H H':Hp}{b:Addr}{k:List (List Int)}(x:KeyTT H b k)(t:∀p ys,H p=some (.tup ys)->H' p=some (.tup ys)):KeyTT H' b k:=by
 obtain ⟨cs,h1,h2⟩:=x;exact ⟨cs,t _ _ h1,Paired.mapP h2 λ_ _ z=>t _ _ z⟩
theorem KeyTT.same {H H':Hp}{b:Addr}{k:List (List Int)}(x:KeyTT H b k)(s:Same H H'):KeyTT H' b k:=x.keep λp ys e=>s _ _ e
section
variable {P:Program}{w:World}{H:Hp}{h:Heap}{a:Addr}
theorem ZeW {b:Addr}{k:List (List Int)}(ok:HOk P w H h)(x:KeyTT H b k):Ux P w h k b:=by
 obtain ⟨cs,h1,h2⟩:=x;obtain ⟨_,its,r,o,e1,e2,n,e3⟩:=(show ObjOk P w H h b (.tup (cs.map V.ref)) from ok b _ h1);refine ⟨o,its.toArray,n,e1,e2,e3,?_⟩;have row:∀{row:List Int}{c:Addr},H c=some (.tup (row.map V.int))->IsTupleKey (intKind P w) h row c:=λ{row c} e=>by
  obtain ⟨_,its,r,o,g1,g2,n,g3⟩:=(show ObjOk P w H h c (.tup (row.map V.int)) from ok c _ e);refine ⟨o,its.toArray,n,g1,g2,g3,?_⟩;have go:∀{row:List Int}{its:List Value},Vals (row.map V.int) its->ItemsAre (intKind P w) row its:=by
   intro row
   induction row with
   | nil=>intro its r;cases r;exact .nil
   | cons x row ih=>
    intro its r;rw [Yaq] at r;cases r with
    | cons h t=>
     obtain ⟨tk,rfl⟩:=h;exact .cons (by simp [intKind,Value.isInt]) (ih t)
  simpa using go r
 have go:∀{k:List (List Int)}{cs:List Addr}{its:List Value},Paired (λ(row:List Int) (c:Addr)=>H c=some (.tup (row.map V.int))) k cs->Vals (cs.map V.ref) its->Paired (Wl P w h) k its:=by
  intro k cs its p
  induction p generalizing its with
  | nil=>intro r;cases r;exact .nil
  | @cons a b l1 l2 e _ ih=>
   intro r;rw [Yaq] at r;cases r with
   | cons hh t=>
    cases hh;exact .cons ⟨_,rfl,row e⟩ (ih t)
 simpa using go h2 r
end
section
variable {X:Cx}{qJ:List (Addr×Obj)}{σ:St}{H:Hp}{s:Shared}{a:Addr}{y v d:V}{u r:Value}{o:Option V}{A:Around}{E:EX}
theorem Zcc {P:Program}{w:World}(hu:A.units+71<cLine):(Yq P w).room A.in1:=by
 show A.in1.units+70<cLine;rw [Yer]
 lia
end
section
variable {X:Cx}{qJ:List (Addr×Obj)}{σ:St}{H:Hp}{s:Shared}{a:Addr}
end
section
variable (P:Program)(w:World)
end
section
variable {X:Cx}{P:Program}{w:World}{o i e f value:Expr}{pos pos' apos jQ:Pos}{td ty tv tx tk:TE}
end
section
variable {X:Cx}
end
section
variable {prog:Program}{w:World}{A:Around}{E:EX}{s:Shared}
theorem ZaP {it d:Addr}{i ep:Nat}{es:Array DictEntry}{o:Obj}{e:DictEntry}{Q:EX}(hit:s.heap.IsKeyIter it d i es.size ep)(ho:s.heap.get? d=some o)(hd:o.data=.dict es ep)(hi:es[i]?=some e)(q:∀h',h'.IsKeyIter it d (i+1) es.size ep->Heap.SameBut it s.heap h'->Q e.key { s with heap:=h' }):wpAny (model prog w) A (Builtin.«dict_keyiterator.__next__» ⟨[.ref it],[]⟩) (λfin s'=>∃v,fin=.done (.ret v)/\Q v s') E s:=by
 obtain ⟨⟨c0,d0,t0,sl0⟩,hoi,hci,hdi⟩:=id hit;subst hci hdi;have T:=hit.typeIs
 wp_walk using wpAny_fieldsOf hoi rfl,wpAny_dictEntries ho hd,wpAny_dictEpoch ho hd,Ygh T,wpAny_isOneOf_keyiter T
 rw [if_neg (by lia),Yef,hi]
 wp_walk using Ygh T,wpAny_isOneOf_keyiter T,wpAny_setField hoi rfl
 case hi=>exact (by decide:(0:Nat)+1<4)
 case h=>
  have K1:(s.heap.update it (Obj.mapFields (·.setIfInBounds 1 (rawInt ((i:Int)+1))))).IsKeyIter it d (i+1) es.size ep:=by
   exact ⟨_,Yfr _ hoi rfl,rfl,rfl⟩
  have B1:Heap.SameBut it s.heap (s.heap.update it (Obj.mapFields (·.setIfInBounds 1 (rawInt ((i:Int)+1))))):=Yfb ..;have T1:=K1.typeIs (s:={ s with heap:=s.heap.update it (Obj.mapFields (·.setIfInBounds 1 (rawInt ((i:Int)+1)))) });show wpAny _ _ _ _ _ { s with heap:=s.heap.update it (Obj.mapFields (·.setIfInBounds 1 (rawInt ((i:Int)+1)))) };generalize s.heap.update it (Obj.mapFields (·.setIfInBounds 1 (rawInt ((i:Int)+1))))=h1 at K1 B1 T1 ⊢
  wp_walk using wpAny_isOneOf_keyiter T1
  exact ⟨_,rfl,q _ K1 B1⟩
theorem ZaQ {it d:Addr}{i ep:Nat}{es:Array DictEntry}{o:Obj}{Q:EX}(hh:A.handled=none)(hit:s.heap.IsKeyIter it d i es.size ep)(ho:s.heap.get? d=some o)(hd:o.data=.dict es ep)(hi:es[i]?=none)(q:∀h' e,(∀c o,c≠it->s.heap.get? c=some o->h'.get? c=some o)->(∃o,h'.get? e=some o/\o.cls=.type "StopIteration")->E (.ref e) { s with heap:=h' }):wpAny (model prog w) A (Builtin.«dict_keyiterator.__next__» ⟨[.ref it],[]⟩) (λfin s'=>∃v,fin=.done (.ret v)/\Q v s') E s:=by
 obtain ⟨⟨c0,d0,t0,sl0⟩,hoi,hci,hdi⟩:=id hit;subst hci hdi;have T:=hit.typeIs
 wp_walk using wpAny_fieldsOf hoi rfl,wpAny_dictEntries ho hd,wpAny_dictEpoch ho hd,Ygh T,wpAny_isOneOf_keyiter T
 rw [if_neg (by lia),Yef,hi]
 wp_walk using Ygh T,wpAny_setField hoi rfl
 case hi=>exact (by decide:(0:Nat)<4)
 case h=>
  have B1:Heap.SameBut it s.heap (s.heap.update it (Obj.mapFields (·.setIfInBounds 0 Value.none))):=Yfb ..;show wpAny _ _ _ _ _ { s with heap:=s.heap.update it (Obj.mapFields (·.setIfInBounds 0 Value.none)) };generalize s.heap.update it (Obj.mapFields (·.setIfInBounds 0 Value.none))=h1 at B1 ⊢
  wp_walk using wpAny_raiseNew_none hh
  exact q _ _ (λc o n e=>Yal _ (Yal _ (by rw [B1.2 c n];exact e))) ⟨_,Ybh _ rfl,rfl⟩
theorem ZaR {it d:Addr}{i ep:Nat}{es:Array DictEntry}{o:Obj}{e:DictEntry}{Q:Option Value->Shared->Prop}(hit:s.heap.IsKeyIter it d i es.size ep)(ho:s.heap.get? d=some o)(hd:o.data=.dict es ep)(hi:es[i]?=some e)(q:∀h',h'.IsKeyIter it d (i+1) es.size ep->Heap.SameBut it s.heap h'->Q (some e.key) { s with heap:=h' }):wpAny (model prog w) A (pyNext (.ref it)) Q E s:=by
 refine Yaa (Ydz (Yfk hit.typeIs Ygi (Ycv Ygi hit.typeIs F.entry_dict_keyiterator_next (ZaP hit ho hd hi λh' k b=>?_) (F.args_dict_keyiterator_next_1 _))))
 wp_walk
 exact q h' k b
theorem ZaS {it d:Addr}{i ep:Nat}{es:Array DictEntry}{o:Obj}{Q:Option Value->Shared->Prop}(hh:A.in1.handled=none)(hit:s.heap.IsKeyIter it d i es.size ep)(ho:s.heap.get? d=some o)(hd:o.data=.dict es ep)(hi:es[i]?=none)(q:∀h',(∀c o,c≠it->s.heap.get? c=some o->h'.get? c=some o)->Q none { s with heap:=h' }):wpAny (model prog w) A (pyNext (.ref it)) Q E s:=by
 refine Yaa (Ydz (Yfk hit.typeIs Ygi (Ycv Ygi hit.typeIs F.entry_dict_keyiterator_next (ZaQ hh hit ho hd hi ?_) (F.args_dict_keyiterator_next_1 _))));rintro h' e k ⟨o',e1,e2⟩;exact Yaa (Yfs ⟨o',e1,e2⟩ isSubtype_stop (Yab (q h' k)))
theorem ZaT {d:Addr}{ep:Nat}{es:Array DictEntry}{o:Obj}{Q:EX}(hs:(d == sysModules)=false)(ho:s.heap.get? d=some o)(hc:o.ExactDict)(hd:o.data=.dict es ep)(q:∀h',h'.IsKeyIter s.heap.objs.size d 0 es.size ep->(∀c o,s.heap.get? c=some o->h'.get? c=some o)->Q (.ref s.heap.objs.size) { s with heap:=h' }):wpAny (model prog w) A (pyIter (.ref d)) Q E s:=by
 have T:s.TypeIs (.ref d) "dict" := ⟨o,ho,hc.1⟩;refine wpAny_pyIter_slot T F.slot_dict_iter (Ycv F.slot_dict_iter T F.entry_dict_iter ?_ (F.args_dict_iter_1 _))
 wp_walk using wpAny_notOrdered_dict T,wpAny_dictEntries ho hd,wpAny_dictEpoch ho hd
 exact ⟨_,rfl, "dict_keyiterator", _,⟨_,Ybh _ rfl,rfl⟩,F.slot_dict_keyiterator_next.lookup,q _ ⟨_,Ybh _ rfl,rfl,rfl⟩ λc o e=>Yal _ e⟩
end
section
variable {X:Cx}
theorem Zcd {α β:Type}{F:α->β->Prop}{l:List α}{m:List β}(h:Paired F l m):∀{i:Nat}{x:α},l[i]?=some x->∃y,m[i]?=some y/\F x y:=by
 induction h with
 | nil=>intro i x e;simp at e
 | @cons p q _ _ r _ ih=>
  intro i x e;cases i with
  | zero=>simp at e;subst e;exact ⟨q,by simp,r⟩
  | succ i=>simp at e;obtain ⟨y,h1,h2⟩:=ih e;exact ⟨y,by simpa using h1,h2⟩
end
structure GK (P:Program)(w:World)(κ:Type)[DecidableEq κ] where
 knd:HeapKind P w κ
 At:Hp->Addr->κ->Prop
 ok:∀{H:Hp}{h:Heap}{b:Addr}{k:κ},HOk P w H h->At H b k->knd.is h k b
 keep:∀{H H':Hp}{b:Addr}{k:κ},At H b k->(∀p ys,H p=some (.tup ys)->H' p=some (.tup ys))->At H' b k
 room:∀{A:Around},A.units+71<cLine->knd.room A.in1
noncomputable abbrev GKv (κ:Type):=List (κ×Addr×V)
section
variable {P:Program}{w:World}{κ:Type}[DecidableEq κ](G:GK P w κ)
noncomputable def GPr (p:κ×Addr×V)(q:κ×Addr×Value):Prop:=p.1=q.1/\p.2.1=q.2.1/\RelV p.2.2 q.2.2
noncomputable def gd (a:Addr)(kvs:GKv κ):HO:=.ext λh=>kvs.length<=sizeLine/\(a == sysModules)=false/\∃xs:List (κ×Addr×Value),Paired GPr kvs xs/\∃o es ep,h.get? a=some o/\o.ExactDict/\o.data=.dict es ep/\es.toList=xs.map (entryOfKey G.knd)/\(xs.map (·.1)).Nodup
noncomputable def GKeys (H:Hp)(kvs:GKv κ):Prop:=∀p∈kvs,G.At H p.2.1 p.1
noncomputable def Ud (kvs:GKv κ)(k:κ):Option V:=(kvs.find? λp=>decide (p.1=k)).map (·.2.2)
end
section
variable {P:Program}{w:World}{κ:Type}[DecidableEq κ]{G:GK P w κ}{H H':Hp}{h:Heap}{a:Addr}{kvs:GKv κ}
theorem GKeys.keep (x:GKeys G H kvs)(t:∀p ys,H p=some (.tup ys)->H' p=some (.tup ys)):GKeys G H' kvs:=λp hp=>G.keep (x p hp) t
theorem ZaU (ok:HOk P w H h)(e:Rd H a (gd G a kvs))(K:GKeys G H kvs):kvs.length<=sizeLine/\(a == sysModules)=false/\∃xs,Paired GPr kvs xs/\h.DictOfH G.knd a xs:=by
 obtain ⟨⟨z,y,xs,r,o,es,ep,h1,h2,h3,h4,h5⟩,_,_⟩:=(show ObjOk P w H h a (gd G a kvs) from e.ok ok);refine ⟨z,y,xs,r,o,es,ep,h1,h2,h3,h4,λx hx=>?_,h5⟩;have all:∀{l:GKv κ}{m:List (κ×Addr×Value)},Paired GPr l m->GKeys G H l->∀x∈m,G.knd.is h x.1 x.2.1:=by
  intro l m q
  induction q with
  | nil=>intro _ x hx;cases hx
  | @cons p q ps qs hq t ih=>
   intro K x hx;rcases Yas.mp hx with rfl | hx
   ·rw [<-hq.1,<-hq.2.1];exact G.ok ok (K p (Ybe ..))
   ·exact ih (λy hy=>K y (Ybb _ hy)) x hx
 exact all r K x hx
theorem Yr {xs:List (κ×Addr×Value)}(r:Paired GPr kvs xs)(k:κ):RelO (Ud kvs k) ((atKey xs k).map (·.2)):=by
 induction r with
 | nil=>exact True.intro
 | @cons p q ps qs h t ih=>
  obtain ⟨h1,_,h2⟩:=h;by_cases e:p.1=k
  ·have e':q.1=k:=h1.symm.trans e;have a1:Ud (p::ps) k=some p.2.2:=by simp [Ud,Ydg,e]
   have a2:atKey (q::qs) k=some q.2:=by simp [atKey,Ydg,e']
   rw [a1,a2];exact h2
  ·have e':¬ q.1=k:=λz=>e (h1.trans z);have a1:Ud (p::ps) k=Ud ps k:=by simp [Ud,Ydg,e]
   have a2:atKey (q::qs) k=atKey qs k:=by simp [atKey,Ydg,e']
   rw [a1,a2];exact ih
theorem ZcR {xs:List (κ×Addr×Value)}(z:kvs.length<=sizeLine)(y:(a == sysModules)=false)(r:Paired GPr kvs xs)(dd:h.DictOfH G.knd a xs):ObjOk P w H' h a (gd G a kvs):=by
 obtain ⟨o,es,ep,h1,h2,h3,h4,_,h5⟩:=dd;refine ⟨⟨z,y,xs,r,o,es,ep,h1,h2,h3,h4,h5⟩,⟨o,h1⟩,λg1 g2 x k=>?_⟩;obtain ⟨z',y',xs',r',o',es',ep',e1,e2⟩:=x;exact ⟨z',y',xs',r',o',es',ep',k _ e1,e2⟩
theorem Zce (h:Heap)(hb:sysModules<h.objs.size):ObjOk P w H (h.push { cls:=.type "dict", data:=.dict #[] }) h.objs.size (gd G h.objs.size ([]:GKv κ)):=by
 have e:(h.push { cls:=.type "dict", data:=.dict #[] }).get? h.objs.size=some { cls:=.type "dict", data:=.dict #[] }:=Ybh _ rfl;refine ZcR (Yar _) (Ydu.mpr (Ydm hb)) .nil ⟨_,#[],_,e,⟨rfl,rfl,rfl⟩,rfl,rfl,λx hx=>(by cases hx),Yea⟩
end
noncomputable def Zj {P:Program}{w:World}{κ:Type}[DecidableEq κ](G:GK P w κ)(H:Hp)(a:Addr)(y:V)(o:Option V):Prop:=∃kvs k b,Rd H a (gd G a kvs)/\GKeys G H kvs/\y=.ref b/\G.At H b k/\o=Ud kvs k
section
variable {X:Cx}{κ:Type}[DecidableEq κ]{G:GK X.prog X.w κ}{qJ:List (Addr×Obj)}{σ:St}{H:Hp}{s:Shared}{a:Addr}{y v d:V}{u r:Value}{o:Option V}{A:Around}{E:EX}
theorem ZdR {Q:EX}(hu:A.units+71<cLine)(I:Inv X qJ σ H s)(g:Zj G H a y o)(ry:RelV y u)(h:∀s',Inv X qJ σ H s'->Q (.bool (!o.isSome)) s') :
  wpAny (model X.prog X.w) A (compareOp .NotIn u (.ref a)) Q E s:=by
 obtain ⟨kvs,k,b,e,K,rfl,kb,rfl⟩:=g;cases (show u=Value.ref b from ry);obtain ⟨z,hd,xs,rel,dd⟩:=ZaU I.hok e K;refine wpAny_notIn_heap (G.room hu) (G.ok I.hok kb) hd dd ?_;have q:=(Yr rel k).isSome_eq;rw [Option.isSome_map] at q;rw [<-q];exact h _ (I.tok _)
theorem ZaV {Q:EX}(hu:A.units+71<cLine)(I:Inv X qJ σ H s)(g:Zj G H a y (some v))(ry:RelV y u)(h:∀w' s',Inv X qJ σ H s'->RelV v w'->Q w' s') :
  wpAny (model X.prog X.w) A (getItem (.ref a) u) Q E s:=by
 obtain ⟨kvs,k,b,e,K,rfl,kb,ev⟩:=g;cases (show u=Value.ref b from ry);obtain ⟨z,hd,xs,rel,dd⟩:=ZaU I.hok e K;obtain ⟨w',hw,rw'⟩:=RelO.some_of (v:=v) (o:=(atKey xs k).map (·.2)) (by rw [ev];exact Yr rel k);obtain ⟨p,hp,rfl⟩:=Ybu.mp hw;exact wpAny_getItem_heap (G.room hu) (G.ok I.hok kb) dd hp (h _ _ (I.tok _) rw')
theorem ZaW {kvs:GKv κ}{k:κ}{b:Addr}{Q:Unit->Shared->Prop}(hu:A.units+71<cLine)(I:Inv X qJ σ H s)(e:H a=some (gd G a kvs))(K:GKeys G H kvs)(kb:G.At H b k)(hn:Ud kvs k=none)(hl:kvs.length<sizeLine)(rv:RelV v r)(h:∀s',Inv X qJ σ (upd H a (gd G a (kvs++[(k,b,v)]))) s'->Q () s'):wpAny (model X.prog X.w) A (setItem (.ref a) (.ref b) r) Q E s:=by
 obtain ⟨z,hd,xs,rel,dd⟩:=ZaU I.hok (.inl e) K;have hz:xs.length<=sizeLine:=by rw [<-Ycs rel];exact z
 have hn':atKey xs k=none:=Yft.mp (RelO.none_of (by rw [<-hn];exact Yr rel k));refine wpAny_setItem_heap (hsz:=hz) (G.room hu) (G.ok I.hok kb) dd λh' dd' hs=>h _ ?_;rw [storedH_new hn'] at dd';have he:∃q,h'.get? a=some q:=let ⟨q,_,_,hq,_⟩:=dd';⟨q,hq⟩;exact VW I (by rw [e];exact True.intro) hs he (ZcR (by rw [Yai,Yat];lia) hd (Paired.snoc rel ⟨rfl,rfl,rv⟩) dd')
theorem Inv.freezeG {kvs:GKv κ}(I:Inv X qJ σ H s)(e:H a=some (gd G a kvs)):∃o,Inv X qJ σ (upd H a (.frz o (gd G a kvs))) s:=by
 have ob:ObjOk X.prog X.w H s.heap a (gd G a kvs):=I.hok a _ e;obtain ⟨⟨_,_,_,_,o,_,_,h1,_⟩,_⟩:=id ob;have ob':ObjOk X.prog X.w (upd H a (.frz o (gd G a kvs))) s.heap a (gd G a kvs):=ob;exact ⟨o,I.write (x:=a) (e:=a) (o:=.frz o (gd G a kvs)) (h':=s.heap) (t':=s.toks) (by rw [e];exact True.intro) (.inl rfl) (λb u _ q=>q) ⟨_,h1⟩ ⟨h1,ob'⟩⟩
end
section
variable {X:Cx}{κ:Type}[DecidableEq κ]{G:GK X.prog X.w κ}{qJ:List (Addr×Obj)}{σ:St}{H:Hp}{s:Shared}{a:Addr}
theorem ZaX {y:V}{o:Option V}(I:Inv X qJ σ H s)(g:Zj G H a y o):s.TypeIs (.ref a) "dict" /\ ∀b,Value.ref a=.ref b->∃ob,s.heap.get? b=some ob/\ob.dict=none:=by
 obtain ⟨kvs,k,b,e,K,_,_,_⟩:=g;obtain ⟨_,_,xs,_,dd⟩:=ZaU I.hok e K;refine ⟨dd.typeIs,λb q=>?_⟩;cases q;obtain ⟨ob,_,_,h1,h2,_⟩:=dd;exact ⟨ob,h1,h2.2.1⟩
end
section
variable {P:Program}{w:World}{κ:Type}[DecidableEq κ](G:GK P w κ)
noncomputable def ZgV:TE:=λ_ H Q=>∀p,H p=none->Q (.ref p) (upd H p (gd G p ([]:GKv κ)))
noncomputable def ZdS (ty td:TE):TE:=λσ H Q=>ty σ H λy H1=>td σ H1 λx H2=>∃a o,x=.ref a/\Zj G H2 a y o/\Q (.bl (!o.isSome)) H2
noncomputable def Zhr (td ty:TE):TE:=λσ H Q=>td σ H λx H1=>ty σ H1 λy H2=>∃a v,x=.ref a/\Zj G H2 a y (some v)/\Q v H2
noncomputable def ZgW (td ty tv:TE):TS:=λD σ H=>tv σ H λv H1=>td σ H1 λx H2=>ty σ H2 λy H3=>∃a b kvs k,x=.ref a/\y=.ref b/\H3 a=some (gd G a kvs)/\GKeys G H3 kvs/\G.At H3 b k/\Ud kvs k=none/\kvs.length<sizeLine/\D.nx σ (upd H3 a (gd G a (kvs++[(k,b,v)])))
end
section
variable {X:Cx}{κ:Type}[DecidableEq κ]{G:GK X.prog X.w κ}{o i e f value:Expr}{pos pos' apos jQ:Pos}{td ty tv tx:TE}
theorem ZaY:PE X (.Dict [] [] pos) (ZgV G):=λqJ s σ H Q I h=>
 wpAny_Dict_empty ⟨.ref s.heap.objs.size,_,I.laid (a:=s.heap.objs.size) (o:=gd G s.heap.objs.size ([]:GKv κ)) (t':=s.toks) (λ_ _ q=>Yal _ q) (Yad _) (Zce s.heap I.big),rfl,h _ (I.hok.fresh (Yad _))⟩
theorem ZaZ (hu:X.A.units+71<cLine)(hi:PE X i ty)(ho:PE X o td):PC X .NotIn i o (ZdS G ty td):=by
 intro qJ s σ H Q I h;refine thn (hi qJ s σ H _ I h) λiv s1 ⟨y,H1,I1,ry,q1⟩=>thn (ho qJ s1 σ H1 _ I1 q1) λu s2 ⟨x,H2,I2,rx,a,ov,ex,g,q2⟩=>?_;subst ex;obtain rfl:u=Value.ref a:=rx;exact ZdR hu I2 g ry λs3 I3=>⟨.bl (!ov.isSome),H2,I3,rfl,q2⟩
theorem O9 (hu:X.A.units+71<cLine)(ho:PE X o td)(hi:PE X i ty)(hs:Zgc i):PE X (.Subscript o i pos) (Zhr G td ty):=by
 intro qJ s σ H Q I h;refine Z7 PySem.F.slot_dict_getitem.lookup hs (thn (ho qJ s σ H _ I h) λu s1 ⟨x,H1,I1,rx,q1⟩=>thn (hi qJ s1 σ H1 _ I1 q1) λiv s2 ⟨y,H2,I2,ry,a,v,ex,g,q2⟩=>?_);subst ex;obtain rfl:u=Value.ref a:=rx;exact ⟨(ZaX I2 g).1,ZaV hu I2 g ry λw' s3 I3 rw'=>⟨v,H2,I3,rw',q2⟩⟩
theorem XN (hu:X.A.units+71<cLine)(ho:PE X o td)(hi:PE X i ty)(hv:PE X value tv)(hs:swapsWith value (some (.Subscript o i pos')) pos.line X.env=pure false) :
  PS X (.Assign [.Subscript o i pos'] value pos) (ZgW G td ty tv):=by
 intro qJ s σ H D I h;refine wpAny_Assign_Subscript (thn (hv qJ s σ H _ I h) λr s1 ⟨v,H1,I1,rv,q1⟩=>thn (ho qJ s1 σ H1 _ I1 q1) λu s2 ⟨x,H2,I2,rx,q2⟩=>thn (hi qJ s2 σ H2 _ I2 q2) λiv s3 ⟨y,H3,I3,ry,a,b,kvs,k,ex,ey,ea,K,kb,hn,hl,q3⟩=>?_) hs;subst ex ey;obtain rfl:u=Value.ref a:=rx;obtain rfl:iv=Value.ref b:=ry;exact ZaW hu I3 ea K kb hn hl rv λs4 I4=>⟨σ,_,I4,q3⟩
end
section
variable {X:Cx}{κ:Type}[DecidableEq κ]
noncomputable def ItG {P:Program}{w:World}(G:GK P w κ)(a:Addr)(o:Obj)(kvs:GKv κ):It:=
 ⟨λi H=>H a=some (.frz o (gd G a kvs))/\i<kvs.length,λi H x H'=>H'=H/\∃k b v,kvs[i]?=some (k,b,v)/\x=.ref b,λi H=>H a=some (.frz o (gd G a kvs))/\kvs.length<=i⟩
theorem Wo {G:GK X.prog X.w κ}{qJ:List (Addr×Obj)}{σ:St}{H:Hp}{s:Shared}{a:Addr}{o:Obj}{kvs:GKv κ}(I:Inv X qJ σ H s)(e:H a=some (.frz o (gd G a kvs))) :
  (a == sysModules)=false/\s.heap.get? a=some o/\o.ExactDict/\∃es ep,o.data=.dict es ep/\es.size=kvs.length/\∀(i:Nat) k b v,kvs[i]?=some (k,b,v)->∃de:DictEntry,es[i]?=some de/\de.key=.ref b:=by
 obtain ⟨h1,⟨z,hd,xs,r,o',es,ep,h2,h3,h4,h5,h6⟩,_⟩:=(show ObjOk X.prog X.w H s.heap a (.frz o (gd G a kvs)) from I.hok a _ e);rw [h1] at h2;cases h2;refine ⟨hd,h1,h3,es,ep,h4,?_,λi k b v hi=>?_⟩
 ·rw [<-Yan,h5,Yac,Ycs r]
 ·obtain ⟨⟨k',b',u⟩,hq,e1,e2,_⟩:=Zcd r hi;refine ⟨entryOfKey G.knd (k',b',u),?_,?_⟩
  ·rw [<-Yay,h5,Yaz,hq]
   rfl
  ·exact Ybc Value.ref e2.symm
theorem Zk {P:Program}{w:World}{G:GK P w κ}{K:W.Frag}{tg:Expr}(a it:Addr)(o:Obj)(kvs:GKv κ)(es:Array DictEntry)(ep:Nat)(ho:o.data=.dict es ep)(hsz:es.size=kvs.length) :
  Zc5 P w K tg (ItG G a o kvs) [it] it (λi h=>h.IsKeyIter it a i es.size ep) where
 mem:=by simp
 obj:=λi h st b hb=>by
  have e:b=it:=by simpa using hb
  subst e;obtain ⟨o,e,c,d⟩:=st;exact ⟨o,e,λv z=>by rw [d] at z;cases z⟩
 keep:=λi h h' st k=>by
  obtain ⟨o,e,c,d⟩:=st;exact ⟨o,k it (by simp) o e,c,d⟩
 item:=by
  intro X hP hw hK hc i qJ s σ H E I hf st hg;subst hP hw hK;obtain ⟨hq,hi⟩:=hg;obtain ⟨hd,h1,h2,es',ep',h3,h4,h5⟩:=Wo I hq;rw [ho] at h3;cases h3;obtain ⟨⟨k,b,v⟩,hx⟩:∃x,kvs[i]?=some x:=⟨_,Yau hi⟩;obtain ⟨de,hde,hkey⟩:=h5 i k b v hx;obtain ⟨f0,f1,f2,f3,f4,f5⟩:=hf it (by simp);refine ZaR st h1 ho hde λh' st' sb=>?_;have I1:Inv X qJ σ H { s with heap:=h' }:=I.turned (t':=s.toks) (λb o hb e=>(sb.2 b hb).trans e) f0 f1 f3 f4 f5;obtain ⟨o',e,c,d⟩:=id st';exact ⟨de.key,rfl,Zbv (s:={ s with heap:=h' }) e c d (by decide) ⟨.ref b,H,I1,hkey,⟨rfl,k,b,v,hx,rfl⟩,st',λb hb=>(hf b hb).1⟩⟩
 done:=by
  intro X hP hw hK hc i qJ s σ H E I hf st hg;subst hP hw hK;obtain ⟨hq,hi⟩:=hg;obtain ⟨hd,h1,h2,es',ep',h3,h4,h5⟩:=Wo I hq;rw [ho] at h3;cases h3;obtain ⟨f0,f1,f2,f3,f4,f5⟩:=hf it (by simp);exact ZaS (I.ok.hd hc) st h1 ho (Ygb (by lia)) λh' eb=>⟨rfl,I.turned (t':=s.toks) (λb o hb e=>eb b o hb e) f0 f1 f3 f4 f5⟩
 self:=λ_ _ _ _ _ st h=>wpAny_pyIter_keyiter st h
noncomputable def ZeX {P:Program}{w:World}(G:GK P w κ)(tl:TE):TI:=λσ H R=>tl σ H λx H1=>∃a kvs,x=.ref a/\((H1 a=some (gd G a kvs)/\∀o,R (ItG G a o kvs) (upd H1 a (.frz o (gd G a kvs))))\/∃o,H1 a=some (.frz o (gd G a kvs))/\R (ItG G a o kvs) H1)
theorem Ys {G:GK X.prog X.w κ}{tg l:Expr}{tl:TE}(hl:PE X l tl):PI X tg l (ZeX G tl):=by
 intro qJ s σ H R I h;refine thn (hl qJ s σ H _ I h) λv s1 ⟨x,H1,I1,r1,q1⟩=>?_;obtain ⟨a,kvs,e,q⟩:=q1;subst e;cases r1;obtain ⟨o,H2,I2,hq,q2⟩:∃o H2,Inv X qJ σ H2 s1/\H2 a=some (.frz o (gd G a kvs))/\R (ItG G a o kvs) H2:=by
  rcases q with ⟨e,q⟩ | ⟨o,e,q⟩
  ·obtain ⟨o,I2⟩:=I1.freezeG e;exact ⟨o,_,I2,Ga,q o⟩
  ·exact ⟨o,H1,I1,e,q⟩
 obtain ⟨hd,h1,h2,es,ep,h3,h4,h5⟩:=Wo I2 hq;refine ZaT hd h1 h2 h3 λh' st kp=>?_;refine ⟨s1.heap.objs.size,[s1.heap.objs.size],_,_,H2,rfl,I2.kept (t':=s1.toks) kp,Zk a _ o kvs es ep h3 h4,st,λb hb=>?_,q2⟩;have e:b=s1.heap.objs.size:=by simpa using hb
 subst e;exact I2.fpOk (Yad _) (I2.hok.fresh (Yad _))
theorem Za0 {P:Program}{w:World}{G:GK P w κ}{a:Addr}{o:Obj}{kvs:GKv κ}{g:TG}{tb:TS}{D:Zy}{σ:St}{H:Hp}(Pv:Nat->St->Hp->Prop)(h0:Pv 0 σ H)(hl:∀i σ H,i<=kvs.length->Pv i σ H->H a=some (.frz o (gd G a kvs)))(hs:∀i k b v σ H,kvs[i]?=some (k,b,v)->Pv i σ H->g (.ref b) σ H λσ2 H2=>tb { D with nx:=Pv (i+1),ct:=Pv (i+1),bk:=D.nx } σ2 H2)(hd:∀ σ H,Pv kvs.length σ H->D.nx σ H) :
  ∃W:Nat->Nat->St->Hp->Prop,(∃m,W 0 m σ H)/\∀i m σ H,W i m σ H ->
   ((ItG G a o kvs).stop i H/\D.nx σ H)\/((ItG G a o kvs).go i H/\∃N:St->Hp->Prop,(∀ σ' H',N σ' H'->∃m',m'<m/\W (i+1) m' σ' H')/\∀x H',(ItG G a o kvs).yld i H x H'->g x σ H' λσ2 H2=>tb { D with nx:=N,ct:=N,bk:=D.nx } σ2 H2):=by
 refine ⟨λi m σ H=>m=kvs.length-i/\i<=kvs.length/\Pv i σ H,⟨_,rfl,Yar _,h0⟩,?_⟩;rintro i m σ H ⟨rfl,hi,p⟩;have q:=hl i σ H hi p;by_cases hlt:i<kvs.length
 ·refine .inr ⟨⟨q,hlt⟩,Pv (i+1),λσ' H' p'=>⟨kvs.length-(i+1),by lia,rfl,hlt,p'⟩,λx H' y=>?_⟩;obtain ⟨e,k,b,v,ek,rfl⟩:=y;subst e;exact hs i k b v σ _ ek p
 ·have e:i=kvs.length:=by lia
  subst e;exact .inl ⟨⟨q,Yad _⟩,hd σ H p⟩
theorem Zl {P:Program}{w:World}{G:GK P w κ}{a D:Addr}{o:Obj}{kvs:GKv κ}{g:TG}{tc:TT}{te:TE}{σ0:St}{R:Hp->Prop}{H1:Hp}(Pv:Nat->List V->Hp->Prop)(h0:Pv 0 [] (upd H1 D (.lst [])))(hl:∀i ys H,i<=kvs.length->Pv i ys H->H a=some (.frz o (gd G a kvs)))(hs:∀i k b v ys H,kvs[i]?=some (k,b,v)->Pv i ys H->g (.ref b) σ0 H λσ4 H4=>Ob σ0 σ4/\tc σ4 H4 λc H5=>if c=true then te σ4 H5 λy H6=>H6 D=some (.lst ys)/\ys.length<sizeLine/\Pv (i+1) (ys++[y]) (upd H6 D (.lst (ys++[y]))) else Pv (i+1) ys H5)(hd:∀ys H,Pv kvs.length ys H->R H):∃W:Nat->Nat->List V->Hp->Prop,(∃m,W 0 m [] (upd H1 D (.lst [])))/\J2 (ItG G a o kvs) D g tc te σ0 W R:=by
 refine ⟨λi m ys H=>m=kvs.length-i/\i<=kvs.length/\Pv i ys H,⟨_,rfl,Yar _,h0⟩,?_⟩;rintro i m ys H ⟨rfl,hi,p⟩;have q:=hl i ys H hi p;by_cases hlt:i<kvs.length
 ·refine .inr ⟨⟨q,hlt⟩,Pv (i+1),λys' H' p'=>⟨kvs.length-(i+1),by lia,rfl,hlt,p'⟩,λx H' y=>?_⟩;obtain ⟨e,k,b,v,ek,rfl⟩:=y;subst e;exact hs i k b v ys _ ek p
 ·have e:i=kvs.length:=by lia
  subst e;exact .inl ⟨⟨q,Yad _⟩,hd ys H p⟩
end
section
variable {X:Cx}
noncomputable def ZeY (i:Nat)(f:Addr)(sp:Sp)(dvs:List V)(E:XK)(t:TA):TE:=λσ H Q=>σ[i]?=some (some (.ref f))/\Zew sp dvs E t σ H Q
theorem Zcf {CX:CXT}{k i:Nat}{f:Addr}{fd:FuncData}{ps:List Str}{sp:Sp}{ds:List Value}{dvs:List V}{E:XK}{x:Str}{e:Expr}{es:List Expr}{t:TA}{p pos:Pos}(F:G4 X.prog X.w X.K X.mg X.base CX k f fd ps sp)(hr:Room k X.A)(hv:PE X (.Name x p) (Zbu i))(hk:W.keepIn X.K (.ref f)=true)(hb:Binds X.K fd ps ds)(hd:Vals dvs ds)(hx:OP CX X E)(ha:PA X (e::es) t)(he:starEach (e::es) X.env=(false,eval e X.env)::starEach es X.env:=by rfl)(hpl:(backTo pos (starEach es X.env)).any (·.1)=false:=by rfl):PE X (.Call (.Name x p) (e::es) [] pos) (ZeY i f sp dvs E t):=by
 intro qJ s σ H Q I h;refine Yfj (thn (hv qJ s σ H (λv H'=>v=.ref f/\H'=H) I ⟨_,h.1,rfl,rfl⟩) λu s1 ⟨v,H1,I1,r1,ev,eH⟩=>?_);subst ev eH;obtain rfl:u=Value.ref f:=r1;refine W.callWith_K (h₀:=X.base) I1.ok.mod.kin hk (thn (ha pos qJ s1 σ H1 _ I1 h.2) λus s2 ⟨vs,H2,I2,r,q⟩=>⟨I2.kIn,?_⟩) he hpl;exact ZN F hr hb hd hx I2 r q
end
section
variable {prog:Program}{w:World}{A:Around}{E:EX}{s:Shared}
theorem Vk {r q:Addr}{vs:List Value}{kz:List Int}{J:Shared->Prop}{Q:EX}(hv:s.heap.IsList r vs.toArray)(hz:vs.length<=sizeLine)(hl:kz.length=vs.length)(hJ:∀h' tk,(∀c o,s.heap.get? c=some o->h'.get? c=some o)->J { s with heap:=h',toks:=tk })(put:∀(s1:Shared)(c:Addr)(f:Obj->Obj),s.heap.objs.size<=c->J s1->J { s1 with heap:=s1.heap.update c f })(ask:∀(i:Nat)(v:Value)(k:Int)(s1:Shared)(R:EX)(E':EX),vs[i]?=some v->kz[i]?=some k->J s1 ->
   (∀t s2,J s2->s1.heap.objs.size<=s2.heap.objs.size->(∀c o,s.heap.objs.size<=c->s1.heap.get? c=some o->s2.heap.get? c=some o)->R (.int k t) s2)->wpAny (model prog w) A.in1.in1 (call (.ref q) [v]) R E' s1)(fin:∀(s2:Shared)(l:Addr)(out:Array Value)(c:Nat),J s2->s.heap.objs.size<=l->s2.heap.get? l=some (seqObj "list" out c)->Fall kz vs out.toList->Q (.ref l) s2) :
  wpAny (model prog w) A (call (.builtin "sorted") [.ref r] [(Str.ofString "key", .ref q),(Str.ofString "reverse", .bool true)]) Q E s:=by
 have h16:=Ybf;refine call_function_entry_kw kind_sorted plain_sorted entry_sorted (ksk_s2 _ _ _) ?_;unfold Builtin.sorted;refine Yaa (Yab ?_);refine Yaa (collect_list hv ?_ hz);generalize hh1:(s.heap.push (seqObj "list" #[] 0)).update s.heap.objs.size (Obj.mapSeq λx=>x++vs.toArray)=h1;have sz:s.heap.objs.size<=h1.objs.size:=by rw [<-hh1,Heap.size_update,Yck];exact Ydf _
 have k1:∀c o,s.heap.get? c=some o->h1.get? c=some o:=λc o e=>by
  rw [<-hh1];exact JF (Yav (Yak e)) (Yal _ e)
 refine Yaa (Yff ?_ hz);have k2:∀c o,s.heap.get? c=some o->(h1.push { cls:=Value.type "list", data:=Data.seq vs.toArray }).get? c=some o:=λc o e=>Yal _ (k1 c o e);have eL:(h1.push { cls:=Value.type "list", data:=Data.seq vs.toArray }).get? h1.objs.size=some (seqObj "list" vs.toArray 0):=Ybh _ rfl;have zz:(h1.push { cls:=Value.type "list", data:=Data.seq vs.toArray }).objs.size=h1.objs.size+1:=Yck ..;show wpAny _ _ _ _ _ { s with heap:=h1.push { cls:=Value.type "list", data:=Data.seq vs.toArray } };have hput:∀h':Heap,(∀c o,s.heap.get? c=some o->h'.get? c=some o)->J { s with heap:=h' }:=λh' k=>hJ h' s.toks k;generalize h1.push { cls:=Value.type "list", data:=Data.seq vs.toArray }=h2 at k2 eL zz ⊢;refine Yaa (Yci (wpAny_call_entry_kw (s:={ s with heap:=h2 }) slot_list_sort ⟨_,eL,rfl⟩ entry_list_sort ?_ (ksk_l2 _ _ _)));refine O8 (s:={ s with heap:=h2 }) (J:=λs1=>J s1) eL hz hl ⟨λs1 c f hc j=>put s1 c f (by rcases hc with rfl | rfl;exact sz;show _<=h2.objs.size+1;lia) j⟩ ?_ ?_ ?_
 ·refine hput _ λc o e=>Yal _ (Yal _ ((Ycm _ _ ?_).trans (k2 c o e)));exact Ydm (Ybk (Yak e) sz)
 ·intro i v k s1 R E' hvi hk j _ hR;exact ask i v k s1 R E' hvi hk j λt s2 j2 l2 kp=>hR t s2 j2 l2 λc o hc e=>kp c o (by rcases hc with rfl | rfl;exact sz;show _<=h2.objs.size+1;lia) e
 ·intro s2 out c j e F;exact ⟨.none,rfl,Yab ⟨_,rfl,fin s2 _ out c j sz e F⟩⟩
end
section
variable {X:Cx}
theorem Yt:∀{bs:List Addr}{us:List Value}{i:Nat}{v:Value},Vals (bs.map V.ref) us->us[i]?=some v->∃b,bs[i]?=some b/\v=.ref b
 | [],_,i,v,h,e=>by cases h;simp at e
 | b::bs,_,0,v,h,e=>by
  cases h with
  | cons r t=>cases r;simp at e;exact ⟨b,rfl,e.symm⟩
 | b::bs,_,i+1,v,h,e=>by
  cases h with
  | cons r t=>obtain ⟨c,h1,h2⟩:=Yt (i:=i) t (by simpa using e);exact ⟨c,by simpa using h1,h2⟩
theorem Za1:∀{bs:List Addr}{us:List Value},Vals (bs.map V.ref) us->us=bs.map Value.ref
 | [],_,h=>by cases h;rfl
 | b::bs,_,h=>by
  cases h with
  | cons r t=>cases r;rw [Za1 t];rfl
theorem Uz:∀bs:List Addr,Vals (bs.map V.ref) (bs.map Value.ref)
 | []=>.nil
 | b::bs=>.cons rfl (Uz bs)
theorem Zm {κ:Type}[DecidableEq κ]{G:GK X.prog X.w κ}{qJ:List (Addr×Obj)}{σ:St}{H:Hp}{s:Shared}{a:Addr}{y v:V}{u:Value}{A:Around}{E:EX}{Q:EX}(hu:A.units+71<cLine)(I:Inv X qJ σ H s)(g:Zj G H a y (some v))(ry:RelV y u)(h:∀w' tk,RelV v w'->Q w' { s with toks:=tk }) :
  wpAny (model X.prog X.w) A (getItem (.ref a) u) Q E s:=by
 obtain ⟨kvs,k,b,e,K,rfl,kb,ev⟩:=g;cases (show u=Value.ref b from ry);obtain ⟨z,hd,xs,rel,dd⟩:=ZaU I.hok e K;obtain ⟨w',hw,rw'⟩:=RelO.some_of (v:=v) (o:=(atKey xs k).map (·.2)) (by rw [ev];exact Yr rel k);obtain ⟨p,hp,rfl⟩:=Ybu.mp hw;exact wpAny_getItem_heap (G.room hu) (G.ok I.hok kb) dd hp (h _ _ rw')
noncomputable def ZeZ {P:Program}{w:World}{κ:Type}[DecidableEq κ](G:GK P w κ)(K:W.Frag)(j:Nat)(qual:Str)(params:Arguments)(body:Expr)(scope:Scope)(clos:List (Str×Addr))(pm:Value):St->List V->List V->Hp->VK->Prop:=λσ xs zs H Q=>
 ∃(r f c nd:Addr)(oc:Obj)(ctv:Value)(ts:List (Addr×Int)),xs=[.ref r]/\zs=[.ref f,.bl true]/\SqL K H r (ts.map λt=>V.ref t.1) /\
  H f=some (.frz (W.kla_obj "<lambda>" qual params body scope clos pm c ctv) (.own f))/\H c=some (.frz oc (.own c))/\ZdO qual oc/\σ[j]?=some (some (.ref nd)) /\
  (∀t∈ts,∃(b:Addr)(ys:List V),Zj G H nd (.ref t.1) (some (.ref b))/\SqT K H b (V.int t.2::ys)) /\
  ∀(l:Addr)(ps:List (Addr×Int)),H l=none->ps.Perm ts->ps.Pairwise (λp q=>q.2<=p.2)->Q (.ref l) (upd H l (.lst (ps.map λt=>V.ref t.1)))
theorem Zn {κ:Type}[DecidableEq κ]{G:GK X.prog X.w κ}{K:W.Frag}{j:Nat}{x y:Str}{qual:Str}{params:Arguments}{scope:Scope}{pm:Value}{cc:Addr}{p1 p2 p5 p6 p7:Pos}{d2:Nat}(hK:X.K=K)(jZ:X.A.in1.in1.depth<recursionLimit)(hu:X.A.units+80<cLine)(hN:X.N[j]?=some y)(hv:Vis X.env.scope y)(hky:X.env.kindOf y=some .cell)(hcy:X.env.cells.lookup y=some cc)(hco:scope.isCoroutine=false)(hgen:scope.isGenerator=false)(hk:scope.kind=.function)(hbind:∀(c:Addr)(ctv arg:Value),bindArgs (W.kla_fn "<lambda>" qual params (.Subscript (.Subscript (.Name y p1) (.Name x p2) p5) (.Constant (.int 0) d2 p6) p7) scope [(y,cc)] pm (.ref c) ctv) ⟨[arg],[]⟩=pure [(x,arg)])(hlx:scope.names.lookup x=some .local)(hly:scope.names.lookup y=some .free)(jV:∀z∈scope.names,z.2≠.cell)(hdx:(x == ("__debug__" : Str))=false)(hdy:(y == ("__debug__" : Str))=false)(hcd:(y == ("__classdict__" : Str))=false)(qJ:List (Addr×Obj))(s:Shared)(σ:St)(H:Hp)(xs:List V)(us:List Value)(zs:List V)(ws:List Value)(Q:VK)(I:Inv X qJ σ H s)(rx:Vals xs us)(rz:Vals zs ws)(h:ZeZ G K j qual params (.Subscript (.Subscript (.Name y p1) (.Name x p2) p5) (.Constant (.int 0) d2 p6) p7) scope [(y,cc)] pm σ xs zs H Q) :
  wpAny (model X.prog X.w) X.A (call (.builtin "sorted") us (([Str.ofString "key", Str.ofString "reverse"]:List Str).zip ws)) (EP X qJ σ Q) X.xe s:=by
 subst hK;obtain ⟨r,f,c,nd,oc,ctv,ts,rfl,rfl,er,ef,ec,⟨vs1,tq,hd1,hv1⟩,eσ,ht,q⟩:=h;obtain ⟨u,rfl,ru⟩:=rx.one;cases ru;obtain ⟨u1,u2,rfl,ru1,ru2⟩:=rz.two;cases ru1;cases ru2;obtain ⟨its,rv,pl,hz⟩:=I.list er;have qW:=rv.length;rw [Yac] at qW hz;have h16:=Ybf.symm;have rv':Vals ((ts.map Prod.fst).map V.ref) its:=by rw [Ycq];exact rv
 have keepI:∀(h1:Heap)(tk:Nat),(∀b o,s.heap.get? b=some o->h1.get? b=some o)->Inv X qJ σ H { s with heap:=h1,toks:=tk }:=λh1 tk k=>I.kept (t':=tk) k;show wpAny (model X.prog X.w) X.A (call (.builtin "sorted") [.ref r] [(Str.ofString "key", .ref f),(Str.ofString "reverse", .bool true)]) (EP X qJ σ Q) X.xe s;refine Vk (kz:=ts.map (·.2)) (vs:=its) (J:=λs1=>∃h1 tk,s1={ s with heap:=h1,toks:=tk }/\∀b o,s.heap.get? b=some o->h1.get? b=some o) pl.isList (by lia) (by rw [Yac];exact qW)
  (λh1 tk k=>⟨h1,tk,rfl,k⟩) ?_ ?_ ?_
 ·rintro s1 d g hd ⟨h1,tk,rfl,k⟩;exact ⟨_,tk,rfl,λb o e=>(Ycm _ _ (Ydm (Ybk (Yak e) hd))).trans (k b o e)⟩
 ·rintro i v k s1 R E' hvi hki ⟨h1,tk,rfl,kp⟩ hR;have I1:=keepI h1 tk kp;obtain ⟨ti,eti,rfl⟩:∃ti,ts[i]?=some ti/\ti.2=k:=by
   rw [Yaz] at hki;obtain ⟨ti,h1,h2⟩:=Ybu.mp hki;exact ⟨ti,h1,h2⟩
  obtain ⟨b0,hb0,rfl⟩:=Yt rv' hvi;have eb0:b0=ti.1:=by
   rw [Yaz,eti] at hb0;exact (Ybl hb0).symm
  subst eb0;have of:h1.get? f=some (W.kla_obj "<lambda>" qual params (.Subscript (.Subscript (.Name y p1) (.Name x p2) p5) (.Constant (.int 0) d2 p6) p7) scope [(y,cc)] pm c ctv):=(I1.hok f _ ef).1;have oc1:h1.get? c=some oc:=(I1.hok c _ ec).1;refine Ym (s:={ s with heap:=h1,toks:=tk }) (x:=x) jZ of ⟨c,oc,vs1,tq,rfl,oc1,hd1,hv1⟩ (I1.ok.mod.nolimit.keeps I1.bk) hco hgen hk (hbind _ _ _) hlx jV λh2 L k2 sz hns=>?_;have I2:Inv X qJ σ H { s with heap:=h2,toks:=tk+1 }:=keepI h2 (tk+1) λb o e=>k2 b o (kp b o e);obtain ⟨m,hm,lk⟩:=I2.loc;obtain ⟨u,ru,lu⟩:=lk j y _ hN eσ hv;cases ru;have hcl:h2.IsCell cc (some (.ref nd)):=by
   rcases lu with ⟨z,_⟩ | ⟨_,c2,z1,z2⟩
   ·rw [hky] at z;cases z
   ·rw [hcy] at z1;cases z1;exact z2
  obtain ⟨b,ys,gg,hb⟩:=ht ti (Yax eti);refine Subscript_ (Subscript_ (wpAny_Name (wpAny_loadName_free hk hly (by simp) hcl ?_ hcd) hdy));refine wpAny_Name (wpAny_loadName_local hk hlx hns (show (λz=>[(x,Value.ref ti.1)].reverse.lookup z) x=some (.ref ti.1) by simp) ?_) hdx;refine tail_any (ops:=[.ref nd,.ref ti.1]) (ZaX I2 gg).1 PySem.F.slot_dict_getitem.lookup (Zm (s:={ s with heap:=h2,toks:=tk+1 }) (by show X.A.units+1+1+3+71<cLine;lia) I2 gg rfl λw' tk' rw'=>?_) rfl;obtain rfl:w'=Value.ref b:=rw';have I3:Inv X qJ σ H { s with heap:=h2,toks:=tk' }:=keepI h2 tk' λb o e=>k2 b o (kp b o e);obtain ⟨its2,rv2,pl2,hz2⟩:=I3.tuple hb;obtain ⟨uk,gk,rk⟩:=rv2.get (show (V.int ti.2::ys)[0]?=some (V.int ti.2) from rfl);obtain ⟨tu,rfl⟩:=rk;have hvz:0<its2.length:=(Yao.mp gk).1;have hz3:its2.length<=sizeLine:=by rw [<-rv2.length];exact hz2
  refine wpAny_Constant_int ?_;exact subscriptTail_builtinR (x:=.int ti.2 tu) pl2.typeIs slot_tuple_getitem.lookup (getItem_tuple (j:=0) (Q:=λr s'=>r=.int ti.2 tu/\R r s') pl2 (by decide) (by decide) (by rw [Yaw,seqIndex_of (by lia) (by lia)];rfl) (by simpa using gk) ⟨rfl,hR tu _ ⟨h2,_,rfl,λb o e=>k2 b o (kp b o e)⟩ sz λb o _ e=>k2 b o e⟩) rfl
 ·rintro s2 l out cn ⟨h1,tk,rfl,kp⟩ hl eL ⟨ps,pm,po,pw⟩;have ei:=Za1 rv';have ez:(ts.map (·.2)).zip its=ts.map λt=>(t.2,Value.ref t.1):=by
   rw [ei,Ycq,List.zip_map']
   rfl
  rw [ez] at pm;obtain ⟨qs,q1,rfl⟩:=J7 pm;have eo:out.toList=(qs.map Prod.fst).map Value.ref:=by
   rw [po,Ycq,Ycq]
   rfl
  rw [Ybq] at pw;have hql:=q1.length_eq;refine ⟨.ref l,_,I.laid (a:=l) (o:=.lst (qs.map λt=>V.ref t.1)) (h':=h1) (t':=tk) kp hl ⟨by rw [Yac];lia,out.toList,cn,?_,by simpa [seqObj] using eL⟩,rfl,q l qs (I.hok.fresh hl) q1 pw⟩;rw [eo];have:=Uz (qs.map Prod.fst);rw [Ycq] at this;exact this
end
noncomputable def ZcS (Ps:List Addr)(H:Hp):Prop:=∀b,b ∉ Ps->H b=none\/∃o xs,H b=some (.frz o (.lst xs))
theorem Zo {Pr:Program}{w:World}{K:W.Frag}{mg mb:Str->Option Value}{CX:CXT}{k:Nat}{fa a:Addr}{cs:List (Addr×Addr)}{fd:FuncData}{x:Str}{sp:Sp}{s₁:Shared}{vs:List Value}{ns:List Int}(KX:K.In s₁.heap)(hns:s₁.heap.Ns mainGlobals mg)(hb:s₁.heap.Ns builtinsNs mb)(hbb:∀x:Str,x ≠ "__name__" -> mb x=bootBuiltins x)(hlim:s₁.heap.NoLimit)(hg:s₁.gens=#[])(C:∀t∈cs,W.CodeHd s₁.heap t.1 t.2)(hP:∀t∈cs,s₁.heap.get? t.2=some (W.tabObj #[]))(hKP:∀t∈cs,K.lookup t.2=none)(hB:∀t∈cs,s₁.heap.BuiltinsAt mg t.2)(ha:s₁.heap.get? a=some { cls:=.type "list", data:=.seq vs.toArray })(hi:IntsAre vs ns)(hl:ns.length<=sizeLine)(hr:Room k callerA)(F:∀base:Heap,K.In base->base.Ns mainGlobals mg->(∀t∈cs,W.CodeHd base t.1 t.2/\base.BuiltinsAt mg t.2)->G4 Pr w K mg base CX k fa fd [x] sp)(hbind:∀(s:Shared)(u:Value),BindsTo s fd ⟨[u],[]⟩ [(x,u)])(hsp:∀H:Hp,ZcS (cs.map (·.2)) H->(∀t∈cs,H t.2=some (.tbl #[]))->SqL K H a (ns.map V.int)->sp [.ref a] H (λv _=>v=.bl true) λ_ _ _=>False)(hCX:∀H e s',CX [] H s₁ (λ_ _ _=>False) e s'->False) :
  codeAny (model Pr w) callerA (.call (.ref fa) ⟨[.ref a],[]⟩) (λr s'=>r=.ok (.ret (.bool true))/\OldK s₁.heap s'.heap/\s'.os=s₁.os/\AllBare s'.gens) s₁:=by
 have rv:=UY hi;have lenV:=hi.length;have tabs:∀b,b∈cs.map (·.2)->∃t∈cs,t.2=b:=λb hb=>by
  obtain ⟨t,ht,e⟩:=Yaj.mp hb;exact ⟨t,ht,e⟩
 have hPb:∀b,b∈cs.map (·.2)->s₁.heap.get? b=some (W.tabObj #[]):=λb hb=>by
  obtain ⟨t,ht,rfl⟩:=tabs b hb;exact hP t ht
 have naP:a ∉ cs.map (·.2):=λz=>by have:=hPb a z;rw [ha] at this;cases this
 have core:∀H:Hp,ZcS (cs.map (·.2)) H->(∀t∈cs,H t.2=some (.tbl #[]))->SqL K H a (ns.map V.int)->HOk Pr w H s₁.heap->(∀b,H b≠none->b=a\/b∈cs.map (·.2))->(H a≠none->K.lookup a=none) ->
   codeAny (model Pr w) callerA (.call (.ref fa) ⟨[.ref a],[]⟩) (λr s'=>r=.ok (.ret (.bool true))/\OldK s₁.heap s'.heap/\s'.os=s₁.os/\AllBare s'.gens) s₁:=by
  intro H hO hHP hS hok hA hK;have base_of:∀{b:Addr}{o:Obj},s₁.heap.get? b=some o->H b=none->(Zw s₁.heap H).get? b=some o:=λe n=>Zbt e n;have noA:∀{b:Addr}{o:Obj},s₁.heap.get? b=some o->o.cls≠.type "list" -> o.cls≠.none->H b=none:=λ{b o} e d1 d2=>by
   cases q:H b with
   | none=>rfl
   | some u=>
    rcases hA b (by rw [q];simp) with e' | e'
    ·rw [e',ha] at e;cases e;exact absurd rfl d1
    ·rw [hPb b e'] at e;cases e;exact absurd rfl d2
  have noD:∀{b:Addr}{o:Obj}{es:Array DictEntry}{ep:Nat},s₁.heap.get? b=some o->o.data=.dict es ep->H b=none:=λ{b o es ep} e d=>by
   cases q:H b with
   | none=>rfl
   | some u=>
    rcases hA b (by rw [q];simp) with e' | e'
    ·rw [e',ha] at e;cases e;cases d
    ·rw [hPb b e'] at e;cases e;cases d
  have nsK:∀{b:Addr}{m:Str->Option Value},s₁.heap.Ns b m->(Zw s₁.heap H).Ns b m:=λ{b m} ⟨o,es,ep,e,d,r⟩=>⟨o,es,ep,base_of e (noD e d),d,r⟩;have hKb:K.In (Zw s₁.heap H):=λb o e=>base_of (KX b o e) (by
   cases q:H b with
   | none=>rfl
   | some u=>
    rcases hA b (by rw [q];simp) with e' | e'
    ·subst e';rw [hK (by rw [q];simp)] at e;cases e
    ·obtain ⟨t,ht,rfl⟩:=tabs b e';rw [hKP t ht] at e;cases e)
  have hM:Mod K mg (Zw s₁.heap H):=⟨hKb,nsK hns,⟨mb,nsK hb,hbb⟩,let ⟨mc,h1,h2⟩:=hlim;⟨mc,nsK h1,h2⟩⟩;have e0:Env0 Pr w K mg (Zw s₁.heap H) callerA [] s₁ H:=⟨rfl,hM,λb o e=>Zc3 e,Nat.le_of_eq (Zx _ _),trivial,λb hb=>absurd (show b∈([]:List Addr) from hb) (by simp),hok,.of_eq hg⟩;have Cb:∀t∈cs,W.CodeHd (Zw s₁.heap H) t.1 t.2:=λt ht=>by
   obtain ⟨o,ws,file,tf,flags,tg,inF,text,tt,e1,r1,r2⟩:=C t ht;exact ⟨o,ws,file,tf,flags,tg,inF,text,tt,base_of e1 (noA e1 (by rw [r1];decide) (by rw [r1];nofun)),r1,r2⟩
  have Bb:∀t∈cs,(Zw s₁.heap H).BuiltinsAt mg t.2:=λt ht=>by
   obtain ⟨bm,o,h1,h2,h3,h4,h5,h6,h7⟩:=hB t ht;exact ⟨bm,o,h1,h2,h3,h4,base_of h5 (noA h5 (by rw [h6];decide) (by rw [h6];nofun)),h6,h7⟩
  refine codeAny_mono ((F _ hKb (nsK hns) λt ht=>⟨Cb t ht,Bb t ht⟩).run callerA [] s₁ H ⟨[.ref a],[]⟩ [.ref a] [.ref a] _ _ hr e0 (hbind s₁ (.ref a)) (.cons rfl .nil) (hsp H hO hHP hS)) λr s' h=>?_;cases r with
  | error e=>exact (hCX H e s' h).elim
  | ok fl=>
   cases fl with
   | next=>exact False.elim h
   | brk=>exact False.elim h
   | cont=>exact False.elim h
   | ret u=>
    obtain ⟨v,H',os,bare,un,hok',r',q⟩:=h;have q':v=.bl true:=q;subst q';obtain rfl:u=Value.bool true:=r';have hP':∀t∈cs,∃more:Array Value,s'.heap.get? t.2=some { cls:=.none,data:=.fields (#[]++more) }:=λt ht=>by
     obtain ⟨more,eP⟩:=un.tbls t.2 _ (hHP t ht);exact ⟨more,hok' t.2 _ eP⟩
    have kp:∀b o,b ∉ cs.map (·.2)->s₁.heap.get? b=some o->s'.heap.get? b=some o:=λb o hbP e=>by
     cases q:H b with
     | none=>exact un.keep b o e q (by intro z;exact absurd (show b∈([]:List Addr) from z) (by simp)) (by simp)
     | some u=>
      rcases hO b hbP with z | ⟨ob,xs,z⟩
      ·rw [q] at z;cases z
      ·have z2:=un.frzs b ob _ z;obtain ⟨e1,_⟩:=hok b _ z;obtain ⟨e2,_⟩:=hok' b _ z2;rw [e] at e1;cases e1;exact e2
    refine ⟨rfl,⟨λb o e=>?_,λb o e=>?_⟩,os,bare⟩
    ·by_cases hbP:b∈cs.map (·.2)
     ·obtain ⟨t,ht,rfl⟩:=tabs b hbP;obtain ⟨more,e2⟩:=hP' t ht;rw [hP t ht] at e;cases e;exact .inr (.inl ⟨((C t ht).tab (hP t ht)).isCodeTable,rfl,#[],more,rfl,e2⟩)
     ·exact .inl (kp b o hbP e)
    ·by_cases hbP:b∈cs.map (·.2)
     ·obtain ⟨t,ht,rfl⟩:=tabs b hbP;obtain ⟨more,e2⟩:=hP' t ht;exact ⟨_,e2⟩
     ·exact ⟨o,kp b o hbP e⟩
 cases hk:K.lookup a with
 | some o=>
  have e:=KX a o hk;rw [ha] at e;cases e;refine core (λb=>if b∈cs.map (·.2) then some (.tbl #[]) else none) (λb hb=>.inl (if_neg hb)) (λt ht=>if_pos (Yaj.mpr ⟨t,ht,rfl⟩)) (.inr ⟨_,vs.toArray,_,hk,rfl,rfl,rfl,by rw [Yaw,lenV];exact hl,by simpa using rv⟩) (λb u z=>?_) (λb z=>?_) λz=>absurd (if_neg naP) z
  ·by_cases hb:b∈cs.map (·.2)
   ·have z':=(if_pos hb).symm.trans z;cases z';exact hPb b hb
   ·have z':=(if_neg hb).symm.trans z;cases z'
  ·by_cases hb:b∈cs.map (·.2)
   ·exact .inr hb
   ·exact absurd (if_neg hb) z
 | none=>
  refine core (λb=>if b∈cs.map (·.2) then some (.tbl #[]) else if b=a then some (.frz { cls:=.type "list", data:=.seq vs.toArray } (.lst (ns.map V.int))) else none) (λb hb=>?_) (λt ht=>if_pos (Yaj.mpr ⟨t,ht,rfl⟩)) (.inl (.inr ⟨{ cls:=.type "list", data:=.seq vs.toArray },(if_neg naP).trans (if_pos rfl)⟩)) (λb u z=>?_) (λb z=>?_) λ_=>hk
  ·by_cases hb2:b=a
   ·exact .inr ⟨_,_,(if_neg hb).trans (if_pos hb2)⟩
   ·exact .inl ((if_neg hb).trans (if_neg hb2))
  ·by_cases hb:b∈cs.map (·.2)
   ·have z':=(if_pos hb).symm.trans z;cases z';exact hPb b hb
   ·by_cases hb2:b=a
    ·have z':=((if_neg hb).trans (if_pos hb2)).symm.trans z;cases z';subst hb2;exact ⟨ha,by rw [Yac];exact hl,vs,_,rv,ha⟩
    ·have z':=((if_neg hb).trans (if_neg hb2)).symm.trans z;cases z'
  ·by_cases hb:b∈cs.map (·.2)
   ·exact .inr hb
   ·by_cases hb2:b=a
    ·exact .inl hb2
    ·exact absurd ((if_neg hb).trans (if_neg hb2)) z
theorem walk_of2 {l:W.OpenLaw}{n k:Nat}{q:Program}{loose:List Str}{XP:(Str->Option Value)->Heap->Prop}{YP:World->Heap->Prop}{d dd de:DefRec}{K:Params->W.Frag}{CX:World->CXT}{sp:World->Addr->Addr->Sp}{x tn tm:Str}(hn:l.most=some n)(hn2:n<=sizeLine)(hdf:d.params.defaults=[])(hr:Room k callerA)(hY:∀(w:World)(h:Heap),YP w h->(K w.params).In h)(hrec:(recsOf q).find? (λe=>e.name == tn)=some dd)(hrec2:(recsOf q).find? (λe=>e.name == tm)=some de)(F:∀(w:World)(mg:Str->Option Value)(fa:Addr)(h:Heap),(K w.params).In h->h.Ns mainGlobals mg->mg d.name=some (.ref fa) ->
   ∃(fd:FuncData)(c P c2 P2:Addr),W.tabIn (K w.params) tn=some (c,P)/\(K w.params).lookup P=none/\W.tabIn (K w.params) tm=some (c2,P2)/\(K w.params).lookup P2=none/\P≠P2/\(∀(s:Shared)(u:Value),BindsTo s fd ⟨[u],[]⟩ [(x,u)]) /\
    ∀base:Heap,(K w.params).In base->base.Ns mainGlobals mg->W.CodeHd base c P->base.BuiltinsAt mg P->W.CodeHd base c2 P2->base.BuiltinsAt mg P2->G4 l.prog w (K w.params) mg base (CX w) k fa fd [x] (sp w P P2))(hsp:∀(w:World)(P P2:Addr)(H:Hp)(a:Addr)(ns:List Int),ns.length<=n->H P=some (.tbl #[])->H P2=some (.tbl #[])->P≠P2->SqL (K w.params) H a (ns.map V.int)->sp w P P2 [.ref a] H (λv _=>v=.bl true) λ_ _ _=>False)(hCX:∀(w:World)(H:Hp)(s:Shared)(e:Value)(s':Shared),CX w [] H s (λ_ _ _=>False) e s'->False) :
  W.WalkO q loose XP YP l.row.toRowW d [] (λf vs=>PySem.call f vs):=by
 refine Att.attach_call hn hdf λw s₀ s₁ mg mb fa o pm cd doc a vs ns G Y ho hd hcd hmg hobj hints qW hg=>?_;have KX:=hY w _ Y;obtain ⟨fd,c,P,c2,P2,htab,hKP,htab2,hKP2,hne,hb,hF⟩:=F w mg fa _ KX G.T.g hmg;obtain ⟨C,hP⟩:=W.tab_of G.T KX hrec htab;obtain ⟨C2,hP2⟩:=W.tab_of G.T KX hrec2 htab2;have hB:∀P,s₁.heap.get? P=some (W.tabObj #[])->s₁.heap.BuiltinsAt mg P:=λP hP=>by
  obtain ⟨bm,ob,b1,b2,b3,b4,b5,b6⟩:=G.T.bmain;refine ⟨bm,ob,b1,b2,λz=>?_,λz=>?_,b3,b4,b5,b6⟩
  ·obtain ⟨o',es,ep,e,hd',_⟩:=G.T.g;rw [z,e] at b3;cases b3;rw [hd'] at b6;cases b6
  ·rw [z,hP] at b3;cases b3;cases b4
 have two:∀{φ:Addr×Addr->Prop},φ (c,P)->φ (c2,P2)->∀t∈[(c,P),(c2,P2)],φ t:=λh1 h2 t ht=>by
  rcases Yas.mp ht with rfl | ht
  ·exact h1
  ·rw [Yah.mp ht];exact h2
 exact Zo (cs:=[(c,P),(c2,P2)]) KX G.T.g G.T.b G.T.builtins G.T.nolimit hg (two C C2) (two hP hP2) (two hKP hKP2) (two (hB P hP) (hB P2 hP2)) hobj hints (Ybo qW hn2) hr (λbase h1 h2 h3=>hF base h1 h2 (h3 (c,P) (by simp)).1 (h3 (c,P) (by simp)).2 (h3 (c2,P2) (by simp)).1 (h3 (c2,P2) (by simp)).2) hb (λH hO hT hS=>hsp w P P2 H a ns qW (hT (c,P) (by simp)) (hT (c2,P2) (by simp)) hne hS) λH e s'=>hCX w H s₁ e s'
end L2
namespace L2
open PySem PySem.Spec PyProof.Rows Classical
section
variable {prog:Program}{w:World}{A:Around}{E:EX}{s:Shared}
theorem Za2 {β:Type}{f:Value×Value->β->Sem (ForInStep β)}{c0:β}{cR:Bool->β}{Q:β->Shared->Prop}(feq:∀(x:Int)(t u:Tok){Q:ForInStep β->Shared->Prop},Q (.yield c0) s->wpAny (model prog w) A (f (.int x t,.int x u) c0) Q E s)(fne:∀(x y:Int)(t u:Tok){Q:ForInStep β->Shared->Prop},x≠y->Q (.done (cR (decide (x<y)))) s->wpAny (model prog w) A (f (.int x t,.int y u) c0) Q E s) :
  ∀{xs ys:List Value}{ns ms:List Int},IntsAre xs ns->IntsAre ys ms->Q (cR (GJ ns ms)) s->(decide (ns.length<ms.length)=GJ ns ms->Q c0 s)->wpAny (model prog w) A (forIn (xs.zip ys) c0 f) Q E s
 | _,_,_,_,.nil,hy,_,q=>by
  rw [List.zip_nil_left,List.forIn_nil];refine Yab (q ?_);cases hy <;> simp [GJ]
 | _,_,_,_,.cons n t hx,.nil,_,q=>by
  rw [List.zip_nil_right,List.forIn_nil];exact Yab (q (by simp [GJ]))
 | _,_,_,_,.cons n t hx,.cons m u hy,q1,q2=>by
  rw [List.zip_cons_cons,List.forIn_cons];by_cases e:n=m
  ·subst e;refine Yaa (feq n t u ?_);dsimp only;unfold GJ at q1 q2;rw [if_pos rfl] at q1 q2;exact Za2 feq fne hx hy q1 λz=>q2 (by rw [<-z];simp)
  ·refine Yaa (fne n m t u e ?_);dsimp only;unfold GJ at q1;rw [if_neg e] at q1;exact Yab q1
theorem Yu {a b:Addr}{xs ys:Array Value}{ns ms:List Int}{P:PySem.Fin->Shared->Prop}(ha:s.heap.IsTuple a xs)(hb:s.heap.IsTuple b ys)(hx:IntsAre xs.toList ns)(hy:IntsAre ys.toList ms)(h:P (.done (.ret (.bool (GJ ns ms)))) s) :
  wpAny (model prog w) A (Builtin.«tuple.__lt__» ⟨[.ref a,.ref b],[]⟩) P E s:=by
 obtain ⟨oa,ga,ca,na,da⟩:=ha;obtain ⟨ob,gb,cb,nb,db⟩:=hb;show wpAny _ _ (isInstance (.ref b) (.type "tuple") >>= _) _ _ s;refine Yaa (Yfs (T := "tuple") ⟨ob,gb,cb⟩ isSubtype_tuple_tuple ?_);simp only [Bool.not_true,Yeg,Ycu];refine Yaa (wpAny_tupleItemsOf ga da (Yaa (wpAny_tupleItemsOf gb db (Yaa ?_))));refine Za2 (cR:=λc=>(some (PySem.Fin.done (.ret (.bool c))),())) ?_ ?_ hx hy ?_ ?_
 ·intro x t u Q q;refine Yaa (wpAny_eqBool_int ?_);rw [show (x == x)=true from Yfl _];simp only [Bool.not_true,Yeg,Ycu];exact Yab q
 ·intro x y t u Q hne q;refine Yaa (wpAny_eqBool_int ?_);rw [show (x == y)=false by rw [Ydu];exact hne];simp only [Bool.not_false,if_true];exact Yaa (Yds (Yaa (lt_int (Yaa (Yab (Yab q))))))
 ·exact Yab h
 ·intro z;refine Yab ?_;have e:Builtin.Tuple.tupleCompareSizes .Lt xs.size ys.size=.bool (GJ ns ms):=by
   rw [<-z,<-G9 hx,<-G9 hy,Yan,Yan]
   rfl
  show P (.done (.ret (Builtin.Tuple.tupleCompareSizes .Lt xs.size ys.size))) s;rw [e];exact h
theorem ZcT {a b:Addr}{xs ys:Array Value}{ns ms:List Int}{Q:EX}(ha:s.heap.IsTuple a xs)(hb:s.heap.IsTuple b ys)(hx:IntsAre xs.toList ns)(hy:IntsAre ys.toList ms)(hu:A.units<cLine)(h:Q (.bool (GJ ns ms)) s):wpAny (model prog w) A (richCompare .Lt (.ref a) (.ref b)) Q E s:=by
 have Ta:s.TypeIs (.ref a) "tuple" := ha.elim λo z=>⟨o,z.1,z.2.1⟩;have Tb:s.TypeIs (.ref b) "tuple" := hb.elim λo z=>⟨o,z.1,z.2.1⟩;exact wpAny_richCompare_same_room (op:=.Lt) Ta Tb F.slot_tuple_lt (Ycv F.slot_tuple_lt Ta F.entry_tuple_lt (Yu ha hb hx hy ⟨_,rfl,(λe=>nomatch e),h⟩) (F.args_tuple_lt_2 _ _)) hu
theorem W8 {o:Bool}{a c:Addr}{xs ys:Array Value}{ns ms:List Int}{Q:Bool->Shared->Prop}(ha:s.heap.IsTuple a xs)(hc:s.heap.IsTuple c ys)(hx:IntsAre xs.toList ns)(hy:IntsAre ys.toList ms)(hu:A.units<cLine)(h:Q (GJ ns ms) s) :
  wpAny (model prog w) A (oneLt' o (.ref a) (.ref c)) Q E s:=by
 cases o with
 | true=>
  rw [oneLt'_eq];dsimp only;rw [if_pos rfl];refine Yaa (wpAny_cRoom hu ?_);have Ta:s.TypeIs (.ref a) "tuple" := ha.elim λo z=>⟨o,z.1,z.2.1⟩;refine Yaa (wpAny_callSpecialIfBound?_slot Ta F.slot_tuple_lt (Ycv F.slot_tuple_lt Ta F.entry_tuple_lt (Yu ha hc hx hy ⟨_,rfl,?_⟩) (F.args_tuple_lt_2 _ _)));show wpAny _ A (truthOfDropped (.bool (GJ ns ms))) Q E s;exact Ydv h
 | false=>exact W.kat_one _ _ (ZcT ha hc hx hy hu h)
noncomputable def ZcU (h:Heap):Value->Option Value
 | .ref a=>(h.get? a).bind λo=>match o.data with
  | .seq its _=>its[0]?
  | _=>none
 | _=>none
theorem Wp {h:Heap}{a:Addr}{its:Array Value}(t:h.IsTuple a its):ZcU h (.ref a)=its[0]?:=by
 obtain ⟨o,e,_,n,d⟩:=t;show (h.get? a).bind _=_;rw [e];simp only [Option.bind_some,d]
noncomputable def kdT (h:Heap)(vs:List Value):SortKind:=if ((vs[0]?).bind (ZcU h)).isSome then general' else oneType'
theorem Wq {vs:List Value}{R:SortKind->Shared->Prop}(h:∀v∈vs,∃a,∃its:Array Value,v=.ref a/\s.heap.IsTuple a its)(h2:2<=vs.length)(he:∃v∈vs,ZcU s.heap v=none)(q:R (kdT s.heap vs) s):wpAny (model prog w) A (keyKind' vs.toArray) R E s:=by
 rw [keyKind'_eq,List.mapM_toArray];have ty:∀v∈vs,s.TypeIs v "tuple" := λv hv=>by
  obtain ⟨a,its,rfl,o,e,c,_⟩:=h v hv;exact ⟨o,e,c⟩
 refine Yaa (O6 (J8 (g:=ZcU s.heap) (λv hv Q q=>?_) ?_))
 ·obtain ⟨a,its,rfl,t⟩:=h v hv;rw [Wp t] at q;obtain ⟨o,e,c,n,d⟩:=t;show wpAny _ _ (typeOf _ >>= _) _ _ s;refine Yaa (Ydx (ty _ hv) ?_);rw [if_neg (by decide)];exact Yaa (Ycp e d (Yab q))
 ·obtain ⟨v1,v2,rest,rfl⟩:∃v1 v2 rest,vs=v1::v2::rest:=by
   match vs,h2 with
   | v1::v2::rest,_=>exact ⟨v1,v2,rest,rfl⟩
  rw [if_neg (by
   intro z;obtain ⟨v,hv,e⟩:=he;have:=List.all_eq_true.mp (by simpa using z:(((v1::v2::rest).map (ZcU s.heap)).all λx=>x.isSome)=true) _ (Yaj.mpr ⟨v,hv,rfl⟩);rw [e] at this;cases this)]
  unfold kdT at q;simp only [List.getElem?_cons_zero,Option.bind_some] at q;by_cases hf:(ZcU s.heap v1).isSome=true
  ·rw [if_pos hf] at q;rw [if_pos (by simpa using hf)];exact Yab q
  ·rw [if_neg hf] at q;rw [if_neg (by simpa using hf)];rw [oneTypeOnly'_eq,List.mapM_toArray];refine Yaa (Yaa (O6 (J8 (g:=λ_=>Value.type "tuple") (λv hv Q q=>Ydx (ty v hv) q) ?_)));simp only [Yaq,List.getElem?_toArray,List.getElem?_cons_zero];refine Yab ?_;rw [if_pos (by simp)];exact Yab q
theorem ZdT {kd:SortKind}{b:Keyed->Keyed->Bool}{good:Keyed->Prop}(h:∀x y,good x->good y->∀{E':EX}{Q:Bool->Shared->Prop},Q (b x y) s->wpAny (model prog w) A (keyLt' kd x.1 y.1) Q E' s):Uc (model prog w) A E s kd b good:=by
 intro x y st Q gx gy hs q;rw [lt'_eq];refine Yae (wpS_get ?_);refine Yae (wpS_lift ?_);rw [hs];exact Ydz (h x y gx gy ⟨rfl,Yaf q⟩)
end
noncomputable def ZcV (w:World)(a:Addr)(zs:List (Addr×List Int)):HO:=.ext λh=>∃es ep t,SAt w h a es ep t/\es.toList.map (·.2)=zs.map λz=>Value.ref z.1
theorem VH {P:Program}{w:World}{Ad:Addr->List Int->Prop}{h:Heap}:∀{l:List (Int×Value)}{ps:List (List Int)},Paired (Y4 P w Ad h) l ps->∃zs:List (Addr×List Int),l.map (·.2)=zs.map (λz=>Value.ref z.1)/\zs.map (·.2)=ps/\∀z∈zs,Ad z.1 z.2
 | _,_,.nil=>⟨[],rfl,rfl,λz hz=>by cases hz⟩
 | _,_,.cons (b:=r) ⟨h1,a,h2,h3,h4⟩ t=>by
  obtain ⟨zs,e1,e2,e3⟩:=VH t;refine ⟨(a,r)::zs,by rw [Yaq,Yaq,h2,e1],by rw [Yaq,e2],λz hz=>?_⟩;rcases Yas.mp hz with rfl | hz
  ·exact h4
  ·exact e3 z hz
theorem Zp {h h':Heap}(k:∀c o,h.get? c=some o->h'.get? c=some o):∀vs:List Value,(∀v∈vs,∃a,∃it:Array Value,∃ns,v=.ref a/\h.IsTuple a it/\IntsAre it.toList ns/\ns≠[])->∃fs:List Value,W.KatTups h' vs fs/\fs.length=vs.length/\∀f∈fs,∃i t,f=.int i t:=by
 intro vs
 induction vs with
 | nil=>intro _;exact ⟨[],.nil,rfl,λf hf=>by cases hf⟩
 | cons v vs ih=>
  intro h;obtain ⟨fs,h1,h2,h3⟩:=ih λx hx=>h x (Ybb _ hx);obtain ⟨a,it,ns,rfl,t1,t2,t3⟩:=h v (Ybe ..);obtain ⟨o,e,c,n,d⟩:=t1;have e:=k _ _ e;have ff:∃i t,it[0]?=some (.int i t):=by
   rcases Uo t2 0 with ⟨h1,h2⟩ | ⟨i,t,h1,h2⟩
   ·exact absurd (by simpa using h2) t3
   ·exact ⟨i,t,by simpa using h1⟩
  obtain ⟨i,t,ef⟩:=ff;refine ⟨.int i t::fs,.cons e c d ef h1,by simp [h2],λf hf=>?_⟩;rcases Yas.mp hf with rfl | hf
  ·exact ⟨i,t,rfl⟩
  ·exact h3 f hf
section
variable {X:Cx}{w:World}(K:W.Frag)
theorem ZgX (hc:X.calm=true)(hu:X.A.units+64<cLine)(h:X.K=K:=by rfl)(hw:X.w=w:=by rfl):Od X (.type "set") (λxs H Q=>∃(p:Addr)(ys:List V)(rs:List (List Int)),xs=[.ref p]/\SqL K H p ys/\Tus H ys rs/\rs.length<=306 /\
  ∀(l:Addr)(zs:List (Addr×List Int)),H l=none->(zs.map (·.2)).Nodup->(∀k,k∈zs.map (·.2)↔k∈rs)->(∀z∈zs,H z.1=some (.tup (z.2.map V.int)))->Q (.ref l) (upd H l (ZcV w l zs))):=by
 subst h hw;intro qJ s σ H xs us Q I rv h;obtain ⟨p,ys,rs,rfl,hq,pr,hn,q⟩:=h;obtain ⟨u,rfl,ru⟩:=rv.one;cases ru;obtain ⟨its,r,pl,hz⟩:=I.list hq;have hl:=r.length;have hyl:=pr.len;have es:its.toArray.size=rs.length:=by rw [Yaw];lia
 refine Zaj (I.ok.hd hc) pl.isList (λi o=>∃ps,ZbT X.prog X.w (λa r=>H a=some (.tup (r.map V.int))) s.heap o ps/\ps.length<=i/\(∀k,k∈ps↔k∈rs.take i)) (λh'=>∀b o,b<s.heap.objs.size->s.heap.get? b=some o->h'.get? b=some o) ⟨[],Zap _ _ _ _,Yad _,λk=>by simp⟩ (λ_ k=>k) ?_ ?_
 ·intro i v s1 o Q1 E1 hi hv kp ho ⟨ps,hps,hle,hm⟩ hq1;have hi':i<ys.length:=by lia
  have hir:i<rs.length:=by lia
  have hv':its[i]?=some v:=by rw [List.getElem?_toArray] at hv;exact hv
  obtain ⟨t,rr,et,ett,er⟩:=pr.get (i:=i) (x:=ys[i]) (Yau hi');obtain ⟨u,eu,ru⟩:=r.get (i:=i) (x:=ys[i]) (Yau hi');rw [hv'] at eu;cases eu;rw [et] at ru;cases ru;have hx:IsTu X.prog X.w s.heap rr t:=ZdC I.hok ett;have k00:∀c o',s.heap.get? c=some o'->s1.heap.get? c=some o':=λc o' e=>kp c o' (Yak e) e;have hu3:X.A.in1.in1.in1.units<cLine:=by simp only [Yer];lia
  unfold setAdd;apply Yci;apply Yaa;refine wpAny_pyHash_tuple hu3 (hx.keep λo' e=>k00 t o' e) ?_;refine ZdB (s:={ s1 with toks:=s1.toks+((rr:List Int).length+1) }) hu3 k00 ho hps hx ett (by lia) λb h' o' ps' sb ho' hps' hp=>?_;refine hq1 b h' _ o' (Nat.le_add_right _ _) sb ho' ⟨ps',hps',?_,λk=>?_⟩
  ·rw [hp.length_eq];split
   ·lia
   ·rw [Yai,Yat];lia
  ·rw [hp.mem_iff,V4 er];split
   ·rename_i hin;rw [hm k];constructor
    ·exact .inl
    ·rintro (z | rfl)
     ·exact z
     ·exact (hm _).mp hin
   ·rw [Yag,hm k,Yah]
 ·intro h' tk o' ho' ⟨ps,hps,hle,hm⟩ hk;rw [es,Ybp] at hm;obtain ⟨es2,ep,t,h1,h2,h3,h4,h5,h6,h7⟩:=hps;obtain ⟨zs,z1,z2,z3⟩:=VH h3;subst z2;exact ⟨.ref _,_,I.laid (o:=ZcV X.w s.heap.objs.size zs) (λb o e=>hk b o (Yak e) e) (Yad _) ⟨⟨es2,ep,t,⟨⟨o',ho',h1,h2⟩,h5,h6,h7⟩,z1⟩,⟨o',ho'⟩,λh1 h2 ⟨es',ep',t',e,r⟩ k=>⟨es',ep',t',e.ext λo e=>k o e,r⟩⟩,rfl,q _ zs I.fresh h4 hm z3⟩
theorem Ze0 (hc:X.calm=true)(hu:X.A.units+64<cLine)(h:X.K=K:=by rfl)(hw:X.w=w:=by rfl):Od X (.builtin "sorted") (λxs H Q=>∃(p:Addr)(zs:List (Addr×List Int)),xs=[.ref p]/\H p=some (ZcV w p zs)/\(∀z∈zs,H z.1=some (.tup (z.2.map V.int)))/\zs.length<=1000 /\
  ∀(l:Addr)(zs':List (Addr×List Int)),H l=none->zs'.Perm zs->(zs'.map (·.2)).Pairwise (λa b=>GJ b a=false)->Q (.ref l) (upd H l (.lst (zs'.map λz=>V.ref z.1)))):=by
 subst h hw;intro qJ s σ H xs us Q I rv h;obtain ⟨p,zs,rfl,hp,hz,hl,q⟩:=h;obtain ⟨u,rfl,ru⟩:=rv.one;cases ru;obtain ⟨⟨es,ep,t,hat,hE⟩,_⟩:=I.hok p _ hp;have h16:=Ybf.symm;have qW:es.size=zs.length:=by
  have:=Ybc List.length hE
  rwa [Yac,Yac,Yan] at this
 have hh:X.A.in1.handled=none:=I.ok.hd hc;have hwp:=(JN (w:=X.w) p es ep).map (·.2);rw [hE] at hwp;obtain ⟨zs1,p1,e1⟩:=J7 hwp;have key:∀z∈zs1,∃its:Array Value,s.heap.IsTuple z.1 its/\IntsAre its.toList z.2:=λz hzm=>by
  obtain ⟨iz,rz,pz,_⟩:=I.tuple (SqT.of (K:=X.K) (hz z (p1.mem_iff.mp hzm)));exact ⟨iz.toArray,pz,J0 rz⟩
 have keepL:∀{h':Heap}{a:Addr}{it:Array Value},(∀c o,s.heap.get? c=some o->h'.get? c=some o)->s.heap.IsTuple a it->h'.IsTuple a it:=λk hl=>by
  obtain ⟨o,e,r⟩:=hl;exact ⟨o,k _ _ e,r⟩
 refine Calls.call_function_entry kind_sorted plain_sorted entry_sorted (args_sorted1 _) ?_;unfold Builtin.«sorted»;apply Yaa (m:=checkCount "sorted" 1 1 _);apply Yab;apply Yaa;refine W.kdu_collect (Zdy (P:=X.prog) (es:=es) (ep:=ep) (t:=t)) hh hat (by lia) λh' tk acc hk' hacc=>?_;have hal:acc.toList.length=es.size:=by rw [Yan];exact hacc.1
 have hvs:acc.toList=zs1.map λz=>Value.ref z.1:=by
  rw [e1];refine List.ext_getElem? λi=>?_;by_cases hi:i<acc.size
  ·obtain ⟨e,e3,e4⟩:=hacc.2 i acc[i] (Ybd hi);rw [Yaz,e3,Yay,Ybd hi,e4]
   rfl
  ·have hw2:(JM X.w p es ep).length=es.size:=by rw [(JN (w:=X.w) p es ep).length_eq,Yan]
   rw [Yan] at hal;rw [Yay,Ygb (by lia),Yfp (by rw [Yac];lia)]
 have isL:∀v∈acc.toList,∃a,∃it:Array Value,∃ns,v=.ref a/\s.heap.IsTuple a it/\IntsAre it.toList ns:=λv hv=>by
  rw [hvs] at hv;obtain ⟨z,hzm,rfl⟩:=Yaj.mp hv;obtain ⟨it,h1,h2⟩:=key z hzm;exact ⟨z.1,it,z.2,rfl,h1,h2⟩
 apply Yaa;refine Yff ?_ (by rw [hal];lia);have hoL:(h'.push (seqObj "list" acc.toList.toArray 0)).get? h'.objs.size=some (seqObj "list" acc.toList.toArray 0):=Ybh _ rfl;apply Yaa;apply Yci;have k3:∀(T:Nat) c o,s.heap.get? c=some o->(J6 { s with heap:=h'.push (seqObj "list" acc.toList.toArray 0),toks:=T } h'.objs.size acc.toList).heap.get? c=some o:=λT c o e=>by
  unfold J6;refine Yal _ (Yal _ (JF ?_ (Yal _ (hk' c o e))));exact Yav (Yak (hk' c o e))
 have hu2:X.A.in1.in1.units<cLine:=by rw [Yer,Yer];lia
 let kd:SortKind:=if ∀z∈zs1,z.2≠[] then tuples' true else kdT s.heap acc.toList
 have fst_keep:∀T,∀v∈acc.toList,ZcU (J6 { s with heap:=h'.push (seqObj "list" acc.toList.toArray 0),toks:=T } h'.objs.size acc.toList).heap v=ZcU s.heap v:=λT v hv=>by
  obtain ⟨a,it,ns,rfl,t1,_⟩:=isL v hv;rw [Wp t1,Wp (keepL (k3 T) t1)]
 refine Ycv slot_list_sort ⟨_,hoL,rfl⟩ entry_list_sort (O5 (kd:=kd) (good:=λx=>∃a,∃it:Array Value,∃ns,x.1=.ref a/\s.heap.IsTuple a it/\IntsAre it.toList ns/\((∀z∈zs1,z.2≠[])->ns≠[])) (ZcQ s.heap) hoL (by lia) (λv hv=>?_) (λh2 E' R q=>?_) (ZdT λx y gx gy E' Q q=>?_) λout hpm hr=>⟨_,rfl,?_⟩) (args_list_sort _)
 ·rw [hvs] at hv;obtain ⟨z,hzm,rfl⟩:=Yaj.mp hv;obtain ⟨it,h1,h2⟩:=key z hzm;exact ⟨z.1,it,z.2,rfl,h1,h2,λh=>h z hzm⟩
 ·by_cases qG:∀z∈zs1,z.2≠[]
  ·have ek:kd=tuples' true:=if_pos qG;rw [ek] at q;obtain ⟨fs,t1,t2,t3⟩:=Zp (k3 _) acc.toList λv hv=>by
    rw [hvs] at hv;obtain ⟨z,hzm,rfl⟩:=Yaj.mp hv;obtain ⟨it,h1,h2⟩:=key z hzm;exact ⟨z.1,it,z.2,rfl,h1,h2,qG z hzm⟩
   exact W.kat_kind (T:=.type "int") t1 (by lia) (λv hv=>by obtain ⟨i,t,rfl⟩:=t3 v hv;exact .now) rfl q
  ·have ek:kd=kdT s.heap acc.toList:=if_neg qG;rw [ek] at q;have eq:∀T,kdT (J6 { s with heap:=h'.push (seqObj "list" acc.toList.toArray 0),toks:=T } h'.objs.size acc.toList).heap acc.toList=kdT s.heap acc.toList:=λT=>by
    unfold kdT;cases e0:acc.toList[0]? with
    | none=>rfl
    | some v=>rw [Option.bind_some,Option.bind_some];simp only [fst_keep T v (Yax e0)]
   refine Wq (λv hv=>?_) h2 ?_ (by rw [eq];exact q)
   ·obtain ⟨a,it,ns,e,t1,_⟩:=isL v hv;exact ⟨a,it,e,keepL (k3 _) t1⟩
   ·have:∃z∈zs1,z.2=[]:=by
     refine Classical.byContradiction λhn=>qG λz hz e=>hn ⟨z,hz,e⟩
    obtain ⟨z,hzm,ez⟩:=this;have hv:Value.ref z.1∈acc.toList:=by rw [hvs];exact Yaj.mpr ⟨z,hzm,rfl⟩
    refine ⟨_,hv,?_⟩;rw [fst_keep _ _ hv];obtain ⟨it,h1,h2⟩:=key z hzm;rw [Wp h1];rw [ez] at h2;have:=G9 h2;rw [Yan] at this;exact Ygb (by simpa using this)
 ·obtain ⟨a,it,ns,e1,h1,h2,_⟩:=gx;obtain ⟨c,jt,ms,e2,h3,h4,_⟩:=gy;simp only [e1,e2,Oo h1 h2,Oo h3 h4] at q ⊢;have g1:=keepL (k3 tk) h1;have g3:=keepL (k3 tk) h3;by_cases qG:∀z∈zs1,z.2≠[]
  ·have ek:kd=tuples' true:=if_pos qG;rw [ek];obtain ⟨o1,g1,_,n1,d1⟩:=g1;obtain ⟨o2,g2,_,n2,d2⟩:=g3;refine W.kat_lt (xs:=it) (ys:=jt) g1 d1 g2 d2 (Wj 0 h2 h4 ?_ q);rw [<-G9 h2,<-G9 h4];simp
  ·have ek:kd=kdT s.heap acc.toList:=if_neg qG;rw [ek];unfold kdT;split
   ·exact W8 (o:=false) g1 g3 h2 h4 hu2 q
   ·rw [keyLt'_oneType];exact W8 (o:=true) g1 g3 h2 h4 hu2 q
 ·obtain ⟨o1,o2,o3⟩:=UL hpm;refine Yab ⟨_,rfl,?_⟩;obtain ⟨e,he⟩:=sortedHeap_at (out:=out.map (·.2)) hoL;have hkeep:∀b o,s.heap.get? b=some o->(sortedHeap (h'.push (seqObj "list" acc.toList.toArray 0)) h'.objs.size acc.toList (out.map (·.2))).get? b=some o:=λb o e=>by
   have e':=hk' b o e;have hb:=Yak e';rw [sortedHeap_old (Yav hb) (by rw [Yck];exact Yel hb)];exact Yal _ e'
  rw [hvs] at o1;obtain ⟨zs',p2,e2⟩:=J7 o1;have ps:(zs'.map (·.2)).Pairwise (λa b=>GJ b a=false):=by
   have a1:=JB hr o3;have a2:(out.toList.map (·.2)).Pairwise (λu v=>GJ (Zcb s.heap v) (Zcb s.heap u)=false):=by
    rw [Ybq];refine a1.imp_of_mem λ{x y} hx hy hxy=>?_;rw [<-(o2 x hx).1,<-(o2 y hy).1];exact hxy
   rw [Yfg] at e2;rw [<-e2,Ybq] at a2;rw [Ybq];refine a2.imp_of_mem λ{x y} hx hy hxy=>?_;obtain ⟨it,h1,h2⟩:=key x (p2.mem_iff.mp hx);obtain ⟨jt,h3,h4⟩:=key y (p2.mem_iff.mp hy);rw [Oo h1 h2,Oo h3 h4] at hxy;exact hxy
  have hpm':zs'.Perm zs:=p2.trans p1;have hl':(zs'.map λz=>V.ref z.1).length<=sizeLine:=by rw [Yac,hpm'.length_eq];lia
  have hn:H h'.objs.size=none:=by
   cases zz:H h'.objs.size with
   | none=>rfl
   | some o=>
    obtain ⟨x,ex⟩:∃x,s.heap.get? h'.objs.size=some x:=(I.hok _ _ zz).there;exact absurd (Yak (hk' _ _ ex)) (Yct _)
  have sm:Same H (upd H h'.objs.size (.lst (zs'.map λz=>V.ref z.1))):=Same.new hn;refine ⟨.ref h'.objs.size,upd H h'.objs.size (.lst (zs'.map λz=>V.ref z.1)),I.un (t':=tk) ⟨λb o e _ _ _=>hkeep b o e,λb o e _ _ _=>⟨o.slots,hkeep b o e⟩,λb o e n _=>?_,λb o e _=>⟨o,hkeep b o e⟩,λb ys e=>sm _ _ e,λb o u e=>sm _ _ e,λb ps e=>⟨#[],by rw [sm _ _ e];simp⟩⟩ (λb o e'=>?_),rfl,q _ zs' hn hpm' ps⟩
  ·rw [Gm (Yav (Yak (hk' b o e)))];exact n
  ·by_cases hb:b=h'.objs.size
   ·subst hb;rw [Ga] at e';cases e';exact ⟨hl',(out.map (·.2)).toList,e,by rw [<-e2];exact O7 zs',he⟩
   ·rw [Gm hb] at e';exact (I.hok b o e').stay (λc v _ x=>hkeep c v x) (λd x=>sm _ _ x) λd ys x=>sm _ _ x
end
end L2
namespace L2
open PySem PySem.Spec PyProof.Rows
theorem Zcg {a b c:List Int}(h1:GJ b a=false)(h2:GJ c b=false):GJ c a=false:=by
 cases h:GJ c a with
 | false=>rfl
 | true=>
  cases h3:GJ a b with
  | true=>rw [On h h3] at h2;cases h2
  | false=>
   rw [J9 h3 h1] at h;rw [h] at h2;cases h2
theorem Yv (f:Nat->List Int):∀k,argBest (λi j=>GJ (f i) (f j)) k<=k/\∀j,j<=k->GJ (f j) (f (argBest (λi j=>GJ (f i) (f j)) k))=false
 | 0=>⟨Yad _,λj hj=>by
  have:j=0:=by lia
  subst this;exact Ja _⟩
 | k+1=>by
  obtain ⟨i1,i2⟩:=Yv f k;have e:argBest (λi j=>GJ (f i) (f j)) (k+1)=if GJ (f (k+1)) (f (argBest (λi j=>GJ (f i) (f j)) k))=true then k+1 else argBest (λi j=>GJ (f i) (f j)) k:=rfl
  rw [e];generalize argBest (λi j=>GJ (f i) (f j)) k=g at i1 i2;by_cases z:GJ (f (k+1)) (f g)=true
  ·rw [if_pos z];refine ⟨Yad _,λj hj=>?_⟩;by_cases hk:j=k+1
   ·subst hk;exact Ja _
   ·refine Zcg ?_ (i2 j (by lia));cases h:GJ (f g) (f (k+1)) with
    | false=>rfl
    | true=>have:=On h z;rw [Ja] at this;cases this
  ·rw [if_neg z];refine ⟨by lia,λj hj=>?_⟩;by_cases hk:j=k+1
   ·rw [hk];exact Yev.mpr z
   ·exact i2 j (by lia)
section
variable {X:Cx}
noncomputable def ZcW (xs:List V)(rs:List (List Int))(t:Addr)(r:List Int):Prop:=(∃i:Nat,xs[i]?=some (.ref t)/\rs[i]?=some r)/\∀r'∈rs,GJ r' r=false
noncomputable def ZgY (K:W.Frag):List V->Hp->VK->Prop:=λvs H Q=>∃(p:Addr)(xs:List V)(rs:List (List Int)),vs=[.ref p]/\SqL K H p xs/\Tus H xs rs/\rs≠[]/\∀t r,ZcW xs rs t r->Q (.ref t) H
theorem Za3 {qJ:List (Addr×Obj)}{s:Shared}{σ:St}{H:Hp}{Q:VK}{p:Addr}{xs:List V}{rs:List (List Int)}{its:List Value}{kw:List (Str×Value)}(hc:X.calm=true)(hu:X.A.units+1<cLine)(I:Inv X qJ σ H s)(r:Vals xs its)(pl:PlainL s.heap p its.toArray)(pr:Tus H xs rs)(hne:rs≠[])(q:∀t r,ZcW xs rs t r->Q (.ref t) H){R:Result->Shared->Prop}(hR:∀v s',EP X qJ σ Q v s'->R (.ok (.ret v)) s'):∀c:Nat,
  codeAny (model X.prog X.w) X.A (.builtin "min.loop" ⟨[.ref s.heap.objs.size,.none,.ref (s.heap.objs.size+1)],kw⟩) R { s with heap:=(s.heap.push { cls:=.type "list_iterator", data:=.fields #[.ref p,.int 0 0] }).push { cls:=.type "list", dict:=none,data:=.seq #[] c,slots:=#[] } }:=by
 intro c;have hl:=r.length;have hx:=pr.len;have hpos:0<rs.length:=List.length_pos_iff.mpr hne;have hh:X.A.in1.handled=none:=I.ok.hd hc;obtain ⟨o,eo,_⟩:=id pl.isList;have hlt:p<s.heap.objs.size:=Yak eo;have e1:(s.heap.push { cls:=.type "list_iterator", data:=.fields #[.ref p,.int 0 0] }).objs.size=s.heap.objs.size+1:=Yck ..;have at_:∀i v,its[i]?=some v->∃t,∃it:Array Value,v=.ref t/\xs[i]?=some (.ref t)/\rs[i]?=some (rs.getD i [])/\s.heap.IsTuple t it/\IntsAre it.toList (rs.getD i []):=λi v hv=>by
  have hi:i<its.length:=(Yao.mp hv).1;have hxi:xs[i]?=some xs[i]:=Yau (by lia);obtain ⟨t,q',et,eh,er⟩:=pr.get hxi;obtain ⟨u,gu,ru⟩:=r.get hxi;rw [gu] at hv;cases hv;rw [et] at ru;cases ru;have eg:rs.getD i []=q':=by rw [Ydj,er];rfl
  obtain ⟨its2,r2,pl2,_⟩:=I.tuple (SqT.of eh);exact ⟨t,its2.toArray,rfl,by rw [hxi,et],by rw [eg];exact er,pl2,by rw [eg];exact J0 r2⟩
 have kept0:∀b o,s.heap.get? b=some o->((s.heap.push { cls:=.type "list_iterator", data:=.fields #[.ref p,.int 0 0] }).push { cls:=.type "list", dict:=none,data:=.seq #[] c,slots:=#[] }).get? b=some o:=λb o e=>Yal _ (Yal _ e);have W:=Walks.list (prog:=X.prog) (w:=X.w) hh s.heap.objs.size p (Yav hlt) its.toArray;have hsz:its.toArray.size=rs.length:=by rw [Yaw];lia
 refine Y8 (J:=λh=>∀t,∀it:Array Value,s.heap.IsTuple t it->h.IsTuple t it) W (λi j=>GJ (rs.getD i []) (rs.getD j [])) ?cmp (s.heap.objs.size+1) ?hD ?kJ (by rw [hsz];exact hpos) ?st ?j (by rw [<-e1];exact Ybh _ rfl) ?fin
 case cmp=>
  intro s' i j vi vj Q' E' hJ hi hj hq;obtain ⟨a,u1,rfl,_,_,ha,ia⟩:=at_ i vi (by simpa using hi);obtain ⟨b,w1,rfl,_,_,hb,ib⟩:=at_ j vj (by simpa using hj);exact ZcT (hJ a u1 ha) (hJ b w1 hb) ia ib (by rw [Yer];exact hu) hq
 case hD=>
  intro z;have:s.heap.objs.size+1=s.heap.objs.size\/s.heap.objs.size+1=p:=by simpa using z
  rcases this with e | e
  ·exact absurd e (Nat.succ_ne_self _)
  ·exact absurd hlt (by rw [<-e];exact Nat.not_lt.mpr (Ydf _))
 case kJ=>
  intro h h' hJ kp t it hT;obtain ⟨o',g',rest⟩:=hJ t it hT;obtain ⟨o0,g0,_⟩:=hT;have ht:t<s.heap.objs.size:=Yak g0;refine ⟨o',kp t o' (λz=>?_) (Yav (Yel ht)) g',rest⟩;have:t=s.heap.objs.size:=by simpa using z
  exact absurd ht (by rw [this];exact Yct _)
 case st=>
  refine ⟨⟨_,Yal _ (Ybh _ rfl),rfl,rfl⟩,pl.isList.at λo e=>kept0 _ _ e⟩
 case j=>
  intro t it hT;obtain ⟨o0,g0,rest⟩:=hT;exact ⟨o0,kept0 _ _ g0,rest⟩
 case fin=>
  intro v h' tk hv hk;obtain ⟨b1,b2⟩:=Yv (λi=>rs.getD i []) (its.toArray.size-1);generalize argBest (λi j=>GJ (rs.getD i []) (rs.getD j [])) (its.toArray.size-1)=g at hv b1 b2;obtain ⟨t,u1,rfl,ex,er,_⟩:=at_ g v (by simpa using hv);refine hR _ _ ⟨.ref t,H,I.kept λb o e'=>hk b o ?_ ?_ (kept0 b o e'),rfl,q t _ ⟨⟨g,ex,er⟩,λr' hr'=>?_⟩⟩
  ·intro z;have:b=s.heap.objs.size:=by simpa using z
   exact absurd (Yak e') (by rw [this];exact Yct _)
  ·exact Yav (Yel (Yak e'))
  ·obtain ⟨j,hj,rfl⟩:=Ycw hr';have:=b2 j (by lia);rw [Ydj,Yau hj] at this;exact this
theorem Ze1 (K:W.Frag)(hc:X.calm=true)(hu:X.A.units+1<cLine)(h:X.K=K:=by rfl):Od X (.builtin "min") (ZgY K):=by
 subst h;intro qJ s σ H xs us Q I rv h;obtain ⟨p,xs,rs,rfl,hq,pr,hne,q⟩:=h;obtain ⟨u,rfl,ru⟩:=rv.one;cases ru;obtain ⟨its,r,pl,hz⟩:=I.list hq;have nm:(toString "min" ++ toString ".loop" : String) = "min.loop" := by decide
 refine call_function_tree F.kind_min F.plain_min F.entry_min (F.args_min1 _) ?_;refine Yaa (wpAny_of_eq (show Builtin.Builtins.bindParams "min" ["key", "default"] 0 ⟨[],[]⟩=pure [none,none] from rfl) (Yaa (Yab (Yaa (wpAny_pyIter_list pl.isList (Yaa (Ydy ?_)))))));rw [nm];have e1:(s.heap.push { cls:=.type "list_iterator", data:=.fields #[.ref p,.int 0 0] }).objs.size=s.heap.objs.size+1:=Yck ..;refine Yab ⟨Yeb Yfc _,?_⟩;show codeAny _ _ (.builtin "min.loop" ⟨[.ref s.heap.objs.size,.none,.ref (s.heap.push { cls:=.type "list_iterator", data:=.fields #[.ref p,.int 0 0] }).objs.size],[]⟩) _ _;rw [e1];exact Za3 hc hu I r pl pr hne q (λv s' h=>h) 0
end
section
variable {prog:Program}{w:World}{A:Around}{E:EX}{s:Shared}
theorem Wr {t sl:Addr}{items:Array Value}{vl vu:Value}{lo hi:Option Int}{Q:EX}(ht:IsTup s.heap t items)(hs:s.heap.IsSliceOf sl vl vu .none)(pl:IsPart vl lo)(pu:IsPart vu hi)(h0:HT.sIx items.size 0 lo=0)(h1:HT.sIx items.size items.size hi=items.size)(h:Q (.ref t) s):wpAny (model prog w) A (getItem (.ref t) (.ref sl)) Q E s:=by
 have Ts:s.TypeIs (.ref sl) "slice" := by
  obtain ⟨os,hos,hcs,_⟩:=id hs;exact ⟨os,hos,hcs⟩
 unfold getItem
 try with_reducible refine Yci ?_
 first | refine Yaa (Yab ?_) | skip
 refine Yaa (wpAny_sequenceKey ht.typeIs (by decide) (Yaa (Yfk (name:=Str.ofString "__getitem__") ht.typeIs Ygg (Ycv Ygg ht.typeIs entry_tuple_getitem ?_ (args_tuple_getitem _ _)))));show wpAny _ _ (Builtin.Tuple.tupleItemsOf (.ref t) >>= _) _ _ s;refine Yaa (tupleItemsOf_ ht (Yaa (Ydx Ts ?_)));rw [if_pos (by decide)];refine Yaa (HT.sliceApplied_gen hs pl pu ?_);show wpAny _ _ (if (((HT.sIx items.size 0 lo:Nat):Int) == 0 && (1:Int) == 1 && (HT.sIx items.size items.size hi-HT.sIx items.size 0 lo) == items.size)=true then _ else _) _ _ s;rw [h0,h1,if_pos (by simp)]
 first
  | exact Yaa (m:=Builtin.Tuple.tupleIsExact _) (Yaa (Ydx ht.typeIs (Yab (Yaa (Yds (Yab ⟨_,rfl,Yab h⟩))))))
end
section
variable {X:Cx}(K:W.Frag)
noncomputable def Zhs:V->Option Int->Option Int->Hp->VK->Prop:=λx lo hi H Q=>∃a xs,x=.ref a/\SqT K H a xs/\(Uf xs lo hi=xs->Q (.ref a) H)/\∀p,H p=none->Q (.ref p) (upd H p (.tup (Uf xs lo hi)))
theorem Zgf (h:X.K=K:=by rfl):SlR X (Zhs K):=by
 subst h;intro qJ s σ H x v vl vu lo hi sl Q I rx hs pl pu h;obtain ⟨a,xs,rfl,hx,qw,q⟩:=h;by_cases hw:HT.sIx xs.length 0 lo=0/\HT.sIx xs.length xs.length hi=xs.length
 ·cases rx;obtain ⟨its,r,ht,hz⟩:=I.tuple hx;have qW:its.toArray.size=xs.length:=by rw [Yaw];exact r.length.symm
  refine ⟨"tuple", _,PyProof.Rows.slot_tuple_getitem.lookup,ht.typeIs,Wr ht hs pl pu (by rw [qW];exact hw.1) (by rw [qW];exact hw.2) ⟨.ref a,H,I,rfl,qw ?_⟩⟩;unfold Uf;rw [hw.1,hw.2];simp
 ·exact ZcB qJ s σ H _ v vl vu lo hi sl Q I rx hs pl pu ⟨a,xs,rfl,hx,hw,q⟩
end
end L2
namespace M
open PySem L2
noncomputable def top (i:Nat):Stmt:=PySem.Challenge.pw_onceways_k29_whole_there_and_back.main.body.getD i (.Pass ⟨0,0,0,0⟩)
noncomputable abbrev Ze2:Stmt:=top 6
noncomputable abbrev Zed:Stmt:=top 7
noncomputable abbrev Ze3:Stmt:=top 8
noncomputable abbrev Ze4:Stmt:=top 9
noncomputable abbrev Ze5:Stmt:=top 10
noncomputable abbrev Zgg:Stmt:=top 12
noncomputable abbrev Ze6:Stmt:=top 13
noncomputable abbrev sSz:Stmt:=top 14
noncomputable abbrev Zgh:Stmt:=top 17
noncomputable abbrev Zgi:Stmt:=top 18
noncomputable abbrev Zgj:Stmt:=top 19
noncomputable abbrev Zgk:Stmt:=top 20
noncomputable abbrev Ze7:Stmt:=top 22
noncomputable abbrev Zgl:Stmt:=top 23
noncomputable abbrev Zee:Stmt:=top 24
noncomputable abbrev Ze8:Stmt:=top 25
noncomputable abbrev Zgm:Stmt:=top 26
noncomputable abbrev Ze9:Stmt:=top 27
noncomputable abbrev Zfa:Stmt:=top 28
noncomputable abbrev Zgn:Stmt:=top 29
noncomputable abbrev Zgo:Stmt:=top 30
noncomputable abbrev Zgp:Stmt:=top 31
noncomputable abbrev Zgq:Stmt:=top 32
noncomputable abbrev Zgr:Stmt:=top 33
noncomputable abbrev Zgs:Stmt:=top 34
noncomputable abbrev Zch:Stmt:=top 35
noncomputable abbrev Zci:Stmt:=ZV (top 5) 0
noncomputable abbrev ZdU:Stmt:=ZV (top 5) 1
section
variable {P:Program}{w:World}{K:W.Frag}{mg:Str->Option Value}{base:Heap}
theorem UA:2<=sizeLine:=by decide
theorem ZdV {xs:List V}{i:Int}{v:V}(h0:0<=i)(h:xs[i.toNat]?=some v):atI xs i=some v:=by
 obtain ⟨k,rfl⟩:=Int.eq_ofNat_of_zero_le h0;exact GB h
theorem Ur {H:Hp}{xs:List V}{ts:List Tri}(T:Trs H xs ts){c:Int}{r:Tri}(n:Nd ts c r):∃t,atI xs (c-2)=some (.ref t)/\H t=some (.tup [.int r.1,.int r.2.1,.int r.2.2]):=by
 obtain ⟨t,h1,h2⟩:=T.at n.2;exact ⟨t,ZdV (by have:=n.1;lia) h1,h2⟩
structure TabAt (H:Hp)(tb l:Addr)(root:Int)(xs:List V)(ts:List Tri):Prop where
 w:H tb=some (.tup [.int root,.ref l])
 l:H l=some (.lst xs)
 t:Trs H xs ts
theorem TabAt.same {H H':Hp}{tb l:Addr}{root:Int}{xs:List V}{ts:List Tri}(h:TabAt H tb l root xs ts)(s:Same H H'):TabAt H' tb l root xs ts:=⟨s _ _ h.w,s _ _ h.l,h.t.same s⟩
theorem JG {ns:List Int}{i:Nat}{x:V}(h:(ns.map V.int)[i]?=some x):∃z,x=.int z/\ns[i]?=some z:=by
 rw [Yaz] at h;cases hz:ns[i]? with
 | none=>rw [hz] at h;cases h
 | some z=>rw [hz] at h;cases h;exact ⟨z,rfl,rfl⟩
end
section
theorem ZgZ:¬ (("most" : Str) = "nodes"):=by decide +kernel
theorem Zg0:¬ (("most" : Str) = "places"):=by decide +kernel
theorem Zg1:¬ (("nodes" : Str) = "places"):=by decide +kernel
noncomputable def Zbs (m:V)(nl pd:Addr):List (Str×V):=Uu "places" (.ref pd) (Uu "nodes" (.ref nl) (Uu "most" m []))
theorem Xa (m:V)(nl pd:Addr):(Zbs m nl pd).lookup ("most" : Str)=some m:=by
 unfold Zbs;rw [GE,if_neg Zg0,GE,if_neg ZgZ,GE,if_pos rfl]
theorem Oy (m:V)(nl pd:Addr):(Zbs m nl pd).lookup ("nodes" : Str)=some (.ref nl):=by
 unfold Zbs;rw [GE,if_neg Zg1,GE,if_pos rfl]
theorem JP (m:V)(nl pd:Addr):(Zbs m nl pd).lookup ("places" : Str)=some (.ref pd):=by
 unfold Zbs;rw [GE,if_pos rfl]
theorem ZdW (m:V)(nl pd:Addr){x:Str}(h1:¬ x = "places")(h2:¬ x = "nodes")(h3:¬ x = "most"):(Zbs m nl pd).lookup x=none:=by
 unfold Zbs;rw [GE,if_neg h1,GE,if_neg h2,GE,if_neg h3]
 rfl
end
structure PlOk (kvs:List (List Key×V))(ts:List Tri):Prop where
 s:SeenOk kvs ts
 n:∀r:Tri,JL kvs (OG r)=none->r ∉ ts
 l:kvs.length<=ts.length
theorem PlOk.nil:PlOk [] []:=⟨λr v e=>(by cases e),λr _ h=>(by cases h),Yad _⟩
theorem PlOk.add {kvs:List (List Key×V)}{ts:List Tri}(S:PlOk kvs ts)(r:Tri):PlOk (JV kvs (OG r) (.int ((ts.length:Int)+2))) (ts++[r]):=by
 refine ⟨S.s.add rfl,λq e hq=>?_,Ybo (GL _ _ _) (by rw [Yai,Yat];have:=S.l;lia)⟩;rw [G3] at e;by_cases h:OG q=OG r
 ·rw [if_pos h] at e;cases e
 ·rw [if_neg h] at e;rcases Yag.mp hq with z | z
  ·exact S.n q e z
  ·exact h (by rw [Yah.mp z])
structure ShelfAt (C:Addr)(H:Hp)(p nl pd:Addr)(m:V)(xs:List V)(ts:List Tri)(kvs:List (List Key×V)):Prop where
 ob:∃dx,H p=some (.ins C dx (Zbs m nl pd))
 nd:H nl=some (.lst xs)
 tr:Trs H xs ts
 pl:H pd=some (.dT kvs)
 ok:PlOk kvs ts
structure Shf (C:Addr)(H0 H:Hp)(p nl pd:Addr)(m:V)(ts:List Tri):Prop where
 kp:∀b o,b≠nl->b≠pd->H0 b=some o->H b=some o
 at_:∃xs kvs,ShelfAt C H p nl pd m xs ts kvs
section
variable {C p nl pd:Addr}{H0 H H':Hp}{m:V}{xs:List V}{ts:List Tri}{kvs:List (List Key×V)}
theorem ShelfAt.same (S:ShelfAt C H p nl pd m xs ts kvs)(s:Same H H'):ShelfAt C H' p nl pd m xs ts kvs:=
 ⟨S.ob.elim λdx e=>⟨dx,s _ _ e⟩,s _ _ S.nd,S.tr.same s,s _ _ S.pl,S.ok⟩
end
structure Zfb (K:W.Frag)(mg:Str->Option Value)(C TM:Addr):Prop where
 cl:Cls K C
 nM:NoAttr K C "most"
 nN:NoAttr K C "nodes"
 nP:NoAttr K C "places"
 mgC:mg "Shelf" = some (.ref C)
section
variable {P:Program}{w:World}{K:W.Frag}{mg:Str->Option Value}{base:Heap}
noncomputable def Zfc (C:Addr):Sp:=λvs H Q _=>∃(p dx:Addr)(m:V),vs=[.ref p,m]/\H p=some (.ins C dx [])/\∀(nl pd:Addr)(H':Hp),H nl=none->H pd=none->nl≠pd->ShelfAt C H' p nl pd m [] [] []->(∀b o,H b=some o->b≠p->H' b=some o)->Q .non H'
theorem Zg2:Gp ["self", "most"] ["self", "most"] (Gf Zci):=⟨rfl,rfl,rfl,by decide +kernel,rfl,by decide +kernel,by decide +kernel⟩
theorem Zfd {f C TM:Addr}{fd:FuncData}{dV:Value}(F:FunD K "__init__" "Shelf.__init__" Zci dV f fd)(T:Zfb K mg C TM):G4 P w K mg base CX0 1 f fd ["self", "most"] (Zfc C):=by
 refine F.ok Zg2 (λvs H Q E h=>?_) (λcdv A outer s H vs Q E hr h=>?_)
 ·obtain ⟨p,dx,m,rfl,_⟩:=h
  rfl
 ·obtain ⟨p,dx,m,rfl,hp,q⟩:=h;refine ⟨_,Gc (ZK (pv 0) (pv 1) rfl)
    (Gc (ZK (pv 0) (GH Gd) rfl)
    (Gg (ZK (pv 0) X7 rfl))),?_⟩
  refine ⟨_,rfl,_,rfl,p,C,dx,[],rfl,hp,T.cl,T.nM,(by show 0<1000;decide),?_⟩;have e1:upd H p (.ins C dx (Uu "most" m [])) p=some (.ins C dx (Uu "most" m [])):=Ga;have k1:∀b o,H b=some o->b≠p->upd H p (.ins C dx (Uu "most" m [])) b=some o:=λb o e n=>Gj e n;have f1:∀b,upd H p (.ins C dx (Uu "most" m [])) b=none->H b=none:=λb e=>by
   by_cases z:b=p
   ·rw [z,e1] at e;cases e
   ·rw [Gm z] at e;exact e
  generalize upd H p (.ins C dx (Uu "most" m []))=H1 at e1 k1 f1 ⊢;refine ⟨Yar _,λnl hnl=>?_⟩;have npn:p≠nl:=Gh e1 hnl;refine ⟨_,rfl,p,C,dx,_,rfl,Gj e1 npn,T.cl,T.nN,(by show 1<1000;decide),?_⟩;intro pd hpd;have npp:p≠pd:=λz=>by rw [z,Ga] at hpd;cases hpd
  have nnp:nl≠pd:=λz=>by rw [z,Gm (Ne.symm npp),Ga] at hpd;cases hpd
  have hpd1:H1 pd=none:=by rw [Gm (Ne.symm npp),Gm (Ne.symm nnp)] at hpd;exact hpd
  refine ⟨_,rfl,p,C,dx,_,rfl,Gj Ga npp,T.cl,T.nP,(by simp [Uu];split <;> simp [Uu]),?_⟩;refine q nl pd _ (f1 _ hnl) (f1 _ hpd1) nnp ⟨⟨dx,Ga⟩,?_,.nil,?_,PlOk.nil⟩ λb o e n=>?_
  ·rw [Gm (Ne.symm npn),Gm nnp,Gm (Ne.symm npn),Ga]
  ·rw [Gm (Ne.symm npp),Ga]
  ·have e':=k1 b o e n;rw [Gm n,Gm (Gh e' hpd1),Gm n,Gm (Gh e' hnl)];exact e'
noncomputable def Zfe (C TM:Addr):Sp:=λvs H Q E=>∃(p nl pd:Addr)(M:Int)(xs:List V)(ts:List Tri)(kvs:List (List Key×V))(r lo hi:Int),vs=[.ref p,.int r,.int lo,.int hi]/\ShelfAt C H p nl pd (.int M) xs ts kvs/\ts.length<=10000 /\
 (hi=0->Q (.int lo) H)/\(hi≠0->(∀c H',Nd ts c (r,lo,hi)->Same H H'->Q (.int c) H')/\((r,lo,hi) ∉ ts->((ts.length:Int)<M->∀H',Shf C H H' p nl pd (.int M) (ts++[(r,lo,hi)])->Q (.int ((ts.length:Int)+2)) H')/\(¬ (ts.length:Int)<M->∀H',Same H H'->E (.ref TM) none H')))
theorem scPut:Gp ["self", "road", "low", "high", "node"] ["self", "road", "low", "high"] (Gf ZdU):=⟨rfl,rfl,rfl,by decide +kernel,rfl,by decide +kernel,by decide +kernel⟩
theorem Zff {f C TM:Addr}{fd:FuncData}(F:Fun K "put" "Shelf.put" ZdU f fd)(T:Zfb K mg C TM)(mTM:mg "TooMany" = some (.ref TM))(xTM:ExcC K TM)(mLen:mg "len" = none):G4 P w K mg base (CXr P w) 1 f fd ["self", "road", "low", "high"] (Zfe C TM):=by
 refine F.okR scPut (λvs H Q E h=>?_) (λcdv A outer s H vs Q E hr h=>?_)
 ·obtain ⟨_,_,_,_,_,_,_,_,_,_,rfl,_⟩:=h
  rfl
 ·obtain ⟨p,nl,pd,M,xs,ts,kvs,r,lo,hi,rfl,S,hts,q0,q1⟩:=h;have hu1:(A.deeper (PyProof.Rows.envOfC "Shelf.put" (Gf ZdU) s.heap.objs.size f cdv)).units+1<cLine:=by have:=hr.un;lia
  have h16:=Ybf.symm;refine ⟨_,Gc (Jf (Gv Xn (pv 3) Ge (Gz _)) (Gg (Gr (pv 2))) Gu)
    (Gc (Gn (i:=4) scPut.nd rfl (Or.inl rfl) (Jz (Gb (pv 1) (Gb (pv 2) (Gb (pv 3) Gd)))))
    (Gc (Jf (Wy (OR hu1 (pv 4) (OO (pv 0) rfl)) rfl) (Gc (Jf (PW.pt (Zcy (Gv Zda (OO (pv 0) rfl) Zek (Gz _)) (Zz (Gv ZgC (Gk (Xj K) rfl mLen Ycg (Gb (OO (pv 0) rfl) Gd)) (OO (pv 0) rfl) (Gz _))))) (Gg (XZ (E:=E) rfl Uv rfl mTM xTM (Gb Zcx Gd))) Gu)
    (Gc (Og hu1 (OO (pv 0) rfl) (pv 4) (Gs Jy (Gk (Xj K) rfl mLen Ycg (Gb (OO (pv 0) rfl) Gd)) Ge) rfl)
    (Gg (Jt (Ug Ycr Ydk Ydl GY (OO (pv 0) rfl) (Gb (pv 4) Gd)))))) Gu)
    (Gg (Gr (Jq hu1 (OO (pv 0) rfl) (pv 4) (λ_ _=>rfl)))))),?_⟩
  refine ⟨_,rfl,rfl,_,rfl,Vf (λc1=>?_) (λc1=>?_)⟩
  ·have c1':hi=0:=V.int.inj (Ybw c1);exact ⟨_,rfl,q0 c1'⟩
  have c1':hi≠0:=λz=>c1 (Ybi (Ybc V.int z));obtain ⟨qo,qn⟩:=q1 c1';dsimp only [UC];refine ⟨_,rfl,_,rfl,_,rfl,(by show 3<=sizeLine;decide),λt ht=>?_⟩;have s1:Same H (upd H t (.tup [.int r,.int lo,.int hi])):=Same.new ht;have et:upd H t (.tup [.int r,.int lo,.int hi]) t=some (.tup ((OG (r,lo,hi)).map kV)):=Ga;have S1:=S.same s1;generalize upd H t (.tup [.int r,.int lo,.int hi])=H1 at s1 et S1 ⊢;obtain ⟨dx,ob⟩:=S1.ob;have hxl:=S1.tr.len;have hkl:=S1.ok.l;dsimp only [GX];cases hv:JL kvs (OG (r,lo,hi)) with
  | some v=>
   obtain ⟨c,rfl,hc⟩:=S1.ok.s _ _ hv;have dg:DGet H1 pd (.ref t) (some (.int c)):=hv▸DGet.t S1.pl et;refine ⟨_,rfl,_,rfl,p,C,dx,_,_,rfl,ob,T.cl,T.nP,JP _ _ _,pd,_,rfl,dg,_,rfl,Os ?_⟩;dsimp only [UC];exact ⟨_,rfl,p,C,dx,_,_,rfl,ob,T.cl,T.nP,JP _ _ _,_,rfl,pd,_,rfl,dg,qo c H1 hc s1⟩
  | none=>
   have dg:DGet H1 pd (.ref t) none:=hv▸DGet.t S1.pl et;obtain ⟨qM,qE⟩:=qn (S1.ok.n _ hv);refine ⟨_,rfl,_,rfl,p,C,dx,_,_,rfl,ob,T.cl,T.nP,JP _ _ _,pd,_,rfl,dg,_,rfl,OQ ?_⟩;refine ⟨_,rfl,p,C,dx,_,_,rfl,ob,T.cl,T.nM,Xa _ _ _,rfl,_,rfl,OQ ?_⟩;refine ⟨_,rfl,p,C,dx,_,_,rfl,ob,T.cl,T.nN,Oy _ _ _,nl,_,rfl,.inl (SqL.of S1.nd),_,rfl,p,C,dx,_,_,rfl,ob,T.cl,T.nM,Xa _ _ _,_,_,rfl,rfl,_,rfl,Vf (λc2=>?_) (λc2=>?_)⟩
   ·have c2':((xs.length:Int))>=M:=Ybw c2;exact ⟨by show 1<=sizeLine;rw [Ybf];lia,qE (by lia) H1 s1⟩
   ·have c2':¬ ((xs.length:Int))>=M:=λz=>c2 (Ybi z);dsimp only [UC];refine ⟨_,rfl,p,C,dx,_,_,rfl,ob,T.cl,T.nN,Oy _ _ _,nl,_,rfl,.inl (SqL.of S1.nd),_,_,rfl,rfl,_,rfl,p,C,dx,_,_,rfl,ob,T.cl,T.nP,JP _ _ _,_,rfl,pd,_,rfl,DPut.t S1.pl et (by lia),?_⟩;have npp:p≠pd:=Jd ob S1.pl (λz=>by cases z);have nnp:nl≠pd:=Jd S1.nd S1.pl (λz=>by cases z);have npn:p≠nl:=Jd ob S1.nd (λz=>by cases z);have ntp:t≠pd:=Jd et S1.pl (λz=>by cases z);have ntn:t≠nl:=Jd et S1.nd (λz=>by cases z);rw [show (xs.length:Int)=(ts.length:Int) by lia];refine ⟨_,rfl,p,C,dx,_,_,rfl,Gj ob npp,T.cl,T.nN,Oy _ _ _,.inl ⟨rfl,_,SqL.of (Gj S1.nd nnp)⟩,_,rfl,nl,_,_,rfl,rfl,Gj S1.nd nnp,by lia,?_⟩;have pOk:=S1.ok.add (r,lo,hi);have ev:JL (JV kvs (OG (r,lo,hi)) (.int ((ts.length:Int)+2))) (OG (r,lo,hi))=some (.int ((ts.length:Int)+2)):=by rw [G3,if_pos rfl]
    have e1:upd (upd H1 pd (.dT (JV kvs (OG (r,lo,hi)) (.int ((ts.length:Int)+2))))) nl (.lst (xs++[.ref t])) pd=some (.dT (JV kvs (OG (r,lo,hi)) (.int ((ts.length:Int)+2)))):=Gj Ga (Ne.symm nnp);have e2:upd (upd H1 pd (.dT (JV kvs (OG (r,lo,hi)) (.int ((ts.length:Int)+2))))) nl (.lst (xs++[.ref t])) t=some (.tup ((OG (r,lo,hi)).map kV)):=Gj (Gj et ntp) ntn;have e3:upd (upd H1 pd (.dT (JV kvs (OG (r,lo,hi)) (.int ((ts.length:Int)+2))))) nl (.lst (xs++[.ref t])) p=some (.ins C dx (Zbs (.int M) nl pd)):=Gj (Gj ob npp) npn;have t1:∀b ys,H1 b=some (.tup ys)->upd (upd H1 pd (.dT (JV kvs (OG (r,lo,hi)) (.int ((ts.length:Int)+2))))) nl (.lst (xs++[.ref t])) b=some (.tup ys):=λb ys e=>Gj (Gj e (Jd e S1.pl (λz=>by cases z))) (Jd e S1.nd (λz=>by cases z));refine ⟨_,rfl,p,C,dx,_,_,rfl,e3,T.cl,T.nP,JP _ _ _,_,rfl,pd,_,rfl,ev▸DGet.t e1 e2,?_⟩;exact qM (by lia) _ ⟨λb o n1 n2 e=>Gj (Gj (s1 _ _ e) n2) n1,_,_,⟨dx,e3⟩,Ga,(S1.tr.keep t1).snoc e2,e1,pOk⟩
end
inductive Pt (κ:Type) where
 | leaf (n:Int)
 | node (r:Int) (lo hi:κ)
inductive Rc {κ:Type}(pf:κ->Pt κ)(s:κ):κ->Prop
 | start:Rc pf s s
 | lo {k:κ} {r:Int} {a b:κ}:Rc pf s k->pf k=.node r a b->Rc pf s a
 | hi {k:κ} {r:Int} {a b:κ}:Rc pf s k->pf k=.node r a b->Rc pf s b
section
variable {P:Program}{w:World}{κ:Type}[DecidableEq κ](G:GK P w κ)
noncomputable def PV (H:Hp)(v:V):Pt κ->Prop
 | .leaf n=>v=.int n
 | .node r lo hi=>∃t bl bh,v=.ref t/\H t=some (.tup [.int r,.ref bl,.ref bh])/\G.At H bl lo/\G.At H bh hi
noncomputable def Zht (pf:κ->Pt κ)(Dom:κ->Prop):Sp:=λvs H Q _=>∃(b:Addr)(k:κ),vs=[.ref b]/\G.At H b k/\Dom k/\∀(v:V)(H':Hp),Same H H'->PV G H' v (pf k)->Q v H'
structure FndG (pf:κ->Pt κ)(s:κ)(H:Hp)(kvs:GKv κ):Prop where
 ks:GKeys G H kvs
 nd:(kvs.map (·.1)).Nodup
 rc:∀p∈kvs,Rc pf s p.1
 pv:∀p∈kvs,PV G H p.2.2 (pf p.1)
end
section
variable {P:Program}{w:World}{κ:Type}[DecidableEq κ]{G:GK P w κ}{H H':Hp}{v:V}{pf:κ->Pt κ}{s:κ}{kvs:GKv κ}
theorem PV.keep {p:Pt κ}(h:PV G H v p)(t:∀b ys,H b=some (.tup ys)->H' b=some (.tup ys)):PV G H' v p:=by
 cases p with
 | leaf n=>exact h
 | node r lo hi=>
  obtain ⟨x,bl,bh,e,h1,h2,h3⟩:=h;exact ⟨x,bl,bh,e,t _ _ h1,G.keep h2 t,G.keep h3 t⟩
theorem FndG.keep (F:FndG G pf s H kvs)(t:∀b ys,H b=some (.tup ys)->H' b=some (.tup ys)):FndG G pf s H' kvs:=⟨F.ks.keep t,F.nd,F.rc,λp hp=>(F.pv p hp).keep t⟩
theorem Vb {k:κ}(h:Ud kvs k=none):k ∉ kvs.map (·.1):=by
 intro hm;obtain ⟨p,hp,rfl⟩:=Yaj.mp hm;unfold Ud at h;have:=List.find?_eq_none.mp (Yft.mp h) p hp;simp at this
theorem Yw {k:κ}{v:V}(h:Ud kvs k=some v):∃b,(k,b,v)∈kvs:=by
 unfold Ud at h;obtain ⟨p,hp,rfl⟩:=Ybu.mp h;have h1:=List.find?_some hp;have h2:=List.mem_of_find?_eq_some hp;exact ⟨p.2.1,by rw [<-Ybw h1];exact h2⟩
theorem Za4 (nd:(kvs.map (·.1)).Nodup){k:κ}{b:Addr}{v:V}(h:(k,b,v)∈kvs):Ud kvs k=some v:=by
 unfold Ud
 induction kvs with
 | nil=>cases h
 | cons p kvs ih=>
  rw [Yaq] at nd;obtain ⟨n1,n2⟩:=List.nodup_cons.mp nd;rcases Yas.mp h with e | e
  ·rw [<-e];simp
  ·have hne:¬ p.1=k:=λz=>n1 (by rw [z];exact Yaj.mpr ⟨_,e,rfl⟩);rw [Ydg];simp only [hne,decide_false,Yeg,Ycu];exact ih n2 e
theorem Xb {k:κ}{b:Addr}{v:V}(h:Ud kvs k=none):Ud (kvs++[(k,b,v)]) k=some v:=by
 unfold Ud at h ⊢;rw [List.find?_append,Yft.mp h];simp
theorem FndG.snoc (F:FndG G pf s H kvs){k:κ}{b:Addr}{v:V}(hn:Ud kvs k=none)(hb:G.At H b k)(hr:Rc pf s k)(hv:PV G H v (pf k)):FndG G pf s H (kvs++[(k,b,v)]):=by
 refine ⟨λp hp=>?_,?_,λp hp=>?_,λp hp=>?_⟩
 ·rcases Yag.mp hp with h | h
  ·exact F.ks p h
  ·rw [Yah.mp h];exact hb
 ·rw [Yap];refine Ycf.mpr ⟨F.nd,by simp,λa ha c hc=>?_⟩;have hc:c=k:=by simpa using hc
  rw [hc];exact λz=>Vb hn (z▸ha)
 ·rcases Yag.mp hp with h | h
  ·exact F.rc p h
  ·rw [Yah.mp h];exact hr
 ·rcases Yag.mp hp with h | h
  ·exact F.pv p h
  ·rw [Yah.mp h];exact hv
end
noncomputable def Shut {κ:Type}(pf:κ->Pt κ)(s:κ)(ks ws:List κ):Prop:=(s∈ks\/s∈ws)/\∀k∈ks,∀r a b,pf k=.node r a b->(a∈ks\/a∈ws)/\(b∈ks\/b∈ws)
theorem Shut.all {κ:Type}{pf:κ->Pt κ}{s:κ}{ks:List κ}(h:Shut pf s ks []):∀k,Rc pf s k->k∈ks:=by
 intro k hk
 induction hk with
 | start=>exact h.1.resolve_right (by simp)
 | lo _ e ih=>exact (h.2 _ ih _ _ _ e).1.resolve_right (by simp)
 | hi _ e ih=>exact (h.2 _ ih _ _ _ e).2.resolve_right (by simp)
section
variable {P:Program}{w:World}{K:W.Frag}{mg:Str->Option Value}{base:Heap}{κ:Type}[DecidableEq κ]{G:GK P w κ}{pf:κ->Pt κ}{Dom:κ->Prop}
noncomputable def Zfg (G:GK P w κ)(pf:κ->Pt κ)(fP:Addr):Sp:=λvs H Q _=>∃(b:Addr)(s:κ)(U:List κ),vs=[.ref b,.ref fP]/\G.At H b s/\(∀k,Rc pf s k->k∈U)/\U.length<=100000 /\
 ∀(fo:Addr)(kvs:GKv κ)(H':Hp),Same H H'->H fo=none->H' fo=some (gd G fo kvs)->FndG G pf s H' kvs->(∀k,Rc pf s k->k∈kvs.map (·.1))->kvs.length<=U.length->Q (.ref fo) H'
theorem scPbl:Gp ["start", "parts", "found", "pending", "part"] ["start", "parts"] (Gf Ze2):=⟨rfl,rfl,rfl,by decide +kernel,rfl,by decide +kernel,by decide +kernel⟩
theorem Zfh {f fP:Addr}{fd fdP:FuncData}{kp:Nat}{ps:List Str}{x q:Str}{st:Stmt}(F:Fun K "parts_below" "parts_below" Ze2 f fd)(FPf:Fun K x q st fP fdP)(bPf:Binds K fdP ps [])(GPf:G4 P w K mg base CX0 kp fP fdP ps (Zht G pf Dom))(hDom:∀s k,Rc pf s k->Dom s->Dom k)(kit:W.kitOne K (.type "int") (.type "tuple")=some false)(mIsi:mg "isinstance" = none)(mTup:mg "tuple" = none):G4 P w K mg base CX0 (kp+1) f fd ["start", "parts"] (λvs H Q E=>(∀b s,vs=[.ref b,.ref fP]->G.At H b s->Dom s)/\Zfg G pf fP vs H Q E):=by
 refine F.ok scPbl (λvs H Q E h=>?_) (λcdv A outer s H vs Q E hr h=>?_)
 ·obtain ⟨_,_,_,_,rfl,_⟩:=h
  rfl
 ·obtain ⟨hdom,b,st,U,rfl,hb,hU,hUl,qq⟩:=h;have hst:Dom st:=hdom b st rfl hb;have hu71:(A.deeper (PyProof.Rows.envOfC "parts_below" (Gf Ze2) s.heap.objs.size f cdv)).units+71<cLine:=by have:=hr.un;lia
  have h16:=Ybf.symm;refine ⟨_,Gc (Gn (i:=2) scPbl.nd rfl (Or.inl rfl) (ZaY (G:=G)))
    (Gc (Gn (i:=3) scPbl.nd rfl (Or.inl rfl) (GH (Gb (pv 0) Gd)))
    (Gc (VM Ych (UE (pv 3) (λ_=>rfl))
    (Gc (Gn (i:=4) scPbl.nd rfl (Or.inl rfl) (ZeA Ycr PySem.F.slot_list_pop PySem.F.type_list_pop ZeB (pv 3)))
    (Gg (Jf (Wy (ZaZ (G:=G) hu71 (pv 4) (pv 2)) rfl) (Gc (XN (G:=G) hu71 (pv 2) (pv 4) (Zcf GPf hr (pv 1) FPf.kp bPf .nil Je (Gb (pv 4) Gd)) rfl)
    (Gg (Jf (JI (Gk (Zbp K) rfl mIsi Jv (Gb (O9 (G:=G) hu71 (pv 2) (pv 4) (λ_ _=>rfl)) (Gb (OA mTup Jh) Gd)))) (Gg (Jt (Ug Ycr PySem.F.slot_list_extend PySem.F.type_list_extend VC (pv 3) (Gb (GQ (ZgS K) (O9 (G:=G) hu71 (pv 2) (pv 4) (λ_ _=>rfl)) (G5 Ge) Jk) Gd)))) Gu))) Gu))))
    (Gg (Gr (pv 2))))),?_⟩
  refine Gy (λσ' H'=>∃fo:Addr,σ'=[some (.ref b),some (.ref fP),some (.ref fo),none,none]/\Same H H'/\H fo=none/\H' fo=some (gd G fo ([]:GKv κ))) ?s0 ?f0
  case f0=>exact λhk fo hfo=>hk _ _ ⟨fo,rfl,Same.new hfo,hfo,Ga⟩
  rintro σ' H1 ⟨fo,rfl,s1,hfo,ef⟩;refine Gy (λσ' H'=>∃pe:Addr,σ'=[some (.ref b),some (.ref fP),some (.ref fo),some (.ref pe),none]/\Same H1 H'/\H1 pe=none/\H' pe=some (.lst [.ref b])) ?s1 ?f1
  case f1=>exact λhk=>⟨_,rfl,(by show 1<=sizeLine;decide),λpe hpe=>hk _ _ ⟨pe,rfl,Same.new hpe,hpe,Ga⟩⟩
  rintro σ' H2 ⟨pe,rfl,s2,hpe,ep⟩;have npf:pe≠fo:=Ne.symm (Gh ef hpe);have hpH:H pe=none:=s1.free hpe;refine Gy (λσ' H'=>∃(kvs:GKv κ)(v4:Option V),σ'=[some (.ref b),some (.ref fP),some (.ref fo),some (.ref pe),v4]/\Same H H'/\H' fo=some (gd G fo kvs)/\FndG G pf st H' kvs/\Shut pf st (kvs.map (·.1)) []) ?s2 ?f2
  case s2=>
   rintro σ' H3 ⟨kvs,v4,rfl,s3,e3,F3,sh⟩;have hl:kvs.length<=U.length:=by
    have:=Ycj F3.nd (l₂:=U) λk hk=>by
     obtain ⟨p,hp,rfl⟩:=Yaj.mp hk;exact hU _ (F3.rc p hp)
    rwa [Yac] at this
   exact ⟨_,rfl,qq fo kvs H3 s3 hfo e3 F3 sh.all hl⟩
  case f2=>
   intro hk;refine ⟨λm σ' H'=>∃(kvs:GKv κ)(bs:List (Addr×κ))(v4:Option V),σ'=[some (.ref b),some (.ref fP),some (.ref fo),some (.ref pe),v4]/\Same H H'/\H' fo=some (gd G fo kvs)/\H' pe=some (.lst (bs.map λz=>V.ref z.1))/\FndG G pf st H' kvs/\(∀z∈bs,G.At H' z.1 z.2/\Rc pf st z.2)/\Shut pf st (kvs.map (·.1)) (bs.map (·.2))/\m=3 * (U.length-kvs.length)+bs.length/\bs.length<=1+2 * kvs.length,
    ⟨_,[],[(b,st)],none,rfl,s1.trans s2,s2 _ _ ef,ep,⟨λp hp=>(by cases hp),Yea,λp hp=>(by cases hp),λp hp=>(by cases hp)⟩,λz hz=>by rw [Yah.mp hz];exact ⟨G.keep hb λp ys e=>s2 _ _ (s1 _ _ e),.start⟩,⟨.inr (by simp),λk hk=>(by cases hk)⟩,rfl,by simp⟩,?_⟩
   rintro m σ' H3 ⟨kvs,bs,v4,rfl,s3,e3,ep3,F3,hbs,sh,rfl,hbl⟩;have hkl:kvs.length<=U.length:=by
    have:=Ycj F3.nd (l₂:=U) λk hk=>by
     obtain ⟨p,hp,rfl⟩:=Yaj.mp hk;exact hU _ (F3.rc p hp)
    rwa [Yac] at this
   by_cases hb0:bs=[]
   ·subst hb0;refine ⟨_,rfl,false,.inl ⟨_,SqL.of ep3,rfl⟩,Os ?_⟩;exact hk _ _ ⟨kvs,v4,rfl,s3,e3,F3,sh⟩
   ·obtain ⟨cs,z,rfl⟩:∃cs z,bs=cs++[z]:=⟨_,_,(List.dropLast_concat_getLast hb0).symm⟩;refine ⟨_,rfl,true,.inl ⟨_,SqL.of ep3,by simp⟩,OQ ?_⟩;refine ⟨_,λ_ _ h=>h,?_⟩;obtain ⟨hz1,hz2⟩:=hbs z (by simp);refine ⟨_,rfl,.inl ⟨rfl,_,SqL.of ep3⟩,pe,_,.ref z.1,rfl,rfl,ep3,by simp,?_⟩;have edl:((cs++[z]).map λz=>V.ref z.1).dropLast=cs.map λz=>V.ref z.1:=by rw [Yap];simp
    rw [edl];have t4:∀p ys,H3 p=some (.tup ys)->upd H3 pe (.lst (cs.map λz=>V.ref z.1)) p=some (.tup ys):=G6 ep3;have s4:Same H (upd H3 pe (.lst (cs.map λz=>V.ref z.1))):=s3.put hpH;have e4:upd H3 pe (.lst (cs.map λz=>V.ref z.1)) fo=some (gd G fo kvs):=Gj e3 (Ne.symm npf);have ep4:upd H3 pe (.lst (cs.map λz=>V.ref z.1)) pe=some (.lst (cs.map λz=>V.ref z.1)):=Ga;have F4:=F3.keep t4;have hz1:=G.keep hz1 t4;have hcs:∀y∈cs,G.At (upd H3 pe (.lst (cs.map λz=>V.ref z.1))) y.1 y.2/\Rc pf st y.2:=λy hy=>⟨G.keep (hbs y (by simp [hy])).1 t4,(hbs y (by simp [hy])).2⟩;generalize upd H3 pe (.lst (cs.map λz=>V.ref z.1))=H4 at s4 e4 ep4 F4 hz1 hcs ⊢;have sh':∀k,k∈(cs++[z]).map (·.2)->k=z.2\/k∈cs.map (·.2):=λk hk=>by
     rw [Yap] at hk;rcases Yag.mp hk with h | h
     ·exact .inr h
     ·exact .inl (by simpa using h)
    dsimp only [GX];refine ⟨_,rfl,_,rfl,fo,Ud kvs z.2,rfl,⟨kvs,z.2,z.1,.inl e4,F4.ks,rfl,hz1,rfl⟩,_,rfl,?_⟩;cases hv:Ud kvs z.2 with
    | some v=>
     refine Os ?_;obtain ⟨b',hm⟩:=Yw hv;have hzk:z.2∈kvs.map (·.1):=Yaj.mpr ⟨_,hm,rfl⟩;have mv:∀k,(k∈kvs.map (·.1)\/k∈(cs++[z]).map (·.2))->(k∈kvs.map (·.1)\/k∈cs.map (·.2)):=λk h=>h.elim .inl λh=>(sh' k h).elim (λe=>.inl (e▸hzk)) .inr;exact ⟨3 * (U.length-kvs.length)+cs.length,by rw [Yai,Yat];lia,kvs,cs,_,rfl,s4,e4,ep4,F4,hcs,⟨mv _ sh.1,λk hk r a b e=>⟨mv _ (sh.2 k hk r a b e).1,mv _ (sh.2 k hk r a b e).2⟩⟩,rfl,by rw [Yai,Yat] at hbl;lia⟩
    | none=>
     refine OQ ?_;have hlt:kvs.length<U.length:=by
      have hn:(kvs.map (·.1)++[z.2]).Nodup:=Ycf.mpr ⟨F4.nd,by simp,λa ha c hc=>by
       have hc:c=z.2:=by simpa using hc
       rw [hc];exact λe=>Vb hv (e▸ha)⟩
      have:=Ycj hn (l₂:=U) λk hk=>by
       rcases Yag.mp hk with h | h
       ·obtain ⟨p,hp,rfl⟩:=Yaj.mp h;exact hU _ (F4.rc p hp)
       ·rw [Yah.mp h];exact hU _ hz2
      rw [Yai,Yac,Yat] at this
      lia
     refine ⟨rfl,_,rfl,z.1,z.2,rfl,hz1,hDom _ _ hz2 hst,λv H5 s5 pv=>?_⟩;have F5:=F4.keep λp ys e=>s5 _ _ e;have hz5:=G.keep hz1 λp ys e=>s5 _ _ e;refine ⟨_,rfl,_,rfl,fo,z.1,kvs,z.2,rfl,rfl,s5 _ _ e4,F5.ks,hz5,hv,by lia,?_⟩;have nfp:fo≠pe:=Ne.symm npf;have t6:∀p ys,H5 p=some (.tup ys)->upd H5 fo (gd G fo (kvs++[(z.2,z.1,v)])) p=some (.tup ys):=λp ys e=>Gj e (Jd e (s5 _ _ e4) (λz=>by cases z));have s6:Same H (upd H5 fo (gd G fo (kvs++[(z.2,z.1,v)]))):=(s4.trans s5).put hfo;have e6:upd H5 fo (gd G fo (kvs++[(z.2,z.1,v)])) fo=some (gd G fo (kvs++[(z.2,z.1,v)])):=Ga;have ep6:upd H5 fo (gd G fo (kvs++[(z.2,z.1,v)])) pe=some (.lst (cs.map λz=>V.ref z.1)):=Gj (s5 _ _ ep4) npf;have F6:=(F5.snoc hv hz5 hz2 pv).keep t6;have hz6:=G.keep hz5 t6;have pv6:=pv.keep t6;have hcs6:∀y∈cs,G.At (upd H5 fo (gd G fo (kvs++[(z.2,z.1,v)]))) y.1 y.2/\Rc pf st y.2:=λy hy=>⟨G.keep (G.keep (hcs y hy).1 λp ys e=>s5 _ _ e) t6,(hcs y hy).2⟩;dsimp only [UC];change Zhg _ _ _ _ _ (upd H5 fo (gd G fo (kvs++[(z.2,z.1,v)])));generalize upd H5 fo (gd G fo (kvs++[(z.2,z.1,v)]))=H6 at s6 e6 ep6 F6 hz6 pv6 hcs6 ⊢;have gg:Zj G H6 fo (.ref z.1) (some v):=⟨_,z.2,z.1,.inl e6,F6.ks,rfl,hz6,(Xb hv).symm⟩;have mv:∀k,(k∈kvs.map (·.1)\/k∈(cs++[z]).map (·.2))->(k∈(kvs++[(z.2,z.1,v)]).map (·.1)\/k∈cs.map (·.2)):=λk h=>by
      rw [Yap];rcases h with h | h
      ·exact .inl (Ydd _ h)
      ·rcases sh' k h with rfl | h
       ·exact .inl (Ycb _ (by simp))
       ·exact .inr h
     cases hp:pf z.2 with
     | leaf n=>
      rw [hp] at pv6;have ev:v=.int n:=pv6;subst ev;refine ⟨_,rfl,_,rfl,fo,_,rfl,gg,_,_,false,rfl,⟨_,rfl,Os ?_⟩,.inl ⟨_,.int _,rfl,kit⟩⟩;refine ⟨3 * (U.length-(kvs++[(z.2,z.1,V.int n)]).length)+cs.length,by rw [Yai,Yai,Yat,Yat];lia,_,cs,_,rfl,s6,e6,ep6,F6,hcs6,⟨mv _ sh.1,λk hk r a b e=>?_⟩,rfl,by rw [Yai,Yat] at hbl ⊢;lia⟩;rw [Yap] at hk;rcases Yag.mp hk with h | h
      ·exact ⟨mv _ (sh.2 k h r a b e).1,mv _ (sh.2 k h r a b e).2⟩
      ·have:k=z.2:=by simpa using h
       rw [this,hp] at e;cases e
     | node r lo hi=>
      rw [hp] at pv6;obtain ⟨t,bl,bh,rfl,et,hl',hh'⟩:=pv6;refine ⟨_,rfl,_,rfl,fo,_,rfl,gg,_,_,true,rfl,⟨_,rfl,OQ ?_⟩,.inl ⟨_,.tup et,rfl,JD⟩⟩;refine ⟨_,rfl,.inl ⟨rfl,_,SqL.of ep6⟩,_,rfl,_,rfl,fo,_,rfl,gg,_,rfl,t,_,rfl,SqT.of et,?_,λq hq=>?_⟩
      ·rintro ⟨zz,_⟩;rw [show (some (1:Int))=some ((1:Nat):Int) from rfl,HT.sIx_nat] at zz;simp at zz
      ·have ec:Uf [V.int r,.ref bl,.ref bh] (some 1) none=[V.ref bl,.ref bh]:=rfl;rw [ec];have s7:Same H6 (upd H6 q (.tup [.ref bl,.ref bh])):=Same.new hq;refine ⟨pe,q,_,_,rfl,rfl,s7 _ _ ep6,Ga,by rw [Yac];show cs.length+2<=sizeLine;rw [Yai,Yat] at hbl;lia,?_⟩;have npq:pe≠q:=Gh ep6 hq;have t8:∀p ys,upd H6 q (.tup [.ref bl,.ref bh]) p=some (.tup ys)->upd (upd H6 q (.tup [.ref bl,.ref bh])) pe (.lst ((cs.map λz=>V.ref z.1)++[.ref bl,.ref bh])) p=some (.tup ys):=G6 (s7 _ _ ep6);have t9:∀p ys,H6 p=some (.tup ys)->upd (upd H6 q (.tup [.ref bl,.ref bh])) pe (.lst ((cs.map λz=>V.ref z.1)++[.ref bl,.ref bh])) p=some (.tup ys):=λp ys e=>t8 p ys (s7 _ _ e);refine ⟨3 * (U.length-(kvs++[(z.2,z.1,V.ref t)]).length)+(cs++[(bl,lo),(bh,hi)]).length,by rw [Yai,Yai,Yai,Yat,Yat];show _+(cs.length+2)<_;lia,_,cs++[(bl,lo),(bh,hi)],_,rfl,(s6.trans s7).put hpH,Gj (s7 _ _ e6) nfp,by rw [Ga,Yap];rfl,F6.keep t9,λy hy=>?_,⟨?_,λk hk r' a b' e=>?_⟩,rfl,?_⟩
       ·rcases Yag.mp hy with h | h
        ·exact ⟨G.keep (hcs6 y h).1 t9,(hcs6 y h).2⟩
        ·simp at h;rcases h with rfl | rfl
         ·exact ⟨G.keep hl' t9,.lo hz2 hp⟩
         ·exact ⟨G.keep hh' t9,.hi hz2 hp⟩
       ·exact (mv _ sh.1).imp id λh=>by rw [Yap];exact Ydd _ h
       ·have up:∀k,(k∈(kvs++[(z.2,z.1,V.ref t)]).map (·.1)\/k∈cs.map (·.2))->(k∈(kvs++[(z.2,z.1,V.ref t)]).map (·.1)\/k∈(cs++[(bl,lo),(bh,hi)]).map (·.2)):=λk h=>h.imp id λh=>by rw [Yap];exact Ydd _ h
        rw [Yap] at hk;rcases Yag.mp hk with h | h
        ·exact ⟨up _ (mv _ (sh.2 k h r' a b' e).1),up _ (mv _ (sh.2 k h r' a b' e).2)⟩
        ·have hk':k=z.2:=by simpa using h
         rw [hk',hp] at e;cases e;exact ⟨.inr (by simp),.inr (by simp)⟩
       ·rw [Yai,Yai,Yat];rw [Yai,Yat] at hbl;show cs.length+2<=_
        lia
end
inductive Zr {κ:Type}(pf:κ->Pt κ):κ->List Int->Prop
 | one {k:κ}:pf k=.leaf 1->Zr pf k []
 | lo {k a b:κ} {r:Int} {s:List Int}:pf k=.node r a b->Zr pf a s->Zr pf k s
 | hi {k a b:κ} {r:Int} {s:List Int}:pf k=.node r a b->Zr pf b s->Zr pf k (r::s)
noncomputable def Abv {κ:Type}(pf:κ->Pt κ)(k:κ)(lo:Int):Prop:=∀r a b,pf k=.node r a b->lo<r
structure Zg3 {κ:Type}(pf:κ->Pt κ)(s:κ):Prop where
 lf:∀k n,Rc pf s k->pf k=.leaf n->n=0\/n=1
 nd:∀k r a b,Rc pf s k->pf k=.node r a b->(0<=r/\r<30)/\Abv pf a r/\Abv pf b r
structure NumOk {κ:Type}(pf:κ->Pt κ)(ts:List Tri)(k:κ)(c:Int):Prop where
 at_:∀lo,Abv pf k lo->At ts c lo
 has:∀s,Has ts c s↔Zr pf k s
structure ShOk (ts:List Tri):Prop where
 ok:TabOk ts
 nd:ts.Nodup
 hi:∀r∈ts,r.2.2≠0
section
variable {κ:Type}{pf:κ->Pt κ}{ts us:List Tri}{k a b:κ}{c r n ca cb:Int}
theorem ShOk.nil:ShOk []:=⟨TabOk.nil,Yea,λr h=>by cases h⟩
theorem Zfi {c:Int}{s:List Int}(h:Has ts c s):Has (ts++us) c s:=by
 induction h with
 | one=>exact .one
 | low n _ ih=>exact .low (n.app us) ih
 | high n _ ih=>exact .high (n.app us) ih
theorem Zcj (T:TabOk ts){c:Int}{s:List Int}(h:Has (ts++us) c s):∀{lo:Int},At ts c lo->Has ts c s:=by
 induction h with
 | one=>exact λ_=>.one
 | low n _ ih=>
  intro lo a;obtain ⟨q,m,_⟩:=a.nd (by have:=n.1;lia);have e:=(m.app us).one n;subst e;exact .low m (ih (T.nd m).2.1)
 | high n _ ih=>
  intro lo a;obtain ⟨q,m,_⟩:=a.nd (by have:=n.1;lia);have e:=(m.app us).one n;subst e;exact .high m (ih (T.nd m).2.2)
theorem Zck (pf:κ->Pt κ)(k:κ):∃lo,Abv pf k lo:=by
 cases h:pf k with
 | leaf n=>exact ⟨0,λr a b e=>by rw [h] at e;cases e⟩
 | node r a b=>exact ⟨r-1,λr' a' b' e=>by rw [h] at e;cases e;lia⟩
theorem NumOk.app (h:NumOk pf ts k c)(T:TabOk ts):NumOk pf (ts++us) k c:=
 ⟨λlo a=>(h.at_ lo a).app us,λs=>⟨λx=>(h.has s).mp (by obtain ⟨lo,a⟩:=Zck pf k;exact Zcj T x (h.at_ lo a)),λx=>Zfi ((h.has s).mpr x)⟩⟩
theorem NumOk.leaf (e:pf k=.leaf n)(h:n=0\/n=1):NumOk pf ts k n:=by
 refine ⟨λlo _=>h.imp id .inl,λs=>?_⟩;rw [Has.small (by lia) (by lia)];constructor
 ·rintro ⟨rfl,rfl⟩;exact .one e
 ·intro h';cases h' with
  | one e'=>rw [e] at e';cases e';exact ⟨rfl,rfl⟩
  | lo e' _=>rw [e] at e';cases e'
  | hi e' _=>rw [e] at e';cases e'
theorem NumOk.flat (e:pf k=.node r a b)(ha:Abv pf a r)(na:NumOk pf ts a ca)(nb:NumOk pf ts b 0):NumOk pf ts k ca:=by
 refine ⟨λlo h=>(na.at_ r ha).mono (by have:=h _ _ _ e;lia),λs=>?_⟩;rw [na.has];constructor
 ·exact .lo e
 ·intro h';cases h' with
  | one e'=>rw [e] at e';cases e'
  | lo e' x=>rw [e] at e';cases e';exact x
  | hi e' x=>rw [e] at e';cases e';exact absurd ((nb.has _).mpr x) Has.zero
theorem NumOk.node (e:pf k=.node r a b)(na:NumOk pf ts a ca)(nb:NumOk pf ts b cb)(N:Nd ts c (r,ca,cb)):NumOk pf ts k c:=by
 refine ⟨λlo h=>.inr (.inr ⟨_,N,h _ _ _ e⟩),λs=>?_⟩;constructor
 ·intro h;cases h with
  | one=>exact absurd N.1 (by decide)
  | low n x=>rw [<-N.one n] at x;exact .lo e ((na.has _).mp x)
  | high n x=>
   rw [<-N.one n] at x ⊢;exact .hi e ((nb.has _).mp x)
 ·intro h';cases h' with
  | one e'=>rw [e] at e';cases e'
  | lo e' x=>rw [e] at e';cases e';exact .low N ((na.has _).mpr x)
  | hi e' x=>rw [e] at e';cases e';exact .high N ((nb.has _).mpr x)
theorem ShOk.snoc (S:ShOk ts)(h0:0<=r/\r<30)(ha:Abv pf a r)(hb:Abv pf b r)(na:NumOk pf ts a ca)(nb:NumOk pf ts b cb)(hc:cb≠0)(hn:(r,ca,cb) ∉ ts):ShOk (ts++[(r,ca,cb)]):=by
 refine ⟨S.ok.snoc h0 (na.at_ r ha) (nb.at_ r hb),Ycf.mpr ⟨S.nd,by simp,λx hx y hy=>?_⟩,λq hq=>?_⟩
 ·rw [Yah.mp hy];exact λz=>hn (z▸hx)
 ·rcases Yag.mp hq with h | h
  ·exact S.hi q h
  ·rw [Yah.mp h];exact hc
end
section
variable {P:Program}{w:World}{K:W.Frag}{mg:Str->Option Value}{base:Heap}
theorem Fun.okRC {x qual:Str}{st:Stmt}{f c:Addr}{fd:FuncData}{N ps:List Str}{k:Nat}{sp:Sp}(F:Fun K x qual st f fd)(hc:fd.code=.ref c)(S:Gp N ps (Gf st))(len:∀vs H Q E,sp vs H Q E->vs.length=ps.length)(jX:∀(A:Around)(outer:List Env)(s:Shared)(H:Hp)(vs:List V)(Q:VK)(E:XK),Room k (A.deeper (PyProof.Rows.envOfC qual (Gf st) s.heap.objs.size f (.ref c)))->sp vs H Q E ->
   ∃t,PSs (YT (CXr P w) P w K mg base N qual (Gf st) f (.ref c) A outer s H E) (G0 st) t/\t { nx:=λ_ H'=>Q .non H',rt:=Q } (start N vs) H):G4 P w K mg base (CXr P w) (k+1) f fd ps sp:=by
 obtain ⟨oc,od,kV,doc,pm,an,cdv,ct,osl,rfl,lk,hcd⟩:=F.ex;obtain rfl:cdv=.ref c:=hc;exact ZP lk hcd S len λA outer s H vs Q E hr hsp=>jX A outer s H vs Q E hr hsp
end
noncomputable def lqD:Str:=Str.ofString "laid_down.<locals>.<lambda>"
noncomputable abbrev LD (tb:Addr)(H:Hp):Prop:=LamSt tb 42 35 lqD H
noncomputable def UN {κ:Type}:Pt κ->Bool
 | .leaf _=>false
 | .node ..=>true
noncomputable def rdP {κ:Type}:Pt κ->Int
 | .leaf _=>0
 | .node r _ _=>r
structure Grw {κ:Type}(pf:κ->Pt κ)(s:κ)(ts0 ts:List Tri):Prop where
 pre:∃us,ts=ts0++us
 sh:ShOk ts
 own:∀c r,Nd ts c r->c<ts0.length+2\/∃k,Rc pf s k/\NumOk pf ts k c
section
variable {P:Program}{w:World}{κ:Type}[DecidableEq κ](G:GK P w κ)
structure NV (pf:κ->Pt κ)(ts:List Tri)(done:κ->Prop)(kvs:GKv κ)(H:Hp)(nvs:GKv κ):Prop where
 ks:GKeys G H nvs
 nd:(nvs.map (·.1)).Nodup
 nm:∀q∈nvs,∃c:Int,q.2.2=.int c/\NumOk pf ts q.1 c
 le:∀q∈nvs,done q.1/\q.1∈kvs.map (·.1)
 al:∀q∈kvs,done q.1->∃c:Int,Ud nvs q.1=some (.int c)/\NumOk pf ts q.1 c
end
section
variable {P:Program}{w:World}{κ:Type}[DecidableEq κ]{G:GK P w κ}{H H':Hp}{pf:κ->Pt κ}{s:κ}{kvs nvs:GKv κ}{ts:List Tri}{done done':κ->Prop}
theorem NV.keep (N:NV G pf ts done kvs H nvs)(t:∀b ys,H b=some (.tup ys)->H' b=some (.tup ys)):NV G pf ts done kvs H' nvs:=⟨N.ks.keep t,N.nd,N.nm,N.le,N.al⟩
theorem NV.len (N:NV G pf ts done kvs H nvs):nvs.length<=kvs.length:=by
 have:=Ycj N.nd (l₂:=kvs.map (·.1)) λk hk=>by
  obtain ⟨q,hq,rfl⟩:=Yaj.mp hk;exact (N.le q hq).2
 rwa [Yac,Yac] at this
theorem NV.none (N:NV G pf ts done kvs H nvs){k:κ}(h:¬ done k):Ud nvs k=none:=by
 cases e:Ud nvs k with
 | none=>rfl
 | some v=>
  obtain ⟨b,hb⟩:=Yw e;exact absurd (N.le _ hb).1 h
theorem NV.like (N:NV G pf ts done kvs H nvs)(h:∀k∈kvs.map (·.1),done k↔done' k):NV G pf ts done' kvs H nvs:=
 ⟨N.ks,N.nd,N.nm,λq hq=>⟨(h _ (N.le q hq).2).mp (N.le q hq).1,(N.le q hq).2⟩,λq hq d=>N.al q hq ((h _ (Yaj.mpr ⟨q,hq,rfl⟩)).mpr d)⟩
theorem NV.app (N:NV G pf ts done kvs H nvs)(T:TabOk ts)(us:List Tri):NV G pf (ts++us) done kvs H nvs:=
 ⟨N.ks,N.nd,λq hq=>(N.nm q hq).elim λc h=>⟨c,h.1,h.2.app T⟩,N.le,λq hq d=>(N.al q hq d).elim λc h=>⟨c,h.1,h.2.app T⟩⟩
theorem Zcl {k:κ}{v:V}{us:GKv κ}(h:Ud nvs k=some v):Ud (nvs++us) k=some v:=by
 unfold Ud at h ⊢;rw [List.find?_append];obtain ⟨p,hp,rfl⟩:=Ybu.mp h;rw [hp]
 rfl
theorem NV.snoc (N:NV G pf ts done kvs H nvs){k:κ}{b:Addr}{c:Int}(hb:G.At H b k)(hn:¬ done k)(hk:k∈kvs.map (·.1))(hc:NumOk pf ts k c):NV G pf ts (λx=>done x\/x=k) kvs H (nvs++[(k,b,.int c)]):=by
 have hv:=N.none hn;refine ⟨λp hp=>?_,?_,λq hq=>?_,λq hq=>?_,λq hq d=>?_⟩
 ·rcases Yag.mp hp with h | h
  ·exact N.ks p h
  ·rw [Yah.mp h];exact hb
 ·rw [Yap];refine Ycf.mpr ⟨N.nd,by simp,λa ha d hd=>?_⟩;have hd:d=k:=by simpa using hd
  rw [hd];exact λz=>Vb hv (z▸ha)
 ·rcases Yag.mp hq with h | h
  ·exact N.nm q h
  ·rw [Yah.mp h];exact ⟨c,rfl,hc⟩
 ·rcases Yag.mp hq with h | h
  ·exact ⟨.inl (N.le q h).1,(N.le q h).2⟩
  ·rw [Yah.mp h];exact ⟨.inr rfl,hk⟩
 ·by_cases e:q.1=k
  ·rw [e];exact ⟨c,Xb hv,hc⟩
  ·obtain ⟨c',h1,h2⟩:=N.al q hq (d.resolve_right e);exact ⟨c',Zcl h1,h2⟩
theorem Grw.refl {ts0:List Tri}(S:ShOk ts0):Grw pf s ts0 ts0:=⟨⟨[],by simp⟩,S,λc r n=>.inl n.lt⟩
theorem Grw.snoc {ts0:List Tri}{k a b:κ}{r ca cb:Int}(D:Grw pf s ts0 ts)(hk:Rc pf s k)(e:pf k=.node r a b)(h0:0<=r/\r<30)(ha:Abv pf a r)(hb:Abv pf b r)(na:NumOk pf ts a ca)(nb:NumOk pf ts b cb)(hc:cb≠0)(hn:(r,ca,cb) ∉ ts):Grw pf s ts0 (ts++[(r,ca,cb)])/\NumOk pf (ts++[(r,ca,cb)]) k ((ts.length:Int)+2):=by
 have N:NumOk pf (ts++[(r,ca,cb)]) k ((ts.length:Int)+2):=NumOk.node e (na.app D.sh.ok) (nb.app D.sh.ok) (Nd.last ts _);refine ⟨⟨D.pre.elim λus h=>⟨us++[(r,ca,cb)],by rw [h,Ybs]⟩,D.sh.snoc h0 ha hb na nb hc hn,λc q n=>?_⟩,N⟩;by_cases hl:c<(ts.length:Int)+2
 ·have n':Nd ts c q:=⟨n.1,by
   have:=n.2;have h1:=n.1
   rwa [Yby (by lia)] at this⟩
  exact (D.own c q n').imp id λ⟨k,h1,h2⟩=>⟨k,h1,h2.app D.sh.ok⟩
 ·have:=n.lt;rw [Yai,Yat] at this;exact .inr ⟨k,hk,by rw [show c=(ts.length:Int)+2 by lia];exact N⟩
end
section
variable {P:Program}{w:World}{K:W.Frag}{mg:Str->Option Value}{base:Heap}{κ:Type}[DecidableEq κ]{G:GK P w κ}{pf:κ->Pt κ}{Dom:κ->Prop}
noncomputable def FrD (nl pd tb:Addr)(H H':Hp):Prop:=∀b o,b≠nl->b≠pd->b≠tb->H b=some o->H' b=some o
noncomputable def Zfj (G:GK P w κ)(pf:κ->Pt κ)(Dom:κ->Prop)(fP C TM tb:Addr):Sp:=λvs H Q E=>∃(b p nl pd:Addr)(s:κ)(U Un:List κ)(M:Int)(xs0:List V)(ts0:List Tri)(kv0:List (List Key×V)),vs=[.ref b,.ref fP,.ref p]/\G.At H b s/\Dom s/\(∀k,Rc pf s k->k∈U)/\(∀k,Rc pf s k->UN (pf k)=true->k∈Un)/\ts0.length+U.length<=10000/\Zg3 pf s/\LD tb H /\
 ShelfAt C H p nl pd (.int M) xs0 ts0 kv0/\ShOk ts0 /\
 (∀(c:Int)(xs:List V)(ts:List Tri)(kvs:List (List Key×V))(H':Hp),FrD nl pd tb H H'->LD tb H'->ShelfAt C H' p nl pd (.int M) xs ts kvs->Grw pf s ts0 ts->ts.length<=ts0.length+Un.length->NumOk pf ts s c->Q (.int c) H') /\
 (∀(ts:List Tri)(H':Hp),FrD nl pd tb H H'->LD tb H'->Grw pf s ts0 ts->M<ts.length->ts.length<=ts0.length+Un.length->E (.ref TM) none H')
theorem scLdn:Gp ["start", "parts", "shelf", "numbers", "part", "rising", "road", "low", "high", "found"] ["start", "parts", "shelf"] (Gf Zed):=⟨rfl,rfl,rfl,by decide +kernel,rfl,by decide +kernel,by decide +kernel⟩
theorem ZhR {X:Cx}{o i:Expr}{td ty:TE}{pos:Pos}(ho:PE X o td)(hi:PE X i ty)(hs:Zgc i)(hP:X.prog=P:=by rfl)(hw:X.w=w:=by rfl)(hu:X.A.units+71<cLine:=by assumption):PE X (.Subscript o i pos) (Zhr G td ty):=by
 subst hP hw;exact O9 hu ho hi hs
theorem VI {T:Addr}{line col:Nat}{qual:Str}{H H':Hp}(h:LamSt T line col qual H)(k:∀b o,((∃ps,o=.tbl ps)\/∃oc,o=.frz oc (.own b))->H b=some o->H' b=some o):LamSt T line col qual H':=by
 rcases h with e | ⟨c,e,oc,ec,co⟩
 ·exact .inl (k _ _ (.inl ⟨_,rfl⟩) e)
 ·exact .inr ⟨c,k _ _ (.inl ⟨_,rfl⟩) e,oc,k _ _ (.inr ⟨_,rfl⟩) ec,co⟩
theorem Zcm {qs:GKv κ}(pw:qs.Pairwise λa b=>rdP (pf b.1)<=rdP (pf a.1)){i:Nat}{q q':κ×Addr×V}(hi:qs[i]?=some q)(hq:q'∈qs)(hr:rdP (pf q.1)<rdP (pf q'.1)):q'∈qs.take i:=by
 obtain ⟨j,hj,e⟩:=Ycw hq;obtain ⟨hi',ei⟩:=Yao.mp hi;by_cases h:j<i
 ·exact List.mem_take_iff_getElem.mpr ⟨j,by lia,e⟩
 ·by_cases h2:i=j
  ·subst h2;rw [<-e,ei] at hr
   lia
  ·have:=Yei.mp pw i j hi' hj (by lia);rw [e,ei] at this
   lia
theorem Vc {k:κ}(h:UN (pf k)=true):∃r a b,pf k=.node r a b:=by
 cases e:pf k with
 | leaf n=>rw [e] at h;cases h
 | node r a b=>exact ⟨r,a,b,rfl⟩
theorem Za5 {α:Type}{xs:List α}{i:Nat}{x:α}(p:α->Bool)(h:xs[i]?=some x):(xs.take (i+1)).filter p=if p x=true then (xs.take i).filter p++[x] else (xs.take i).filter p:=by
 rw [Ybz,h,Option.toList_some,Ydt];by_cases e:p x=true
 ·rw [if_pos e];simp [e]
 ·rw [if_neg e];simp [e]
theorem Zfk {f c tb fP fPb fPut C TM:Addr}{fd fdPb fdPut:FuncData}{kp:Nat}(F:Fun K "laid_down" "laid_down" Zed f fd)(hc:fd.code=.ref c)(hC:W.CodeHd base c tb)(hBl:base.BuiltinsAt mg tb)(FPb:Fun K "parts_below" "parts_below" Ze2 fPb fdPb)(bPb:Binds K fdPb ["start", "parts"] [])(mPb:mg "parts_below" = some (.ref fPb))(GPb:G4 P w K mg base CX0 (kp+1) fPb fdPb ["start", "parts"] (λvs H Q E=>(∀b s,vs=[.ref b,.ref fP]->G.At H b s->Dom s)/\Zfg G pf fP vs H Q E))(inj:∀{H:Hp}{b:Addr}{k k':κ},G.At H b k->G.At H b k'->k=k')(TS:Zfb K mg C TM)(mPut:ZgG K C "put" fPut)(bPut:Binds K fdPut ["self", "road", "low", "high"] [])(GPut:G4 P w K mg base (CXr P w) 1 fPut fdPut ["self", "road", "low", "high"] (Zfe C TM))(kit:W.kitOne K (.type "int") (.type "tuple")=some false)(kit2:W.kitOne K (.type "tuple") (.type "int")=some false)(mIsi:mg "isinstance" = none)(mTup:mg "tuple" = none)(mInt:mg "int" = none)(mSor:mg "sorted" = none) :
  G4 P w K mg base (CXr P w) (kp+2) f fd ["start", "parts", "shelf"] (Zfj G pf Dom fP C TM tb):=by
 refine Fun.okRC F hc scLdn (λvs H Q E h=>?_) (λA outer s H vs Q E hr h=>?_)
 ·obtain ⟨_,_,_,_,_,_,_,_,_,_,_,rfl,_⟩:=h
  rfl
 ·obtain ⟨b,p,nl,pd,st,U,Un,M,xs0,ts0,kv0,rfl,hb,hst,hU,hUn,hUl,PO,ld,S0,sh0,qq,qe⟩:=h;have hu71:(A.deeper (PyProof.Rows.envOfC "laid_down" (Gf Zed) s.heap.objs.size f (.ref c))).units+71<cLine:=by have:=hr.un;lia
  have hu80:(A.deeper (PyProof.Rows.envOfC "laid_down" (Gf Zed) s.heap.objs.size f (.ref c))).units+80<cLine:=by have:=hr.un;lia
  have jZ:=hr.depth;have h16:=Ybf.symm;refine ⟨_,Gc (Gn (i:=9) scLdn.nd rfl (Or.inr rfl) (Go GPb hr rfl mPb FPb.kp bPb .nil Je (Gb (pv 0) (Gb (pv 1) Gd))))
    (Gc (Gn (i:=3) scLdn.nd rfl (Or.inl rfl) (ZaY (G:=G)))
    (Gc (JJ PassesOwn.leaving rfl (Ys (G:=G) (pv 9)) (Gi (i:=4) scLdn.nd rfl (Or.inl rfl))
    (Gg (Jf (JI (Gk (Zbp K) rfl mIsi Jv (Gb (O9 (G:=G) hu71 (pv 9) (pv 4) (λ_ _=>rfl)) (Gb (OA mInt X2) Gd)))) (Gg (XN (G:=G) hu71 (pv 3) (pv 4) (O9 (G:=G) hu71 (pv 9) (pv 4) (λ_ _=>rfl)) rfl)) Gu)))
    (Gc (ZX (i:=5) scLdn.nd rfl (Or.inl rfl) (own:=["part"]) rfl (Gw (fr:=[("found", 9)]) [(".0", .local),("part", .local),("isinstance", .globalImplicit),("tuple", .globalImplicit),("found", .cell)] rfl rfl (by decide +kernel) rfl (by decide +kernel) ⟨rfl,trivial⟩ ⟨λh=>JE h,λh=>JE h,λh=>JE h,λh=>JE h,λ_=>⟨_,rfl⟩,trivial⟩ ⟨⟨rfl,.inl rfl,.inl rfl⟩,trivial⟩) (Ys (G:=G) (pv 9)) (λ_ _ _ _=>Gi (i:=0) (show List.Nodup (["part", "found"]:List Str) by decide +kernel) rfl (Or.inl rfl)) (λ_ _ _ _=>JS (JI (Gk (Zbp K) rfl mIsi Jv (Gb (ZhR (G:=G) (pv 1) (pv 0) (λ_ _=>rfl)) (Gb (OA mTup Jh) Gd))))) (λ_ _ _ _=>pv 0))
    (Gc (JJ PassesOwn.leaving rfl (J3 K (VF (Zn (G:=G) (K:=K) (j:=9) (x:=Str.ofString "part") (y:=Str.ofString "found") (cc:=s.heap.objs.size+1) (qual:=Str.ofString "laid_down.<locals>.<lambda>") (params:={ posonlyargs:=[],args:=[{ arg := "part", annotation:=none,pos:=⟨42,42,42,46⟩:PySem.Arg }],vararg:=none,kwonlyargs:=[],kw_defaults:=[],kwarg:=none,defaults:=[]:PySem.Arguments }) (pm:=(mg "__name__").getD .none) (scope:={ kind:=PySem.ScopeKind.function,names:=[(PySem.Str.ofString "part", PySem.NameKind.local),(PySem.Str.ofString "found", PySem.NameKind.free)],isGenerator:=false,isCoroutine:=false,more:=[]:PySem.Scope }) (p1:=⟨42,48,42,53⟩) (p2:=⟨42,54,42,58⟩) (p5:=⟨42,48,42,59⟩) (p6:=⟨42,60,42,61⟩) (p7:=⟨42,48,42,62⟩) (d2:=0) rfl jZ hu80 rfl (Or.inr (Or.inl rfl)) rfl rfl rfl rfl rfl (λ_ _ _=>rfl) rfl rfl (by decide +kernel) (by decide) (by decide) (by decide)) rfl mSor Yfh (Gb (pv 5) Gd) (VO (ZcP (qual:=Str.ofString "laid_down.<locals>.<lambda>") (clos:=[(Str.ofString "found", s.heap.objs.size+1)]) rfl rfl hC hBl rfl) (VO ON ZcA)))) (Gi (i:=4) scLdn.nd rfl (Or.inl rfl))
    (Gc (Vl (O9 (G:=G) hu71 (pv 9) (pv 4) (λ_ _=>rfl)) (Zbq K (n:=3) rfl (Gq (Gi (i:=6) scLdn.nd rfl (Or.inl rfl)) (Gq (Gi (i:=7) scLdn.nd rfl (Or.inl rfl)) (Gq (Gi (i:=8) scLdn.nd rfl (Or.inl rfl)) JX)))))
    (Gg (XN (G:=G) hu71 (pv 3) (pv 4) (Zdf (pv 2) TS.cl mPut GPut (hr.mono (by lia)) bPut .nil Zdq (Gb (pv 6) (Gb (O9 (G:=G) hu71 (pv 3) (pv 7) (λ_ _=>rfl)) (Gb (O9 (G:=G) hu71 (pv 3) (pv 8) (λ_ _=>rfl)) Gd)))) rfl))))
    (Gg (Gr (O9 (G:=G) hu71 (pv 3) (pv 0) (λ_ _=>rfl)))))))),?_⟩
  refine ⟨_,rfl,_,rfl,(λb' s' e hb'=>?_),b,st,U,rfl,hb,hU,by lia,λfo kvs H1 s1 hfo ef F1 al1 hkl=>?_⟩
  ·have e1:b=b':=by
    have:=Ybc (·[0]?) e;exact V.ref.inj (Ybl this)
   rw [inj hb' (e1▸hb)];exact hst
  have ld1:LD tb H1:=ld.same s1;have S1:=S0.same s1;have rc1:∀q∈kvs,Rc pf st q.1:=F1.rc;dsimp only [GX];intro nu hnu;have nfn:fo≠nu:=Gh ef hnu;have ef2:upd H1 nu (gd G nu ([]:GKv κ)) fo=some (gd G fo kvs):=Gj ef nfn;have en2:upd H1 nu (gd G nu ([]:GKv κ)) nu=some (gd G nu ([]:GKv κ)):=Ga;have s2:Same H1 (upd H1 nu (gd G nu ([]:GKv κ))):=Same.new hnu;dsimp only [GX];change Zeo _ _ _ _ (upd H1 nu (gd G nu ([]:GKv κ)));generalize upd H1 nu (gd G nu ([]:GKv κ))=H2 at ef2 en2 s2 ⊢;have gK:∀{H':Hp},(∀a u,a≠fo->H1 a=some u->H' a=some u)->∀a ys,H1 a=some (.tup ys)->H' a=some (.tup ys):=λk a ys e=>k a _ (Jd e ef (λz=>by cases z)) e;have gG:∀{H':Hp}{o:Obj}{q:κ×Addr×V},(∀a u,a≠fo->H1 a=some u->H' a=some u)->H' fo=some (.frz o (gd G fo kvs))->q∈kvs->Zj G H' fo (.ref q.2.1) (some q.2.2):=λ{H' o q} k e hq=>⟨kvs,q.1,q.2.1,.inr ⟨o,e⟩,F1.ks.keep (gK k),rfl,G.keep (F1.ks q hq) (gK k),(Za4 F1.nd (b:=q.2.1) (v:=q.2.2) hq).symm⟩;refine Gy (λσ' H'=>∃(o:Obj)(nvs:GKv κ)(v4:Option V),σ'=[some (.ref b),some (.ref fP),some (.ref p),some (.ref nu),v4,none,none,none,none,some (.ref fo)]/\(∀a u,a≠fo->H1 a=some u->H' a=some u)/\H' fo=some (.frz o (gd G fo kvs))/\H' nu=some (gd G nu nvs)/\NV G pf ts0 (λk=>UN (pf k)=false) kvs H' nvs) ?s1 ?f1
  case f1=>
   intro hk;refine ⟨_,rfl,fo,kvs,rfl,.inl ⟨ef2,λo=>?_⟩⟩;refine Za0 (G:=G) (a:=fo) (o:=o) (kvs:=kvs) (λi σ' H'=>∃(nvs:GKv κ)(v4:Option V),σ'=[some (.ref b),some (.ref fP),some (.ref p),some (.ref nu),v4,none,none,none,none,some (.ref fo)]/\(∀a u,a≠fo->H1 a=some u->H' a=some u)/\H' fo=some (.frz o (gd G fo kvs))/\H' nu=some (gd G nu nvs)/\NV G pf ts0 (λk=>k∈(kvs.take i).map (·.1)/\UN (pf k)=false) kvs H' nvs)
    ⟨[],none,rfl,λa u n e=>Gj (s2 _ _ e) n,Ga,Gj en2 (Ne.symm nfn),⟨λq hq=>(by cases hq),Yea,λq hq=>(by cases hq),λq hq=>(by cases hq),λq hq d=>by have:=d.1;simp at this⟩⟩ (λi σ' H' _ ⟨_,_,_,_,e,_⟩=>e) ?_ ?_
   ·rintro i k bk v σ' H3 hki ⟨nvs,v4,rfl,k3,ef3,en3,N⟩;have hm:(k,bk,v)∈kvs:=Yax hki;have hil:i<kvs.length:=(Yao.mp hki).1;have gg:Zj G H3 fo (.ref bk) (some v):=gG k3 ef3 hm;have pv:=(F1.pv _ hm).keep (gK k3);have tk:(kvs.take (i+1)).map (·.1)=(kvs.take i).map (·.1)++[k]:=by
     rw [Ybz,hki,Yap]
     rfl
    dsimp only [GX];cases hp:pf k with
    | leaf n=>
     dsimp only at pv;rw [hp] at pv;obtain rfl:v=.int n:=pv;refine ⟨_,rfl,_,rfl,fo,_,rfl,gg,_,_,true,rfl,⟨_,rfl,OQ ?_⟩,.inl ⟨_,.int _,rfl,JD⟩⟩;have hnd:¬ (k∈(kvs.take i).map (·.1)/\UN (pf k)=false):=λz=>by
      have hz:=F1.nd;rw [<-Ydb (i+1) kvs,Yap,tk] at hz;exact (Ycf.mp (Ycf.mp hz).1).2.2 k z.1 k (by simp) rfl
     have hl:=N.len;refine ⟨_,rfl,_,rfl,fo,_,rfl,gg,_,rfl,_,rfl,nu,bk,nvs,k,rfl,rfl,en3,N.ks,G.keep (F1.ks _ hm) (gK k3),N.none hnd,by lia,?_⟩;have t4:∀a ys,H3 a=some (.tup ys)->upd H3 nu (gd G nu (nvs++[(k,bk,.int n)])) a=some (.tup ys):=λa ys e=>Gj e (Jd e en3 (λz=>by cases z));refine ⟨_,_,rfl,λa u n e=>Gj (k3 a u n e) (λz=>by rw [z,hnu] at e;cases e),Gj ef3 nfn,Ga,?_⟩;refine ((N.snoc (G.keep (F1.ks _ hm) (gK k3)) hnd (Yaj.mpr ⟨_,hm,rfl⟩) (NumOk.leaf hp (PO.lf k n (rc1 _ hm) hp))).keep t4).like λx _=>?_;rw [tk,Yag,Yah];constructor
     ·rintro (h | rfl)
      ·exact ⟨.inl h.1,h.2⟩
      ·exact ⟨.inr rfl,by rw [hp];rfl⟩
     ·rintro ⟨h | rfl,h2⟩
      ·exact .inl ⟨h,h2⟩
      ·exact .inr rfl
    | node r lo hi=>
     dsimp only at pv;rw [hp] at pv;obtain ⟨t,bl,bh,rfl,et,_⟩:=pv;refine ⟨_,rfl,_,rfl,fo,_,rfl,gg,_,_,false,rfl,⟨_,rfl,Os ?_⟩,.inl ⟨_,.tup et,rfl,kit2⟩⟩;refine ⟨_,_,rfl,k3,ef3,en3,N.like λx _=>?_⟩;rw [tk,Yag,Yah];constructor
     ·rintro ⟨h,h2⟩;exact ⟨.inl h,h2⟩
     ·rintro ⟨h | rfl,h2⟩
      ·exact ⟨h,h2⟩
      ·rw [hp] at h2;cases h2
   ·rintro σ' H3 ⟨nvs,v4,rfl,k3,ef3,en3,N⟩;refine hk _ _ ⟨o,nvs,v4,rfl,k3,ef3,en3,N.like λx hx=>?_⟩;rw [Ybp];exact ⟨λh=>h.2,λh=>⟨hx,h⟩⟩
  rintro σ' H3 ⟨o,nvs0,v4,rfl,k3,ef3,en3,N0⟩;refine Gy (λσ' H'=>∃(ri:Addr),σ'=[some (.ref b),some (.ref fP),some (.ref p),some (.ref nu),v4,some (.ref ri),none,none,none,some (.ref fo)]/\Same H3 H'/\H3 ri=none/\H' ri=some (.lst ((kvs.filter λq=>UN (pf q.1)).map λq=>V.ref q.2.1))) ?s2 ?f2
  case f2=>
   intro hk;refine ⟨_,rfl,fo,kvs,rfl,.inr ⟨o,ef3,λD hD=>?_⟩⟩;refine Zl (G:=G) (a:=fo) (o:=o) (kvs:=kvs) (λi ys H'=>Same H3 H'/\H' D=some (.lst ys)/\ys=((kvs.take i).filter λq=>UN (pf q.1)).map λq=>V.ref q.2.1) ⟨Same.new hD,Ga,rfl⟩ (λi ys H' _ ⟨s4,_⟩=>s4 _ _ ef3) ?_ ?_
   ·rintro i k bk v ys H4 hki ⟨s4,hD4,rfl⟩;have hm:(k,bk,v)∈kvs:=Yax hki;have k4:∀a u,a≠fo->H1 a=some u->H4 a=some u:=λa u n e=>s4 _ _ (k3 a u n e);have gg:Zj G H4 fo (.ref bk) (some v):=gG k4 (s4 _ _ ef3) hm;have pv:=(F1.pv _ hm).keep (gK k4);rw [Za5 _ hki];refine ⟨⟨rfl,trivial⟩,?_⟩;cases hp:pf k with
    | leaf n=>
     dsimp only at pv;rw [hp] at pv;obtain rfl:v=.int n:=pv;refine ⟨_,rfl,_,rfl,fo,_,rfl,gg,_,_,false,rfl,⟨_,rfl,Os ?_⟩,.inl ⟨_,.int _,rfl,kit⟩⟩;exact ⟨s4,hD4,by simp [hp,UN]⟩
    | node r lo hi=>
     dsimp only at pv;rw [hp] at pv;obtain ⟨t,bl,bh,rfl,et,_⟩:=pv;refine ⟨_,rfl,_,rfl,fo,_,rfl,gg,_,_,true,rfl,⟨_,rfl,OQ ?_⟩,.inl ⟨_,.tup et,rfl,JD⟩⟩;refine ⟨_,rfl,hD4,?_,s4.put hD,Ga,by simp [hp,UN]⟩;rw [Yac];have:=Yes (λq:κ×Addr×V=>UN (pf q.1)) (kvs.take i);rw [Ybm] at this
     lia
   ·rintro ys H4 ⟨s4,hD4,rfl⟩;rw [Ybp] at hD4;exact hk _ _ ⟨D,rfl,s4,hD,hD4⟩
  rintro σ' H4 ⟨ri,rfl,s4,hri,eri⟩;have ef4:=s4 _ _ ef3;have en4:=s4 _ _ en3;have N4:=N0.keep λa ys e=>s4 _ _ e;have k4:∀a u,a≠fo->H1 a=some u->H4 a=some u:=λa u n e=>s4 _ _ (k3 a u n e);have ld4:LD tb H4:=VI ld1 λa u h e=>k4 a u (λz=>by
   rw [z,ef] at e;rcases h with ⟨_,rfl⟩ | ⟨_,rfl⟩ <;> cases e) e
  have S4:ShelfAt C H4 p nl pd (.int M) xs0 ts0 kv0:=⟨S1.ob.elim λdx e=>⟨dx,k4 _ _ (Jd e ef (λz=>by cases z)) e⟩,k4 _ _ (Jd S1.nd ef (λz=>by cases z)) S1.nd,S1.tr.keep (gK k4),k4 _ _ (Jd S1.pl ef (λz=>by cases z)) S1.pl,S1.ok⟩;obtain ⟨psT,eT⟩:=ld4.tbl;refine ⟨_,rfl,ld4,λfl c' ctv H5 sl on hfl efl=>?_⟩;obtain ⟨eT5,oc,eoc,hco⟩:=on;have n5:∀a u,(∀ps,u≠.tbl ps)->H4 a=some u->H5 a=some u:=λa u hu e=>sl a u (λz=>by rw [z,eT] at e;exact hu _ (Ybl e).symm) e;have eri5:=n5 _ _ (λ_ z=>by cases z) eri;have ef5:=n5 _ _ (λ_ z=>by cases z) ef4;have en5:=n5 _ _ (λ_ z=>by cases z) en4;have t5:∀a ys,H4 a=some (.tup ys)->H5 a=some (.tup ys):=λa ys e=>n5 a _ (λ_ z=>by cases z) e;have t15:∀a ys,H1 a=some (.tup ys)->H5 a=some (.tup ys):=λa ys e=>t5 a ys (gK k4 a ys e);have S5:ShelfAt C H5 p nl pd (.int M) xs0 ts0 kv0:=⟨S4.ob.elim λdx e=>⟨dx,n5 _ _ (λ_ z=>by cases z) e⟩,n5 _ _ (λ_ z=>by cases z) S4.nd,S4.tr.keep t5,n5 _ _ (λ_ z=>by cases z) S4.pl,S4.ok⟩;have gT:∀{H':Hp}{q:κ×Addr×V},(∀a ys,H1 a=some (.tup ys)->H' a=some (.tup ys))->H' fo=some (.frz o (gd G fo kvs))->q∈kvs->Zj G H' fo (.ref q.2.1) (some q.2.2):=λ{H' q} k e hq=>⟨kvs,q.1,q.2.1,.inr ⟨o,e⟩,F1.ks.keep k,rfl,G.keep (F1.ks q hq) k,(Za4 F1.nd (b:=q.2.1) (v:=q.2.2) hq).symm⟩;refine ⟨ri,fl,c',fo,oc,ctv,(kvs.filter λq=>UN (pf q.1)).map (λq=>(q.2.1,rdP (pf q.1))),rfl,rfl,SqL.of (by rw [Ycq];exact eri5),efl,eoc,hco,rfl,λu hu=>?_,λl ps hl pm pw=>?_⟩
  ·obtain ⟨q,hq,rfl⟩:=Yaj.mp hu;obtain ⟨hq1,hq2⟩:=Ybt.mp hq;obtain ⟨r,lo,hi,hp⟩:=Vc hq2;have pv:=(F1.pv q hq1).keep t15;rw [hp] at pv;obtain ⟨t,bl,bh,ev,et,_⟩:=pv;exact ⟨t,[.ref bl,.ref bh],ev▸gT t15 ef5 hq1,by rw [hp];exact SqT.of et⟩
  obtain ⟨qs,pq,rfl⟩:=J7 pm;rw [Ybq] at pw;have hqm:∀q,q∈qs↔q∈kvs/\UN (pf q.1)=true:=λq=>by rw [pq.mem_iff,Ybt]
  have hql:qs.length<=kvs.length:=by
   rw [pq.length_eq];exact Yes _ _
  have hqn:(qs.map (·.1)).Nodup:=(pq.map (·.1)).nodup_iff.mpr (F1.nd.sublist (List.filter_sublist.map _));have hqu:qs.length<=Un.length:=by
   have:=Ycj hqn (l₂:=Un) λk hk=>by
    obtain ⟨q,hq,rfl⟩:=Yaj.mp hk;exact hUn _ (rc1 _ ((hqm q).mp hq).1) ((hqm q).mp hq).2
   rwa [Yac] at this
  rw [Ycq];have s6:Same H5 (upd H5 l (.lst (qs.map ((λt:Addr×Int=>V.ref t.1)∘λq:κ×Addr×V=>(q.2.1,rdP (pf q.1)))))):=Same.new hl;have el6:upd H5 l (.lst (qs.map ((λt:Addr×Int=>V.ref t.1)∘λq:κ×Addr×V=>(q.2.1,rdP (pf q.1))))) l=some (.lst (qs.map λq=>V.ref q.2.1)):=Ga;generalize upd H5 l (.lst (qs.map ((λt:Addr×Int=>V.ref t.1)∘λq:κ×Addr×V=>(q.2.1,rdP (pf q.1)))))=H6 at s6 el6 ⊢;have ef6:=s6 _ _ ef5;have en6:=s6 _ _ en5;have S6:=S5.same s6;have N6:NV G pf ts0 (λk=>UN (pf k)=false) kvs H6 nvs0:=N4.keep λa ys e=>s6 _ _ (t5 a ys e);have t16:∀a ys,H1 a=some (.tup ys)->H6 a=some (.tup ys):=λa ys e=>s6 _ _ (t15 a ys e);have ld6:LD tb H6:=LamSt.same (.inr ⟨c',eT5,oc,eoc,hco⟩) s6;have nln:l≠nl:=λz=>by rw [z,S5.nd] at hl;cases hl
  have nlu:l≠nu:=Jd el6 en6 (λz=>by cases z);have nlp:l≠pd:=Jd el6 S6.pl (λz=>by cases z);have nfu:fo≠nu:=nfn;have nfl:fo≠nl:=Jd ef6 S6.nd (λz=>by cases z);have nfp:fo≠pd:=Jd ef6 S6.pl (λz=>by cases z);have nuln:nu≠nl:=Jd en6 S6.nd (λz=>by cases z);have nupd:nu≠pd:=Jd en6 S6.pl (λz=>by cases z);have npu:p≠nu:=S6.ob.elim λdx e=>Jd e en6 (λz=>by cases z);have tup7:∀{H':Hp},(∀a u,a≠nu->a≠nl->a≠pd->H6 a=some u->H' a=some u)->∀a ys,H6 a=some (.tup ys)->H' a=some (.tup ys):=λk a ys e=>k a _ (Jd e en6 (λz=>by cases z)) (Jd e S6.nd (λz=>by cases z)) (Jd e S6.pl (λz=>by cases z)) e;have fin7:∀{H':Hp},(∀a u,a≠nu->a≠nl->a≠pd->H6 a=some u->H' a=some u)->FrD nl pd tb H H'/\LD tb H':=λ{H'} k=>by
   refine ⟨λa u h1 h2 h3 e=>?_,VI ld6 λa u h e=>?_⟩
   ·have e1:=s1 _ _ e;exact k a u (λz=>by rw [z,hnu] at e1;cases e1) h1 h2 (s6 _ _ (sl a u h3 (k4 a u (λz=>by rw [z,hfo] at e;cases e) e1)))
   ·refine k a u (λz=>?_) (λz=>?_) (λz=>?_) e
    ·rw [z,en6] at e;rcases h with ⟨_,rfl⟩ | ⟨_,rfl⟩ <;> cases e
    ·rw [z,S6.nd] at e;rcases h with ⟨_,rfl⟩ | ⟨_,rfl⟩ <;> cases e
    ·rw [z,S6.pl] at e;rcases h with ⟨_,rfl⟩ | ⟨_,rfl⟩ <;> cases e
  refine ⟨l,rfl,⟨_,SqL.of el6⟩,?_⟩;refine Ji (K:=K) (a:=l) (xs:=qs.map λq=>V.ref q.2.1) (λi σ' H'=>∃(nvs:GKv κ)(v4 v6 v7 v8:Option V)(xs:List V)(ts:List Tri)(kd:List (List Key×V)),σ'=[some (.ref b),some (.ref fP),some (.ref p),some (.ref nu),v4,some (.ref ri),v6,v7,v8,some (.ref fo)]/\(∀a u,a≠nu->a≠nl->a≠pd->H6 a=some u->H' a=some u)/\H' nu=some (gd G nu nvs)/\ShelfAt C H' p nl pd (.int M) xs ts kd/\Grw pf st ts0 ts/\ts.length<=ts0.length+i/\NV G pf ts (λk=>UN (pf k)=false\/k∈(qs.take i).map (·.1)) kvs H' nvs)
   ⟨nvs0,_,none,none,none,xs0,ts0,kv0,rfl,λ_ _ _ _ _ e=>e,en6,S6,Grw.refl sh0,Yad _,N6.like λk _=>⟨.inl,λh=>h.resolve_right (by simp)⟩⟩ (λi σ' H' _ ⟨_,_,_,_,_,_,_,_,_,k,_⟩=>SqL.of (k _ _ nlu nln nlp el6)) ?_ ?_
  ·rintro i x σ' H7 hxi ⟨nvs,v4',v6,v7,v8,xs,ts,kd,rfl,k7,en7,S7,D,qW,N⟩;rw [Yaz] at hxi;obtain ⟨⟨k,bk,v⟩,hqi,rfl⟩:=Ybu.mp hxi;have hil:i<qs.length:=(Yao.mp hqi).1;obtain ⟨hm,hnd⟩:=(hqm _).mp (Yax hqi);have t7:∀a ys,H1 a=some (.tup ys)->H7 a=some (.tup ys):=λa ys e=>tup7 k7 a ys (t16 a ys e);have ef7:=k7 _ _ nfu nfl nfp ef6;have gg:Zj G H7 fo (.ref bk) (some v):=gT t7 ef7 hm;have hbk:G.At H7 bk k:=G.keep (F1.ks _ hm) t7;obtain ⟨r,lo,hi,hp⟩:=Vc hnd;dsimp only at hp;have pv:=(F1.pv _ hm).keep t7;dsimp only at pv;rw [hp] at pv;obtain ⟨t,bl,bh,rfl,et,hbl,hbh⟩:=pv;have hk:Rc pf st k:=rc1 _ hm;obtain ⟨h0,ha,hb'⟩:=PO.nd k r lo hi hk hp;have tk:(qs.take (i+1)).map (·.1)=(qs.take i).map (·.1)++[k]:=by
    rw [Ybz,hqi,Yap]
    rfl
   have hnk:¬ (UN (pf k)=false\/k∈(qs.take i).map (·.1)):=by
    rintro (z | z)
    ·rw [hp] at z;cases z
    ·have hz:=hqn;rw [<-Ydb (i+1) qs,Yap,tk] at hz;exact (Ycf.mp (Ycf.mp hz).1).2.2 k z k (by simp) rfl
   have ch:∀y,Rc pf st y->Abv pf y r->∃ca:Int,Ud nvs y=some (.int ca)/\NumOk pf ts y ca:=by
    intro y hy hab;obtain ⟨q',hq',rfl⟩:=Yaj.mp (al1 y hy);refine N.al q' hq' ?_;cases e:UN (pf q'.1) with
    | false=>exact .inl rfl
    | true=>
     obtain ⟨r',a',b',e'⟩:=Vc e;exact .inr (Yaj.mpr ⟨q',Zcm pw hqi ((hqm q').mpr ⟨hq',e⟩) (by dsimp only;rw [hp,e'];exact hab _ _ _ e'),rfl⟩)
   obtain ⟨ca,hva,na⟩:=ch lo (.lo hk hp) ha;obtain ⟨cb,hvb,nb⟩:=ch hi (.hi hk hp) hb';have hNl:=N.len;have step:∀{H8:Hp}{cn:Int}{xs':List V}{ts':List Tri}{kd':List (List Key×V)},(∀a u,a≠nl->a≠pd->H7 a=some u->H8 a=some u)->ShelfAt C H8 p nl pd (.int M) xs' ts' kd'->Grw pf st ts0 ts'->ts'.length<=ts0.length+(i+1)->NV G pf ts' (λk=>UN (pf k)=false\/k∈(qs.take i).map (·.1)) kvs H7 nvs->NumOk pf ts' k cn ->
     H8 nu=some (gd G nu nvs)/\GKeys G H8 nvs/\G.At H8 bk k/\(∀a u,a≠nu->a≠nl->a≠pd->H6 a=some u->upd H8 nu (gd G nu (nvs++[(k,bk,.int cn)])) a=some u)/\ShelfAt C (upd H8 nu (gd G nu (nvs++[(k,bk,.int cn)]))) p nl pd (.int M) xs' ts' kd'/\NV G pf ts' (λk=>UN (pf k)=false\/k∈(qs.take (i+1)).map (·.1)) kvs (upd H8 nu (gd G nu (nvs++[(k,bk,.int cn)]))) (nvs++[(k,bk,.int cn)]):=by
    intro H8 cn xs' ts' kd' k8 S8 D8 l8 N8 nk;have en8:=k8 _ _ nuln nupd en7;have t8:∀a ys,H7 a=some (.tup ys)->H8 a=some (.tup ys):=λa ys e=>k8 a _ (Jd e S7.nd (λz=>by cases z)) (Jd e S7.pl (λz=>by cases z)) e;have t9:∀a ys,H8 a=some (.tup ys)->upd H8 nu (gd G nu (nvs++[(k,bk,.int cn)])) a=some (.tup ys):=λa ys e=>Gj e (Jd e en8 (λz=>by cases z));refine ⟨en8,N8.ks.keep t8,G.keep hbk t8,λa u h1 h2 h3 e=>Gj (k8 a u h2 h3 (k7 a u h1 h2 h3 e)) h1,⟨S8.ob.elim λdx e=>⟨dx,Gj e npu⟩,Gj S8.nd (Ne.symm nuln),S8.tr.keep t9,Gj S8.pl (Ne.symm nupd),S8.ok⟩,?_⟩;refine (((N8.keep t8).snoc (G.keep hbk t8) hnk (Yaj.mpr ⟨_,hm,rfl⟩) nk).keep t9).like λy _=>?_;rw [tk,Yag,Yah];exact or_assoc
   obtain ⟨dx,ob⟩:=S7.ob;dsimp only [GX];refine ⟨_,rfl,_,rfl,fo,_,rfl,gg,t,_,rfl,SqT.of et,rfl,_,_,rfl,_,_,rfl,_,_,rfl,rfl,?_⟩;have nn1:¬ ("put" : Str) = "places" := by decide +kernel
   have nn2:¬ ("put" : Str) = "nodes" := by decide +kernel
   have nn3:¬ ("put" : Str) = "most" := by decide +kernel
   refine ⟨_,rfl,p,dx,_,rfl,ob,ZdW _ _ _ nn1 nn2 nn3,_,rfl,_,rfl,_,rfl,nu,_,rfl,⟨nvs,lo,bl,.inl en7,N.ks,rfl,hbl,hva.symm⟩,_,rfl,_,rfl,nu,_,rfl,⟨nvs,hi,bh,.inl en7,N.ks,rfl,hbh,hvb.symm⟩,?_⟩;refine ⟨p,nl,pd,M,xs,ts,kd,r,ca,cb,rfl,S7,by lia,λhz=>?_,λhz=>⟨λcn H8 hcn s8=>?_,λhni=>⟨λhM H8 sf=>?_,λhM H8 s8=>?_⟩⟩⟩
   ·subst hz;obtain ⟨h1,h2,h3,h4,h5,h6⟩:=step (H8:=H7) (λa u _ _ e=>e) S7 D (by lia) N (NumOk.flat hp ha na nb);exact ⟨_,rfl,_,rfl,nu,bk,nvs,k,rfl,rfl,h1,h2,h3,N.none hnk,by lia,_,_,_,_,_,_,_,_,rfl,h4,Ga,h5,D,by lia,h6⟩
   ·obtain ⟨h1,h2,h3,h4,h5,h6⟩:=step (H8:=H8) (λa u _ _ e=>s8 _ _ e) (S7.same s8) D (by lia) N (NumOk.node hp na nb hcn);exact ⟨_,rfl,_,rfl,nu,bk,nvs,k,rfl,rfl,h1,h2,h3,N.none hnk,by lia,_,_,_,_,_,_,_,_,rfl,h4,Ga,h5,D,by lia,h6⟩
   ·obtain ⟨xs',kd',S8⟩:=sf.at_;obtain ⟨D',nk⟩:=D.snoc hk hp h0 ha hb' na nb hz hni;obtain ⟨h1,h2,h3,h4,h5,h6⟩:=step (H8:=H8) (λa u n1 n2 e=>sf.kp a u n1 n2 e) S8 D' (by rw [Yai,Yat];lia) (N.app D.sh.ok _) nk;exact ⟨_,rfl,_,rfl,nu,bk,nvs,k,rfl,rfl,h1,h2,h3,N.none hnk,by lia,_,_,_,_,_,_,_,_,rfl,h4,Ga,h5,D',by rw [Yai,Yat];lia,h6⟩
   ·obtain ⟨D',nk⟩:=D.snoc hk hp h0 ha hb' na nb hz hni;obtain ⟨f1,f2⟩:=fin7 (H':=H8) λa u h1 h2 h3 e=>s8 _ _ (k7 a u h1 h2 h3 e);exact qe _ H8 f1 f2 D' (by rw [Yai,Yat];lia) (by rw [Yai,Yat];lia)
  ·rintro σ' H7 ⟨nvs,v4',v6,v7,v8,xs,ts,kd,rfl,k7,en7,S7,D,qW,N⟩;rw [Yac] at qW N;rw [Ybp] at N;obtain ⟨f1,f2⟩:=fin7 k7;obtain ⟨q',hq',e'⟩:=Yaj.mp (al1 st .start);have hd:UN (pf q'.1)=false\/q'.1∈qs.map (·.1):=by
    cases e:UN (pf q'.1) with
    | false=>exact .inl rfl
    | true=>exact .inr (Yaj.mpr ⟨q',(hqm q').mpr ⟨hq',e⟩,rfl⟩)
   obtain ⟨cn,hv,hn⟩:=N.al q' hq' hd;rw [e'] at hv hn;refine ⟨_,rfl,_,rfl,nu,_,rfl,⟨nvs,st,b,.inl en7,N.ks,rfl,G.keep (G.keep hb λa ys e=>s1 _ _ e) (λa ys e=>tup7 k7 a ys (t16 a ys e)),hv.symm⟩,?_⟩;exact qq cn xs ts kd H7 f1 f2 S7 D (by lia) hn
end
noncomputable def Hg (ts:List Tri):Prop:=∀r∈ts,r.2.2≠0
theorem Hg.snoc {ts:List Tri}{a b c:Int}(h:Hg ts)(hc:c≠0):Hg (ts++[(a,b,c)]):=λr hr=>by
 rcases Yag.mp hr with h' | h'
 ·exact h r h'
 ·rw [Yah.mp h'];exact hc
section
variable {P:Program}{w:World}{K:W.Frag}{mg:Str->Option Value}{base:Heap}
theorem Yx:bootBuiltins "max" = some (.builtin "max"):=by first | rfl | decide +kernel
theorem OJ {p:Nat}{a:Int}(h:a.natAbs<2 ^ p:=by decide +kernel):Lt2 p a:=h
theorem Zg4 {n:Int}(h:n.natAbs<2 ^ 40):Lt2 9000 n:=Ybk h (Nat.pow_le_pow_right (by decide) (by decide))
theorem ZdX {ns:List Int}{i:Nat}(h:i<ns.length):ns.getD i 0=ns[i]:=by
 rw [Ydj,Yau h]
 rfl
theorem Ws {ns:List Int}{i:Nat}(h:i<ns.length):ns.getD i 0∈ns:=by
 rw [ZdX h];exact List.getElem_mem h
theorem Vd {ns:List Int}{i:Int}(h0:0<=i)(h1:i<ns.length):atI (ns.map V.int) i=some (.int (ns.getD i.toNat 0)):=by
 obtain ⟨k,rfl⟩:=Int.eq_ofNat_of_zero_le h0;have hk:k<ns.length:=by lia
 refine GB ?_;show (ns.map V.int)[k]?=some (.int (ns.getD k 0));rw [Yaz,Ydj,Yau hk]
 rfl
noncomputable def ZdY (K:W.Frag):Sp:=λvs H Q _=>∃(a:Addr)(ns:List Int)(k:Nat),vs=[.ref a,.int (k:Int)]/\SqL K H a (ns.map V.int)/\∀z:Int,Q (.int z) H
theorem Zg5:Gp ["script", "k"] ["script", "k"] (Gf Ze7):=⟨rfl,rfl,rfl,by decide +kernel,rfl,by decide +kernel,by decide +kernel⟩
theorem Zfl {f:Addr}{fd:FuncData}(F:Fun K "_law_cell_at" "_law_cell_at" Ze7 f fd)(mLen:mg "len" = none):G4 P w K mg base CX0 1 f fd ["script", "k"] (ZdY K):=by
 refine F.ok Zg5 (λvs H Q E h=>?_) (λcdv A outer s H vs Q E hr h=>?_)
 ·obtain ⟨_,_,_,rfl,_⟩:=h
  rfl
 ·obtain ⟨a,ns,k,rfl,hS,q⟩:=h;refine ⟨_,Gc (Jf (Gv Zc9 (pv 1) (Gk (Xj K) rfl mLen Ycg (Gb (pv 0) Gd)) (Gz _)) (Gg (Gr (GV (Vg K) (pv 0) (pv 1) (λ_ _=>rfl)))) Gu)
    (Gg (Gr Ge)),?_⟩
  refine ⟨_,rfl,_,rfl,a,_,rfl,.inl hS,_,_,rfl,rfl,_,rfl,?_⟩;rw [Yac];refine Vf (λz=>?_) (λ_=>q 0);have z':=Ybw z;exact ⟨_,rfl,_,rfl,a,_,_,_,rfl,rfl,hS,Vd (by lia) z',q _⟩
noncomputable def Zfm:Sp:=λvs H Q _=>∃(cl:Addr)(cs:List Int)(road:Int),vs=[.ref cl,.int road]/\H cl=some (.lst (cs.map V.int))/\cs.length<=60/\0<=road/\road<30 /\
 ∀(l:Addr)(xs:List V)(ts:List Tri)(H':Hp),Same H H'->H l=none->H' l=some (.lst xs)->Trs H' xs ts->TabOk ts->Bk ts->Hg ts->ts.length=cs.length->Q (.ref l) H'
theorem scRaw:Gp ["cells", "road", "nodes", "steps", "cell", "free", "many", "low", "high"] ["cells", "road"] (Gf Zgl):=⟨rfl,rfl,rfl,by decide +kernel,rfl,by decide +kernel,by decide +kernel⟩
theorem Zfn {f:Addr}{fd:FuncData}(F:Fun K "_law_raw" "_law_raw" Zgl f fd)(mRange:mg "range" = none)(mLen:mg "len" = none)(mMax:mg "max" = none):G4 P w K mg base CX0 1 f fd ["cells", "road"] Zfm:=by
 refine F.ok scRaw (λvs H Q E h=>?_) (λcdv A outer s H vs Q E hr h=>?_)
 ·obtain ⟨_,_,_,rfl,_⟩:=h
  rfl
 ·obtain ⟨cl,cs,road,rfl,ecl,hcs,hr0,hr1,q⟩:=h;have h16:=Ybf.symm;refine ⟨_,Gc (Gn (i:=2) scRaw.nd rfl (Or.inr rfl) (GH Gd))
    (Gc (Gn (i:=3) scRaw.nd rfl (Or.inl rfl) (Jz (Gb Ge (Gb Ge (Gb Ge (Gb Ge (Gb Ge (Gb Ge Gd))))))))
    (Gc (Jf (Gv Zbx (Gk (Xj K) rfl mLen Ycg (Gb (pv 0) Gd)) Ge (Gz _)) (Gg (Gn (i:=3) scRaw.nd rfl (Or.inl rfl) (Jz (Gb Ge (Gb Ge (Gb Ge (Gb Ge (Gb Ge (Gb Ge (Gb Ge (Gb Ge (Gb Ge (Gb Ge Gd))))))))))))) Gu)
    (Gc (JJ Ych rfl (J3 K (pv 0)) (Gi (i:=4) scRaw.nd rfl (Or.inl rfl))
    (Gc (Gn (i:=1) scRaw.nd rfl (Or.inr rfl) (Gk (WA rfl) rfl mMax Yx (Gb Ge (Gb (Gs JQ (pv 1) (GV (WL K) (pv 3) (Gs Oe (pv 4) (Gk (Xj K) rfl mLen Ycg (Gb (pv 3) Gd))) (λ_ _=>rfl))) Gd))))
    (Gc (Gn (i:=5) scRaw.nd rfl (Or.inl rfl) (Gs Of (GH (Gb Ge (Gb Ge Gd))) (Jl (own:=["k"]) rfl (Gw (fr:=[("road", 1),("nodes", 2)]) [(".0", .local),("k", .local),("nodes", .cell),("road", .cell)] rfl rfl (by decide +kernel) rfl (by decide +kernel) ⟨rfl,rfl,trivial⟩ ⟨λh=>JE h,λh=>JE h,λ_=>⟨_,rfl⟩,λ_=>⟨_,rfl⟩,trivial⟩ ⟨⟨rfl,.inl rfl,.inl rfl⟩,⟨rfl,.inl rfl,.inl rfl⟩,trivial⟩) (UT rfl mRange (Gb (Gk (Xj K) rfl mLen Ycg (Gb (pv 2) Gd)) Gd)) (λ_ _ _ _=>Gi (i:=0) (show List.Nodup (["k", "road", "nodes"]:List Str) by decide +kernel) rfl (Or.inl rfl)) (λ_ _ _ _=>JS (Gv Zbx (GV (WL K) (GV (Vg K) (pv 2) (pv 0) (λ_ _=>rfl)) Ge (λ_ _=>rfl)) (pv 1) (Gz _))) (λ_ _ _ _=>Gs Jy (pv 0) Ge))))
    (Gc (Gn (i:=6) scRaw.nd rfl (Or.inl rfl) (Gk (Xj K) rfl mLen Ycg (Gb (pv 5) Gd)))
    (Gc (Gn (i:=7) scRaw.nd rfl (Or.inl rfl) (GV (Vg K) (pv 5) (Gs JQ (Gs JQ (pv 6) Ge) (Gs Oe (Gs JU (pv 4) Ge) (pv 6))) (λ_ _=>rfl)))
    (Gc (Gn (i:=8) scRaw.nd rfl (Or.inl rfl) (GV (Vg K) (pv 5) (Gs JQ (Gs JQ (pv 6) Ge) (Gs Oe (Gs JU (Gs JU (pv 4) Ge) (pv 6)) (Gs JQ (pv 6) Ge))) (λ_ _=>rfl)))
    (Gg (Jt (Ug Ycr Ydk Ydl GY (pv 2) (Gb (Jz (Gb (pv 1) (Gb (pv 7) (Gb (pv 8) Gd)))) Gd))))))))))
    (Gg (Gr (pv 2)))))),?_⟩
  refine ⟨Yar _,λl hl=>?_⟩;have s1:Same H (upd H l (.lst [])):=Same.new hl;have el0:upd H l (.lst []) l=some (.lst []):=Ga;generalize upd H l (.lst [])=H1 at s1 el0 ⊢;refine ⟨(by show 6<=sizeLine;decide),λst hst=>?_⟩;have s2:Same H1 (upd H1 st (.tup [.int 0,.int 1,.int 1,.int 2,.int 1,.int 7])):=Same.new hst;have est:upd H1 st (.tup [.int 0,.int 1,.int 1,.int 2,.int 1,.int 7]) st=some (.tup (([0,1,1,2,1,7]:List Int).map V.int)):=Ga;generalize upd H1 st (.tup [.int 0,.int 1,.int 1,.int 2,.int 1,.int 7])=H2 at s2 est ⊢;dsimp only [GX];refine Gy (λσ' H'=>∃(st:Addr)(ss:List Int),σ'=[some (.ref cl),some (.int road),some (.ref l),some (.ref st),none,none,none,none,none]/\Same H1 H'/\H' st=some (.tup (ss.map V.int))/\0<ss.length/\ss.length<=10/\∀x∈ss,0<=x) ?snd ?fst
  case fst=>
   intro hk;refine ⟨_,rfl,cl,_,rfl,.inl (SqL.of (s2 _ _ (s1 _ _ ecl))),_,_,rfl,rfl,_,rfl,Vf (λ_=>?_) (λ_=>?_)⟩
   ·refine ⟨(by show 10<=sizeLine;decide),λst2 hst2=>?_⟩;exact hk _ _ ⟨st2,[0,0,0,1,0,0,1,0,0,4],rfl,s2.put (s2.free hst2),Ga,by decide,by decide,by decide⟩
   ·exact hk _ _ ⟨st,[0,1,1,2,1,7],rfl,s2,est,by decide,by decide,by decide⟩
  case snd=>
   clear est s2 hst;rintro σ' H2 ⟨st,ss,rfl,s2,est,ss0,ss1,ssp⟩;refine ⟨_,rfl,cl,rfl,⟨_,SqL.of (s2 _ _ (s1 _ _ ecl))⟩,?_⟩;have hlst:st≠l:=λz=>by rw [z,s2 _ _ el0] at est;cases est
   refine Ji (K:=K) (a:=cl) (xs:=cs.map V.int) (λi σ H3=>∃(rd:Int)(xs:List V)(ts:List Tri)(v4 v5 v6 v7 v8:Option V),σ=[some (.ref cl),some (.int rd),some (.ref l),some (.ref st),v4,v5,v6,v7,v8]/\Same H H3/\H3 l=some (.lst xs)/\Trs H3 xs ts/\TabOk ts/\Bk ts/\Hg ts/\ts.length=i/\(0<=rd/\rd<30)/\H3 st=some (.tup (ss.map V.int)))
    ⟨road,[],[],none,none,none,none,none,rfl,s1.trans s2,s2 _ _ el0,.nil,TabOk.nil,λi r h=>(by simp at h),λr h=>(by cases h),rfl,⟨hr0,hr1⟩,est⟩ (λi σ H3 _ ⟨_,_,_,_,_,_,_,_,_,s3,_⟩=>SqL.of (s3 _ _ ecl)) ?_ ?_
   ·rintro i x σ H3 hxi ⟨rd,xs,ts,v4,v5,v6,v7,v8,rfl,s3,el,tr,T,bk,hg,hti,hrd,est3⟩;obtain ⟨z,rfl,hz⟩:=JG hxi;have hi:i<cs.length:=(Yao.mp hz).1;have hxl:=tr.len;dsimp only [GX];refine Gy (λσ' H'=>∃rd:Int,σ'=[some (.ref cl),some (.int rd),some (.ref l),some (.ref st),some (.int z),v5,v6,v7,v8]/\H'=H3/\0<=rd/\rd<30) ?rs ?rf
    case rf=>
     intro hk;have hmod0:0<=z % (ss.length:Int):=Ydp _ (by lia);have hmod1:z % (ss.length:Int)<(ss.length:Int):=Ydq _ (by lia);refine ⟨_,rfl,_,rfl,_,rfl,_,rfl,st,_,rfl,.inr (SqT.of est3),_,_,rfl,rfl,(by show (0:Int)<((ss.map V.int).length:Int);rw [Yac];lia),st,_,_,_,rfl,rfl,SqT.of est3,(by rw [Yac];exact Vd hmod0 hmod1),_,_,rfl,rfl,_,_,rfl,?_⟩;refine hk _ _ ⟨_,rfl,rfl,?_⟩;have hp:=ssp _ (Ws (ns:=ss) (i:=(z % (ss.length:Int)).toNat) (by lia));split <;> lia
    case rs=>
     clear hrd;rintro σ' H' ⟨rd,rfl,rfl,hrd0,hrd1⟩;refine ⟨UA,λp hp=>?_⟩;have s4:Same H' (upd H' p (.lst [.int 0,.int 1])):=Same.new hp;have ep:upd H' p (.lst [.int 0,.int 1]) p=some (.lst [.int 0,.int 1]):=Ga;generalize upd H' p (.lst [.int 0,.int 1])=H4 at s4 ep ⊢;refine ⟨_,rfl,l,xs,rfl,.inl (SqL.of (s4 _ _ el)),_,rfl,by lia,by lia,λD hD=>?_⟩;rw [Yef];refine Vr (lo:=0) (n:=xs.length) (λj ys H5=>Same H4 H5/\H5 D=some (.lst ys)/\∃fs:List Int,ys=fs.map V.int/\fs.length<=j/\(∀x∈fs,At ts x rd)/\∀x∈fs,x≠0) ⟨Same.new hD,Ga,[],rfl,Yad _,λx hx=>(by cases hx),λx hx=>(by cases hx)⟩ ?_ ?_
     ·rintro j ys H5 hj ⟨s5,eD,fs,rfl,fl,fa,fz⟩;rw [show (0:Int)+(j:Int)=(j:Int) by lia];have tr5:=(tr.same s4).same s5;have hjt:j<ts.length:=by lia
      obtain ⟨t,et1,et2⟩:=tr5.at (Yau hjt);refine ⟨⟨rfl,rfl,trivial⟩,?_⟩;refine ⟨_,rfl,_,rfl,l,_,_,_,rfl,rfl,SqL.of (s5 _ _ (s4 _ _ el)),GB et1,t,_,_,_,rfl,rfl,SqT.of et2,GB (j:=0) rfl,_,rfl,_,_,rfl,rfl,_,rfl,Vf (λc1=>?_) (λ_=>⟨s5,eD,fs,rfl,by lia,fa,fz⟩)⟩;have c1':rd<ts[j].1:=Ybw c1;have fz2:∀x∈fs++[(j:Int)+2],x≠0:=λx hx=>by
       rcases Yag.mp hx with h | h
       ·exact fz x h
       ·rw [Yah.mp h]
        lia
      refine ⟨_,rfl,_,_,rfl,rfl,eD,by rw [Yac];lia,s5.put hD,Ga,fs++[(j:Int)+2],by rw [Yap];rfl,by rw [Yai,Yat];lia,λx hx=>?_,fz2⟩;rcases Yag.mp hx with h | h
      ·exact fa x h
      ·rw [Yah] at h;subst h;refine .inr (.inr ⟨ts[j],⟨by lia,?_⟩,c1'⟩);rw [show ((j:Int)+2-2).toNat=j by lia];exact Yau hjt
     ·rintro ys H5 ⟨s5,eD,fs,rfl,fl,fa,fz⟩;refine ⟨p,D,_,_,rfl,rfl,s5 _ _ ep,eD,by rw [Yac];show 2+_<=_;lia,λpn hpn=>?_⟩;have S5:=s4.trans s5;have s6:=S5.put (o:=.lst ([.int 0,.int 1]++fs.map V.int)) (S5.free hpn);have epn:upd H5 pn (.lst ([.int 0,.int 1]++fs.map V.int)) pn=some (.lst ((0::1::fs).map V.int)):=Ga;generalize upd H5 pn (.lst ([.int 0,.int 1]++fs.map V.int))=H6 at s6 epn ⊢;have hfa:∀x∈(0::1::fs:List Int),At ts x rd:=λx hx=>by
       rcases Yas.mp hx with h | h
       ·exact .inl h
       rcases Yas.mp h with h | h
       ·exact .inr (.inl h)
       ·exact fa x h
      have hfl:(0::1::fs:List Int).length=fs.length+2:=rfl;have hfz:∀k,0<k->k<(0::1::fs:List Int).length->(0::1::fs:List Int).getD k 0≠0:=λk h1 h2=>by
       match k,h1 with
       | 1,_=>simp
       | k+2,_=>
        have hk:k<fs.length:=by simpa using h2
        have:=fz _ (List.getElem_mem hk);simpa [Ydj,hk] using this
      generalize (0::1::fs:List Int)=gs at epn hfa hfl hfz ⊢;dsimp only [GX];refine Gy (λσ' H7=>∃N:Nat,σ'=[some (.ref cl),some (.int rd),some (.ref l),some (.ref st),some (.int z),some (.ref pn),some (.int (N:Int)),v7,v8]/\H7=H6/\N=gs.length) ?ms ?mf
      case mf=>
       intro hk;refine ⟨_,rfl,pn,_,rfl,.inl (SqL.of epn),?_⟩;exact hk _ _ ⟨_,rfl,rfl,Yac _⟩
      case ms=>
       rintro σ' H7 ⟨N,rfl,rfl,hN⟩;have m0:0<=z / 10 % (N:Int):=Ydp _ (by lia);have m1:z / 10 % (N:Int)<(N:Int):=Ydq _ (by lia);refine ⟨_,rfl,_,rfl,_,_,rfl,rfl,_,rfl,_,_,rfl,rfl,⟨by decide,OJ⟩,_,rfl,_,_,rfl,rfl,(by show (0:Int)<(N:Int);lia),_,_,rfl,rfl,pn,_,_,_,rfl,rfl,SqL.of epn,Vd (by lia) (by lia),?_⟩;have n0:0<=z / 10 / (N:Int) % ((N:Int)-1):=Ydp _ (by lia);have n1:z / 10 / (N:Int) % ((N:Int)-1)<(N:Int)-1:=Ydq _ (by lia);refine ⟨_,rfl,_,rfl,_,_,rfl,rfl,_,rfl,_,_,rfl,rfl,⟨by decide,OJ⟩,_,rfl,_,_,rfl,rfl,⟨(by show (0:Int)<(N:Int);lia),Zg4 (by lia)⟩,_,rfl,_,_,rfl,rfl,_,_,rfl,rfl,(by show (0:Int)<(N:Int)-1;lia),_,_,rfl,rfl,pn,_,_,_,rfl,rfl,SqL.of epn,Vd (by lia) (by lia),?_⟩;have a1:=hfa _ (Ws (ns:=gs) (i:=((N:Int)-1-z / 10 % (N:Int)).toNat) (by lia));have a2:=hfa _ (Ws (ns:=gs) (i:=((N:Int)-1-z / 10 / (N:Int) % ((N:Int)-1)).toNat) (by lia));have z2:=hfz ((N:Int)-1-z / 10 / (N:Int) % ((N:Int)-1)).toNat (by lia) (by lia);generalize gs.getD ((N:Int)-1-z / 10 % (N:Int)).toNat 0=low at a1 ⊢;generalize gs.getD ((N:Int)-1-z / 10 / (N:Int) % ((N:Int)-1)).toNat 0=high at a2 z2 ⊢;refine ⟨_,rfl,.inl ⟨rfl,_,SqL.of (s6 _ _ el)⟩,_,rfl,_,rfl,_,rfl,(by show 3<=sizeLine;decide),λt ht=>?_⟩;have s7:=s6.put (o:=.tup [.int rd,.int low,.int high]) (s6.free ht);have et:upd H7 t (.tup [.int rd,.int low,.int high]) t=some (.tup [.int rd,.int low,.int high]):=Ga;generalize upd H7 t (.tup [.int rd,.int low,.int high])=H8 at s7 et ⊢;refine ⟨l,xs,_,rfl,rfl,s7 _ _ el,by lia,?_⟩;have k8:=G6 (o:=.lst (xs++[.ref t])) (s7 _ _ el);refine ⟨rd,xs++[.ref t],ts++[(rd,low,high)],_,_,_,_,_,rfl,((s3.trans s7).put hl),Ga,?_,T.snoc ⟨hrd0,hrd1⟩ a1 a2,bk.snoc a1.lt.2 a2.lt.2,hg.snoc z2,by rw [Yai,Yat,hti],⟨hrd0,hrd1⟩,k8 _ _ (s7 _ _ est3)⟩;exact ((tr.same s7).keep k8).snoc (k8 _ _ et)
   ·rintro σ H3 ⟨rd,xs,ts,v4,v5,v6,v7,v8,rfl,s3,el,tr,T,bk,hg,hti,hrd,est3⟩;rw [Yac] at hti;exact ⟨_,rfl,q l xs ts H3 s3 hl el tr T bk hg hti⟩
theorem Za6 {H:Hp}{l:Addr}{zs:List (Key×V)}{o:HO}(h:H l=some (.dK zs)):∀p ys,H p=some (.tup ys)->upd H l o p=some (.tup ys):=λp ys e=>Gj e (Jd e h (λz=>by cases z))
theorem ZdZ {H:Hp}{l:Addr}{zs:List (List Key×V)}{o:HO}(h:H l=some (.dT zs)):∀p ys,H p=some (.tup ys)->upd H l o p=some (.tup ys):=λp ys e=>Gj e (Jd e h (λz=>by cases z))
noncomputable def Zd0 (H:Hp)(ks:List Tri)(root:Int)(Q:VK):Prop:=∀(p l:Addr)(a0:Int)(xs:List V)(us:List Tri)(fs:List Int)(H':Hp),Same H H'->H p=none->H l=none->TabAt H' p l a0 xs us->Rch ks root fs->Fin ks root fs->fs.Nodup->(∀x∈fs,∃r,Nd ks x r)->Said ks fs us fs.length->us.length=fs.length->fs.length<=ks.length->Jb fs root=some a0->Q (.ref p) H'
noncomputable def Zfo:Sp:=λvs H Q _=>∃(l:Addr)(root:Int)(xs:List V)(ks:List Tri),vs=[.int root,.ref l]/\H l=some (.lst xs)/\Trs H xs ks/\TabOk ks/\ks.length<=70/\At ks root (-1)/\Zd0 H ks root Q
theorem scIno:Gp ["root", "nodes", "found", "numbers", "k", "one", "said", "road", "low", "high"] ["root", "nodes"] (Gf Zee):=⟨rfl,rfl,rfl,by decide +kernel,rfl,by decide +kernel,by decide +kernel⟩
theorem Zhu (n:Int):JL (GG [] [(Sum.inl 0,.int 0),(Sum.inl 1,.int 1)]:List (Key×V)) (.inl n)=(Jb [] n).map V.int:=by
 show JL (JV (JV [] (Sum.inl 0) (.int 0)) (Sum.inl 1) (.int 1):List (Key×V)) (.inl n)=_;rw [G3,G3];unfold Jb;by_cases h1:n=1
 ·subst h1
  rfl
 ·rw [if_neg (λz=>h1 (Yec z))];by_cases h0:n=0
  ·subst h0
   rfl
  ·rw [if_neg (λz=>h0 (Yec z)),if_neg h0,if_neg h1]
   rfl
theorem Zfp {f:Addr}{fd:FuncData}(F:Fun K "_law_in_order" "_law_in_order" Zee f fd)(mLen:mg "len" = none):G4 P w K mg base CX0 1 f fd ["root", "nodes"] Zfo:=by
 refine F.ok scIno (λvs H Q E h=>?_) (λcdv A outer s H vs Q E hr h=>?_)
 ·obtain ⟨_,_,_,_,rfl,_⟩:=h
  rfl
 ·obtain ⟨l,root,xs,ks,rfl,el,tr,T,hks,ar,q⟩:=h;have h16:=Ybf.symm;have hu1:(A.deeper (PyProof.Rows.envOfC "_law_in_order" (Gf Zee) s.heap.objs.size f cdv)).units+1<cLine:=by have:=hr.un;lia
  refine ⟨_,Gc (Gn (i:=2) scIno.nd rfl (Or.inl rfl) (GH Gd))
    (Gc (Gn (i:=3) scIno.nd rfl (Or.inl rfl) (U1 (Jw Ge Ge (Jw Ge Ge U0)) rfl rfl (by decide) (by decide)))
    (Gc (Jf (Gv Zbx (pv 0) Ge (Gz _)) (Gc (Jt (Ug Ycr Ydk Ydl GY (pv 2) (Gb (pv 0) Gd)))
    (Gg (Og hu1 (pv 3) (pv 0) Ge rfl))) Gu)
    (Gc (Gn (i:=4) scIno.nd rfl (Or.inl rfl) Ge)
    (Gc (VM Ych (Gv Zc9 (pv 4) (Gk (Xj K) rfl mLen Ycg (Gb (pv 2) Gd)) (Gz _))
    (Gc (JJ Ych rfl (Zan K (GQ (ZgS K) (GV (Vg K) (pv 1) (Gs JQ (GV (Vg K) (pv 2) (pv 4) (λ_ _=>rfl)) Ge) (λ_ _=>rfl)) (G5 Ge) Jk)) (Gi (i:=5) scIno.nd rfl (Or.inl rfl))
    (Gg (Jf (Wy (OR hu1 (pv 5) (pv 3)) rfl) (Gc (Jt (Ug Ycr Ydk Ydl GY (pv 2) (Gb (pv 5) Gd)))
    (Gg (Og hu1 (pv 3) (pv 5) (Gs Jy (Gk (Xj K) rfl mLen Ycg (Gb (pv 2) Gd)) Ge) rfl))) Gu)))
    (Gg (Gn (i:=4) scIno.nd rfl (Or.inl rfl) (Gs Jy (pv 4) Ge)))))
    (Gc (Gn (i:=6) scIno.nd rfl (Or.inl rfl) (GH Gd))
    (Gc (JJ Ych rfl (J3 K (pv 2)) (Gi (i:=5) scIno.nd rfl (Or.inl rfl))
    (Gc (Vl (GV (Vg K) (pv 1) (Gs JQ (pv 5) Ge) (λ_ _=>rfl)) (Zbq K (n:=3) rfl (Gq (Gi (i:=7) scIno.nd rfl (Or.inl rfl)) (Gq (Gi (i:=8) scIno.nd rfl (Or.inl rfl)) (Gq (Gi (i:=9) scIno.nd rfl (Or.inl rfl)) JX)))))
    (Gg (Jt (Ug Ycr Ydk Ydl GY (pv 6) (Gb (Jz (Gb (pv 7) (Gb (Jq hu1 (pv 3) (pv 8) (λ_ _=>rfl)) (Gb (Jq hu1 (pv 3) (pv 9) (λ_ _=>rfl)) Gd)))) Gd))))))
    (Gg (Gr (Jz (Gb (Jq hu1 (pv 3) (pv 0) (λ_ _=>rfl)) (Gb (pv 6) Gd))))))))))),?_⟩
  refine ⟨Yar _,λfl hfl=>?_⟩;have s1:Same H (upd H fl (.lst [])):=Same.new hfl;have efl:upd H fl (.lst []) fl=some (.lst []):=Ga;generalize upd H fl (.lst [])=H1 at s1 efl ⊢;intro d hd;refine ⟨Ga,[(.inl 0,.int 0),(.inl 1,.int 1)],rfl,by decide,?_⟩;have s2:Same H1 (upd (upd H1 d (.dK [])) d (.dK (GG [] [(.inl 0,.int 0),(.inl 1,.int 1)]))):=(Same.new hd).put hd;have ed:upd (upd H1 d (.dK [])) d (.dK (GG [] [(.inl 0,.int 0),(.inl 1,.int 1)])) d=some (.dK (GG [] [(.inl 0,.int 0),(.inl 1,.int 1)])):=Ga;generalize upd (upd H1 d (.dK [])) d (.dK (GG [] [(.inl 0,.int 0),(.inl 1,.int 1)]))=H2 at s2 ed ⊢;have hHd:H d=none:=s1.free hd;have hfd:fl≠d:=Gh efl hd;have F0:Fnd ks root [] (GG [] [(Sum.inl 0,.int 0),(Sum.inl 1,.int 1)]) 0:=⟨Zhu,Yea,λx hx=>(by cases hx),Yad _,λi hi=>absurd hi (Yda _),by decide⟩;dsimp only [GX];refine Gy (λσ' H'=>∃(fs:List Int)(kvs:List (Key×V)),σ'=[some (.int root),some (.ref l),some (.ref fl),some (.ref d),none,none,none,none,none,none]/\Same H H'/\H' fl=some (.lst (fs.map V.int))/\H' d=some (.dK kvs)/\Fnd ks root fs kvs 0/\(Jb fs root).isSome/\Rch ks root fs) ?snd ?fst
  case fst=>
   intro hk;refine ⟨_,rfl,_,_,rfl,rfl,_,rfl,Vf (λc1=>?_) (λc1=>?_)⟩
   ·have c1':1<root:=Ybw c1;obtain ⟨r,n,_⟩:=ar.nd c1';refine ⟨_,rfl,.inl ⟨rfl,_,SqL.of (s2 _ _ efl)⟩,_,rfl,fl,_,_,rfl,rfl,s2 _ _ efl,by decide,?_⟩;refine ⟨_,rfl,_,rfl,d,_,rfl,DPut.k (k:=.inl root) (Gj ed (Ne.symm hfd)) (by show 2<sizeLine;decide),?_⟩;have hn:Jb [] root=none:=by
     unfold Jb;rw [if_neg (by lia),if_neg (by lia)]
     rfl
    refine hk _ _ ⟨[root],_,rfl,((s1.trans s2).put hfl).put hHd,Gj Ga hfd,Ga,F0.add hn n rfl,?_,Rch.snoc (f:=[]) .nil ⟨[],[],rfl,New.num.mpr hn,λy hy=>(by cases hy)⟩⟩;show (Jb ([]++[root]) root).isSome=true;rw [OX [] root root hn,if_pos rfl]
    rfl
   ·have c1':¬ 1<root:=λz=>c1 (Ybi z);have h0:=ar.lt;refine hk _ _ ⟨[],_,rfl,s1.trans s2,s2 _ _ efl,ed,F0,?_,.nil⟩;have hc:root=0\/root=1:=by lia
    rcases hc with rfl | rfl
    ·rw [OY];rfl
    ·rw [OZ];rfl
  case snd=>
   clear efl ed F0 s1 s2 hd;rintro σ' H2 ⟨fs,kvs,rfl,s2,efl,ed,F0,hrt,rch⟩;refine Gy (λσ' H'=>σ'=[some (.int root),some (.ref l),some (.ref fl),some (.ref d),some (.int 0),none,none,none,none,none]/\H'=H2) ?k0 (λhk=>hk _ _ ⟨rfl,rfl⟩);rintro σ' H' ⟨rfl,rfl⟩;refine Gy (λσ' H'=>∃(k:Int)(fs:List Int)(kvs:List (Key×V))(v5:Option V),σ'=[some (.int root),some (.ref l),some (.ref fl),some (.ref d),some (.int k),v5,none,none,none,none]/\Same H H'/\H' fl=some (.lst (fs.map V.int))/\H' d=some (.dK kvs)/\Fnd ks root fs kvs fs.length/\(Jb fs root).isSome/\Rch ks root fs) ?after ?loop
   case loop=>
    intro hk;refine ⟨λm σ' H'=>∃(k:Nat)(fs:List Int)(kvs:List (Key×V))(v5:Option V),σ'=[some (.int root),some (.ref l),some (.ref fl),some (.ref d),some (.int (k:Int)),v5,none,none,none,none]/\Same H H'/\H' fl=some (.lst (fs.map V.int))/\H' d=some (.dK kvs)/\Fnd ks root fs kvs k/\(Jb fs root).isSome/\Rch ks root fs/\m=ks.length-k,⟨ks.length-0,0,fs,kvs,none,rfl,s2,efl,ed,F0,hrt,rch,rfl⟩,?_⟩;clear efl ed F0 s2 hrt rch;rintro m σ' H2 ⟨k,fs,kvs,v5,rfl,s2,efl,ed,F0,hrt,rch,rfl⟩;have hle:=F0.le;refine ⟨_,rfl,_,rfl,fl,_,rfl,.inl (SqL.of efl),_,_,rfl,rfl,_,rfl,Vf (λc1=>?_) (λc1=>?_)⟩
    ·have c1':(k:Int)<((fs.map V.int).length:Int):=Ybw c1;rw [Yac] at c1';have hkl:k<fs.length:=by lia
     have hx:fs[k]?=some fs[k]:=Yau hkl;generalize fs[k]=x at hx;obtain ⟨r,n⟩:=F0.nod x (Yax hx);obtain ⟨t,et1,et2⟩:=Ur (tr.same s2) n;obtain ⟨hT0,hT1,hT2⟩:=T.nd n;refine ⟨_,λ_ _ h=>h,?_⟩;refine ⟨_,rfl,_,rfl,_,rfl,fl,_,_,_,rfl,rfl,SqL.of efl,GB (j:=k) (v:=.int x) (by rw [Yaz,hx];rfl),_,_,rfl,rfl,l,_,_,_,rfl,rfl,SqL.of (s2 _ _ el),et1,_,rfl,t,_,rfl,SqT.of et2,(λz=>by have:=z.1;simp [HT.sIx] at this),λps hps=>?_⟩;have s3:Same H2 (upd H2 ps (.tup (Uf [.int r.1,.int r.2.1,.int r.2.2] (some 1) none))):=Same.new hps;have eps:upd H2 ps (.tup (Uf [.int r.1,.int r.2.1,.int r.2.2] (some 1) none)) ps=some (.tup [.int r.2.1,.int r.2.2]):=Ga;generalize upd H2 ps (.tup (Uf [.int r.1,.int r.2.1,.int r.2.2] (some 1) none))=H3 at s3 eps ⊢;refine ⟨ps,rfl,⟨_,SqT.of eps⟩,?_⟩;have hmem:∀(i:Nat)(y:V),([.int r.2.1,.int r.2.2]:List V)[i]?=some y->∃c,y=.int c/\At ks c r.1:=by
      intro i y e
      match i,e with
      | 0,e=>simp at e;exact ⟨_,e.symm,hT1⟩
      | 1,e=>simp at e;exact ⟨_,e.symm,hT2⟩
     refine Zc7 (K:=K) (a:=ps) (xs:=[.int r.2.1,.int r.2.2]) (λi σ' H'=>∃(fs':List Int)(kvs':List (Key×V))(v5:Option V),σ'=[some (.int root),some (.ref l),some (.ref fl),some (.ref d),some (.int (k:Int)),v5,none,none,none,none]/\Same H H'/\H' fl=some (.lst (fs'.map V.int))/\H' d=some (.dK kvs')/\H' ps=some (.tup [.int r.2.1,.int r.2.2])/\Fnd ks root fs' kvs' k/\(Jb fs' root).isSome/\Rch ks root fs'/\fs'[k]?=some x/\∀(j:Nat)(c:Int),j<i->([.int r.2.1,.int r.2.2]:List V)[j]?=some (.int c)->(Jb fs' c).isSome)
      ⟨fs,kvs,v5,rfl,s2.trans s3,s3 _ _ efl,s3 _ _ ed,eps,F0,hrt,rch,hx,λj c hj=>absurd hj (Yda _)⟩ (λi σ' H' _ ⟨_,_,_,_,_,_,_,e,_⟩=>SqT.of e) ?_ ?_
     ·clear efl ed eps F0 hrt rch hx s3 hle c1 c1' hkl;rintro i y σ' H4 hy ⟨fs',kvs',v5',rfl,s4,efl,ed,eps,F1,hrt,rch,hx,hch⟩;obtain ⟨c,rfl,ac⟩:=hmem i y hy;have hle:=F1.le;refine ⟨_,rfl,_,rfl,d,_,rfl,DGet.k (k:=.inl c) ed,_,rfl,?_⟩;rw [F1.num c];cases hc:Jb fs' c with
      | some a=>
       refine Os ?_;refine ⟨fs',kvs',_,rfl,s4,efl,ed,eps,F1,hrt,rch,hx,λj c' hj hc'=>?_⟩;by_cases h:j<i
       ·exact hch j c' h hc'
       ·have:j=i:=by lia
        subst this;rw [hy] at hc';cases hc';rw [hc];rfl
      | none=>
       refine OQ ?_;obtain ⟨h0,h1,_⟩:=U6 hc;obtain ⟨rc,nc,_⟩:=ac.nd (by have:=ac.lt;lia);refine ⟨_,rfl,.inl ⟨rfl,_,SqL.of efl⟩,_,rfl,fl,_,_,rfl,rfl,efl,by rw [Yac];lia,?_⟩;have efl5:upd H4 fl (.lst (fs'.map V.int++[.int c])) fl=some (.lst ((fs'++[c]).map V.int)):=by rw [Ga,Yap];rfl
       have ed5:upd H4 fl (.lst (fs'.map V.int++[.int c])) d=some (.dK kvs'):=Gj ed (Ne.symm hfd);have eps5:=(G6 (o:=.lst (fs'.map V.int++[.int c])) efl) _ _ eps;have s5:Same H (upd H4 fl (.lst (fs'.map V.int++[.int c]))):=s4.put hfl;generalize upd H4 fl (.lst (fs'.map V.int++[.int c]))=H5 at efl5 ed5 eps5 s5 ⊢;have hkl5:=F1.kl;refine ⟨_,rfl,fl,_,rfl,.inl (SqL.of efl5),_,_,rfl,rfl,_,rfl,_,rfl,d,_,rfl,DPut.k (k:=.inl c) ed5 (by lia),?_⟩;have hv:(((fs'++[c]).map V.int).length:Int)+1=(fs'.length:Int)+2:=by
        rw [Yac,Yai,Yat]
        push_cast
        lia
       have ex:Ext ks root fs' c:=by
        match i,hy with
        | 0,hy=>
         simp at hy;subst hy;exact F1.ext hrt hx n (pre:=[]) (post:=[r.2.2]) rfl (λy hy=>by cases hy) hc
        | 1,hy=>
         simp at hy;subst hy;exact F1.ext hrt hx n (pre:=[r.2.1]) (post:=[]) rfl (λy hy=>by rw [Yah] at hy;subst hy;exact hch 0 _ (by decide) rfl) hc
       refine ⟨fs'++[c],_,_,rfl,s5.put hHd,Gj efl5 hfd,Ga,(Za6 ed5) _ _ eps5,F1.add hc nc hv,O0 hc hrt,.snoc rch ex,?_,λj c' hj hc'=>?_⟩
       ·rw [Yby (Yao.mp hx).1];exact hx
       ·by_cases h:j<i
        ·exact O0 hc (hch j c' h hc')
        ·have:j=i:=by lia
         subst this;rw [hy] at hc';cases hc';rw [OX fs' c c hc,if_pos rfl]
         rfl
     ·clear efl ed eps F0 hrt rch s3;rintro σ' H4 ⟨fs',kvs',v5',rfl,s4,efl,ed,eps,F1,hrt,rch,hx',hch⟩;refine ⟨_,rfl,_,_,rfl,rfl,?_⟩;have F2:=F1.next hx' n (hch 0 r.2.1 (show 0<2 by decide) rfl) (hch 1 r.2.2 (show 1<2 by decide) rfl);have hl2:=F2.le;have hk2:=F2.kle;exact ⟨ks.length-(k+1),by lia,k+1,fs',kvs',_,rfl,s4,efl,ed,F2,hrt,rch,rfl⟩
    ·have c1':¬ ((k:Int)<((fs.map V.int).length:Int)):=λz=>c1 (Ybi z);rw [Yac] at c1';have hk':k=fs.length:=by
      have:=F0.kle
      lia
     subst hk';exact hk _ _ ⟨_,fs,kvs,_,rfl,s2,efl,ed,F0,hrt,rch⟩
   case after=>
    clear efl ed F0 s2 hrt rch;rintro σ' Hw ⟨k,fs,kvs,v5,rfl,s2,efl,ed,F0,hrt,rch⟩;have hle:=F0.le;refine ⟨Yar _,λsl hsl=>?_⟩;have s3:Same Hw (upd Hw sl (.lst [])):=Same.new hsl;refine ⟨_,rfl,fl,rfl,⟨_,SqL.of (s3 _ _ efl)⟩,?_⟩;refine Ji (K:=K) (a:=fl) (xs:=fs.map V.int) (λi σ' H'=>∃(ys:List V)(us:List Tri)(v5 v7 v8 v9:Option V),σ'=[some (.int root),some (.ref l),some (.ref fl),some (.ref d),some (.int k),v5,some (.ref sl),v7,v8,v9]/\Same Hw H'/\H' sl=some (.lst ys)/\Trs H' ys us/\us.length=i/\Said ks fs us i)
     ⟨[],[],_,none,none,none,rfl,s3,Ga,.nil,rfl,λj x hj=>absurd hj (Yda _)⟩ (λi σ' H' _ ⟨_,_,_,_,_,_,_,s4,_⟩=>SqL.of (s4 _ _ efl)) ?_ ?_
    ·rintro i y σ' H4 hy ⟨ys,us,v5,v7,v8,v9,rfl,s4,esl,tus,hus,S⟩;obtain ⟨x,rfl,hx⟩:=JG hy;have hi:i<fs.length:=(Yao.mp hx).1;obtain ⟨r,n⟩:=F0.nod x (Yax hx);obtain ⟨t,et1,et2⟩:=Ur (tr.same (s2.trans s4)) n;obtain ⟨i1,i2⟩:=F0.cl i hi x r hx n;obtain ⟨a1,ha1⟩:=Yee.mp i1;obtain ⟨a2,ha2⟩:=Yee.mp i2;have g1:JL kvs (.inl r.2.1)=some (.int a1):=by rw [F0.num,ha1];rfl
     have g2:JL kvs (.inl r.2.2)=some (.int a2):=by rw [F0.num,ha2];rfl
     have ed4:=s4 _ _ ed;have hyl:=tus.len;refine ⟨_,rfl,_,rfl,_,_,rfl,rfl,l,_,_,_,rfl,rfl,SqL.of ((s2.trans s4) _ _ el),et1,t,_,rfl,SqT.of et2,rfl,_,_,rfl,_,_,rfl,_,_,rfl,rfl,?_⟩;refine ⟨_,rfl,.inl ⟨rfl,_,SqL.of esl⟩,_,rfl,_,rfl,_,rfl,d,_,rfl,g1▸DGet.k (k:=.inl r.2.1) ed4,_,rfl,_,rfl,d,_,rfl,g2▸DGet.k (k:=.inl r.2.2) ed4,(by show 3<=sizeLine;decide),λt5 ht5=>?_⟩;have s5:Same H4 (upd H4 t5 (.tup [.int r.1,.int a1,.int a2])):=Same.new ht5;have et5:upd H4 t5 (.tup [.int r.1,.int a1,.int a2]) t5=some (.tup [.int r.1,.int a1,.int a2]):=Ga;generalize upd H4 t5 (.tup [.int r.1,.int a1,.int a2])=H5 at s5 et5 ⊢;refine ⟨sl,ys,_,rfl,rfl,s5 _ _ esl,by lia,?_⟩;have k5:=G6 (o:=.lst (ys++[.ref t5])) (s5 _ _ esl);exact ⟨ys++[.ref t5],us++[(r.1,a1,a2)],_,_,_,_,rfl,(s4.trans s5).put hsl,Ga,((tus.same s5).keep k5).snoc (k5 _ _ et5),by rw [Yai,Yat,hus],S.snoc hus hx n ha1 ha2⟩
    ·rintro σ' H4 ⟨ys,us,v5,v7,v8,v9,rfl,s4,esl,tus,hus,S⟩;rw [Yac] at hus S;obtain ⟨a0,ha0⟩:=Yee.mp hrt;have g0:JL kvs (.inl root)=some (.int a0):=by rw [F0.num,ha0];rfl
     refine ⟨_,rfl,_,rfl,d,_,rfl,g0▸DGet.k (k:=.inl root) (s4 _ _ ed),_,rfl,UA,λp hp=>?_⟩;have s5:Same H4 (upd H4 p (.tup [.int a0,.ref sl])):=Same.new hp;have S5:=(s2.trans s4).trans s5;exact q p sl a0 ys us fs _ S5 ((s2.trans s4).free hp) (s2.free hsl) ⟨Ga,s5 _ _ esl,tus.same s5⟩ rch (F0.fin hrt) F0.nd F0.nod S hus hle ha0
structure Dr (n:Nat)(a0:Int)(us:List Tri)(ks:List Tri)(root:Int)(fs:List Int):Prop where
 sh:ShOk ks
 ar:At ks root (-1)
 rch:Rch ks root fs
 fin:Fin ks root fs
 said:Said ks fs us fs.length
 len:us.length=fs.length
 a0:Jb fs root=some a0
 le:fs.length<=ks.length
 kn:ks.length<=n
noncomputable def Drn (n:Nat)(a0:Int)(us:List Tri):Prop:=∃ks root fs,Dr n a0 us ks root fs
noncomputable def ToldS (H:Hp)(n:Nat)(Q:VK):Prop:=∀(p l:Addr)(a0:Int)(xs:List V)(us:List Tri)(H':Hp),Same H H'->H p=none->H l=none->TabAt H' p l a0 xs us->Drn n a0 us->Q (.ref p) H'
theorem ToldS.same {H H1:Hp}{m:Nat}{Q:VK}(h:ToldS H m Q)(s:Same H H1):ToldS H1 m Q:=λp l root xs us H' s' hp hl W D=>h p l root xs us H' (s.trans s') (s.free hp) (s.free hl) W D
theorem ToldS.two {H:Hp}{n:Nat}{Q:VK}{ks:List Tri}{root:Int}(h:ToldS H n Q)(T:ShOk ks)(hn:ks.length<=n)(ar:At ks root (-1)):Zd0 H ks root Q:=λp l a0 xs us fs H' s hp hl W R Fi nd nod S hus hle h0=>h p l a0 xs us H' s hp hl W ⟨ks,root,fs,T,ar,R,Fi,S,hus,h0,hle,hn⟩
theorem Drn.zero {n:Nat}{a0:Int}(h:a0=0\/a0=1):Drn n a0 []:=by
 refine ⟨[],a0,[],ShOk.nil,h.elim .inl λe=>.inr (.inl e),.nil,λy hy nw=>?_,λj x hj=>absurd hj (Yda _),rfl,?_,Yad _,Yar _⟩
 ·have:y=a0:=by simpa [OD] using hy
  subst this;obtain ⟨n1,_⟩:=nw
  lia
 ·rcases h with rfl | rfl
  ·exact OY _
  ·exact OZ _
noncomputable def Smz (sm:List Int):Prop:=∀j,0<j->j<sm.length->sm.getD j 0≠0
theorem ZhS:Smz [0,1]:=λj h1 h2=>by
 have:j=1:=by simp at h2;lia
 subst this;decide
theorem Smz.snoc {sm:List Int}{c:Int}(h:Smz sm)(hc:c≠0):Smz (sm++[c]):=λj h1 h2=>by
 rw [Yai,Yat] at h2;rw [Ydj];by_cases hj:j<sm.length
 ·rw [Yby hj,<-Ydj];exact h j h1 hj
 ·rw [Yce (by lia),show j-sm.length=0 by lia];exact hc
theorem ShOk.add {ks:List Tri}{r:Tri}(S:ShOk ks)(T:TabOk (ks++[r]))(hn:r ∉ ks)(hz:r.2.2≠0):ShOk (ks++[r]):=by
 refine ⟨T,Ycf.mpr ⟨S.nd,by simp,λx hx y hy=>?_⟩,λq hq=>?_⟩
 ·rw [Yah.mp hy];exact λz=>hn (z▸hx)
 ·rcases Yag.mp hq with h | h
  ·exact S.hi q h
  ·rw [Yah.mp h];exact hz
noncomputable def Zfq:Sp:=λvs H Q _=>∃(l:Addr)(root:Int)(xs:List V)(ts:List Tri),vs=[.int root,.ref l]/\H l=some (.lst xs)/\Trs H xs ts/\TabOk ts/\Bk ts/\ts.length<=60/\At ts root (-1)/\Hg ts/\ToldS H ts.length Q
theorem scTab:Gp ["root", "nodes", "same", "seen", "kept", "road", "low", "high", "node"] ["root", "nodes"] (Gf Ze8):=⟨rfl,rfl,rfl,by decide +kernel,rfl,by decide +kernel,by decide +kernel⟩
theorem Zfr {f fO:Addr}{fd fdO:FuncData}(F:Fun K "_law_table" "_law_table" Ze8 f fd)(FO:Fun K "_law_in_order" "_law_in_order" Zee fO fdO)(bO:Binds K fdO ["root", "nodes"] [])(mO:mg "_law_in_order" = some (.ref fO))(mLen:mg "len" = none):G4 P w K mg base CX0 2 f fd ["root", "nodes"] Zfq:=by
 have GO:G4 P w K mg base CX0 1 fO fdO ["root", "nodes"] Zfo:=Zfp FO mLen;refine F.ok scTab (λvs H Q E h=>?_) (λcdv A outer s H vs Q E hr h=>?_)
 ·obtain ⟨_,_,_,_,rfl,_⟩:=h
  rfl
 ·obtain ⟨l,root,xs,ts,rfl,el,tr,T,bk,hts,ar,hg,q⟩:=h;have h16:=Ybf.symm;have hu1:(A.deeper (PyProof.Rows.envOfC "_law_table" (Gf Ze8) s.heap.objs.size f cdv)).units+1<cLine:=by have:=hr.un;lia
  refine ⟨_,Gc (Gn (i:=2) scTab.nd rfl (Or.inl rfl) (GH (Gb Ge (Gb Ge Gd))))
    (Gc (Gn (i:=3) scTab.nd rfl (Or.inl rfl) X7)
    (Gc (Gn (i:=4) scTab.nd rfl (Or.inl rfl) (GH Gd))
    (Gc (JJ Ych rfl (J3 K (pv 1)) (Zbq K (n:=3) rfl (Gq (Gi (i:=5) scTab.nd rfl (Or.inl rfl)) (Gq (Gi (i:=6) scTab.nd rfl (Or.inl rfl)) (Gq (Gi (i:=7) scTab.nd rfl (Or.inl rfl)) JX))))
    (Gc (Gn (i:=8) scTab.nd rfl (Or.inl rfl) (Jz (Gb (pv 5) (Gb (GV (Vg K) (pv 2) (pv 6) (λ_ _=>rfl)) (Gb (GV (Vg K) (pv 2) (pv 7) (λ_ _=>rfl)) Gd)))))
    (Gc (Jf (Wy (OR hu1 (pv 8) (pv 3)) rfl) (Gc (Jt (Ug Ycr Ydk Ydl GY (pv 4) (Gb (pv 8) Gd)))
    (Gg (Og hu1 (pv 3) (pv 8) (Gs Jy (Gk (Xj K) rfl mLen Ycg (Gb (pv 4) Gd)) Ge) rfl))) Gu)
    (Gg (Jt (Ug Ycr Ydk Ydl GY (pv 2) (Gb (Jq hu1 (pv 3) (pv 8) (λ_ _=>rfl)) Gd)))))))
    (Gg (Gr (Go GO (hr.mono (by decide)) rfl mO FO.kp bO .nil Je (Gb (GV (Vg K) (pv 2) (pv 0) (λ_ _=>rfl)) (Gb (pv 4) Gd)))))))),?_⟩
  refine ⟨UA,λms hms=>?_⟩;have s1:Same H (upd H ms (.lst [.int 0,.int 1])):=Same.new hms;have ems:upd H ms (.lst [.int 0,.int 1]) ms=some (.lst (([0,1]:List Int).map V.int)):=Ga;generalize upd H ms (.lst [.int 0,.int 1])=H1 at s1 ems ⊢;intro sn hsn;have s2:Same H1 (upd H1 sn (.dT [])):=Same.new hsn;have esn:upd H1 sn (.dT []) sn=some (.dT []):=Ga;have hmsn:ms≠sn:=Gh ems hsn;generalize upd H1 sn (.dT [])=H2 at s2 esn ⊢;refine ⟨Yar _,λkp hkp=>?_⟩;have s3:Same H2 (upd H2 kp (.lst [])):=Same.new hkp;have ekp:upd H2 kp (.lst []) kp=some (.lst []):=Ga;have hmkp:ms≠kp:=Gh (s2 _ _ ems) hkp;have hsnkp:sn≠kp:=Gh esn hkp;have hHsn:H sn=none:=s1.free hsn;have hHkp:H kp=none:=(s1.trans s2).free hkp;generalize upd H2 kp (.lst [])=H3 at s3 ekp ⊢;refine ⟨_,rfl,l,rfl,⟨_,SqL.of (s3 _ _ (s2 _ _ (s1 _ _ el)))⟩,?_⟩;refine Ji (K:=K) (a:=l) (xs:=xs) (λi σ H'=>∃(sm:List Int)(kvs:List (List Key×V))(ys:List V)(ks:List Tri)(v5 v6 v7 v8:Option V),σ=[some (.int root),some (.ref l),some (.ref ms),some (.ref sn),some (.ref kp),v5,v6,v7,v8]/\Same H H'/\H' ms=some (.lst (sm.map V.int))/\H' sn=some (.dT kvs)/\H' kp=some (.lst ys)/\Trs H' ys ks/\TabOk ks/\ks.length<=i/\kvs.length<=i/\MapOk ts ks sm i/\PlOk kvs ks/\ShOk ks/\Smz sm)
   ⟨[0,1],[],[],[],none,none,none,none,rfl,(s1.trans s2).trans s3,s3 _ _ (s2 _ _ ems),s3 _ _ esn,ekp,.nil,TabOk.nil,Yad _,Yad _,MapOk.start _ _,PlOk.nil,ShOk.nil,ZhS⟩ (λi σ H' _ ⟨_,_,_,_,_,_,_,_,_,s4,_⟩=>SqL.of (s4 _ _ el)) ?_ ?_
  ·clear ems esn ekp s1 s2 s3;rintro i x σ H4 hxi ⟨sm,kvs,ys,ks,v5,v6,v7,v8,rfl,s4,ems,esn,ekp,tk,Tk,hki,hvi,M,S,Sh,Sz⟩;obtain ⟨t,r,rfl,et,er⟩:=(tr.same s4).get hxi;have hi:i<ts.length:=(Yao.mp er).1;obtain ⟨hT0,hT1,hT2⟩:=T i r er;obtain ⟨b1,b2⟩:=bk i r er;have hl1:=hT1.lt;have hl2:=hT2.lt;have hml:=M.len;have hyl:=tk.len;refine ⟨t,_,rfl,SqT.of et,rfl,_,_,rfl,_,_,rfl,_,_,rfl,rfl,?_⟩;refine ⟨_,rfl,_,rfl,_,rfl,ms,_,_,_,rfl,rfl,SqL.of ems,Vd (by lia) (by lia),_,rfl,_,rfl,ms,_,_,_,rfl,rfl,SqL.of ems,Vd (by lia) (by lia),(by show 3<=sizeLine;decide),λnd hnd=>?_⟩;have a1:=M.at_ _ _ b1 hT1;have a2:=M.at_ _ _ b2 hT2;have z2:sm.getD r.2.2.toNat 0≠0:=by
    have:=hg r (Yax er);exact Sz _ (by lia) (by lia)
   generalize sm.getD r.2.1.toNat 0=c1 at a1 ⊢;generalize sm.getD r.2.2.toNat 0=c2 at a2 z2 ⊢;have s5:Same H4 (upd H4 nd (.tup [.int r.1,.int c1,.int c2])):=Same.new hnd;have end_:upd H4 nd (.tup [.int r.1,.int c1,.int c2]) nd=some (.tup ((OG (r.1,c1,c2)).map kV)):=Ga;generalize upd H4 nd (.tup [.int r.1,.int c1,.int c2])=H5 at s5 end_ ⊢;dsimp only [GX];refine Gy (λσ' H'=>∃(kvs:List (List Key×V))(ys:List V)(ks:List Tri)(c:Int),σ'=[some (.int root),some (.ref l),some (.ref ms),some (.ref sn),some (.ref kp),some (.int r.1),some (.int r.2.1),some (.int r.2.2),some (.ref nd)]/\Same H H'/\H' ms=some (.lst (sm.map V.int))/\H' sn=some (.dT kvs)/\H' kp=some (.lst ys)/\H' nd=some (.tup ((OG (r.1,c1,c2)).map kV))/\Trs H' ys ks/\TabOk ks/\ks.length<=i+1/\kvs.length<=i+1/\MapOk ts ks sm i/\PlOk kvs ks/\ShOk ks/\JL kvs (OG (r.1,c1,c2))=some (.int c)/\Nd ks c (r.1,c1,c2)) ?snd ?fst
   case fst=>
    intro hk;refine ⟨_,rfl,_,rfl,sn,_,rfl,DGet.t (k:=OG (r.1,c1,c2)) (s5 _ _ esn) end_,_,rfl,?_⟩;cases hv:JL kvs (OG (r.1,c1,c2)) with
    | some v=>
     refine Os ?_;obtain ⟨c,rfl,nc⟩:=S.s _ v hv;exact hk _ _ ⟨kvs,ys,ks,c,rfl,s4.trans s5,s5 _ _ ems,s5 _ _ esn,s5 _ _ ekp,end_,tk.same s5,Tk,by lia,by lia,M,S,Sh,hv,nc⟩
    | none=>
     refine OQ ?_;refine ⟨_,rfl,.inl ⟨rfl,_,SqL.of (s5 _ _ ekp)⟩,_,rfl,kp,ys,_,rfl,rfl,s5 _ _ ekp,by lia,?_⟩;have k6:=G6 (o:=.lst (ys++[.ref nd])) (s5 _ _ ekp);have ekp6:upd H5 kp (.lst (ys++[.ref nd])) kp=some (.lst (ys++[.ref nd])):=Ga;have ems6:upd H5 kp (.lst (ys++[.ref nd])) ms=some (.lst (sm.map V.int)):=Gj (s5 _ _ ems) hmkp;have esn6:upd H5 kp (.lst (ys++[.ref nd])) sn=some (.dT kvs):=Gj (s5 _ _ esn) hsnkp;have s6:Same H (upd H5 kp (.lst (ys++[.ref nd]))):=(s4.trans s5).put hHkp;have end6:=k6 _ _ end_;have tk6:=((tk.same s5).keep k6).snoc end6;generalize upd H5 kp (.lst (ys++[.ref nd]))=H6 at k6 ekp6 ems6 esn6 s6 end6 tk6 ⊢;refine ⟨_,rfl,kp,_,rfl,.inl (SqL.of ekp6),_,_,rfl,rfl,_,rfl,_,rfl,sn,_,rfl,DPut.t (k:=OG (r.1,c1,c2)) esn6 end6 (by lia),?_⟩;have hc:((ys++[V.ref nd]).length:Int)+1=(ks.length:Int)+2:=by
      rw [Yai,Yat,hyl]
      push_cast
      lia
     have k7:=ZdZ (o:=.dT (JV kvs (OG (r.1,c1,c2)) (.int (((ys++[V.ref nd]).length:Int)+1)))) esn6;have hpl:=GL kvs (OG (r.1,c1,c2)) (.int (((ys++[V.ref nd]).length:Int)+1));have hS:PlOk (JV kvs (OG (r.1,c1,c2)) (.int (((ys++[V.ref nd]).length:Int)+1))) (ks++[(r.1,c1,c2)]):=by
      rw [hc];exact S.add (r.1,c1,c2)
     have hSh:ShOk (ks++[(r.1,c1,c2)]):=Sh.add (Tk.snoc hT0 a1 a2) (S.n _ hv) z2;refine hk _ _ ⟨_,_,ks++[(r.1,c1,c2)],_,rfl,s6.put hHsn,Gj ems6 hmsn,Ga,Gj ekp6 (Ne.symm hsnkp),k7 _ _ end6,tk6.keep k7,Tk.snoc hT0 a1 a2,by rw [Yai,Yat];lia,Ybo hpl (by lia),M.grow _,hS,hSh,by rw [G3,if_pos rfl],?_⟩;rw [hc];exact Nd.last ks _
   case snd=>
    clear ems esn ekp tk Tk hki hvi M S Sh s5 end_ a1 a2 hyl s4;rintro σ' H5 ⟨kvs,ys,ks,c,rfl,s5,ems,esn,ekp,end_,tk,Tk,hki,hvi,M,S,Sh,hv,nc⟩;refine ⟨_,rfl,.inl ⟨rfl,_,SqL.of ems⟩,_,rfl,_,rfl,sn,_,rfl,hv▸DGet.t (k:=OG (r.1,c1,c2)) esn end_,ms,_,_,rfl,rfl,ems,by rw [Yac];lia,?_⟩;have k6:=G6 (o:=.lst (sm.map V.int++[.int c])) ems;exact ⟨sm++[c],kvs,ys,ks,_,_,_,_,rfl,s5.put hms,by rw [Ga,Yap];rfl,Gj esn (Ne.symm hmsn),Gj ekp (Ne.symm hmkp),tk.keep k6,Tk,hki,hvi,M.snoc er nc rfl,S,Sh,Sz.snoc (by have:=nc.1;lia)⟩
  ·rintro σ H4 ⟨sm,kvs,ys,ks,v5,v6,v7,v8,rfl,s4,ems',esn',ekp',tk,Tk,hki,hvi,M,S,Sh,Sz⟩;have hxl:=tr.len;have hl0:=ar.lt;have hml:=M.len;refine ⟨_,rfl,_,rfl,ms,_,_,_,rfl,rfl,SqL.of ems',Vd (by lia) (by lia),_,rfl,?_⟩;refine ⟨kp,_,ys,ks,rfl,ekp',tk,Tk,by lia,M.at_ _ _ (by lia) ar,(q.same s4).two Sh (by lia) (M.at_ _ _ (by lia) ar)⟩
noncomputable def Zfs:Sp:=λvs H Q _=>∃(cl:Addr)(cs:List Int)(first:Int),vs=[.ref cl,.int first]/\H cl=some (.lst (cs.map V.int))/\cs.length<=60/\ToldS H cs.length Q
theorem scDra:Gp ["cells", "first", "nodes"] ["cells", "first"] (Gf Zgm):=⟨rfl,rfl,rfl,by decide +kernel,rfl,by decide +kernel,by decide +kernel⟩
theorem Zft {f fR fT fO:Addr}{fd fdR fdT fdO:FuncData}(F:Fun K "_law_drawn" "_law_drawn" Zgm f fd)(FR:Fun K "_law_raw" "_law_raw" Zgl fR fdR)(bR:Binds K fdR ["cells", "road"] [])(mR:mg "_law_raw" = some (.ref fR))(FT:Fun K "_law_table" "_law_table" Ze8 fT fdT)(bT:Binds K fdT ["root", "nodes"] [])(mT:mg "_law_table" = some (.ref fT))(FO:Fun K "_law_in_order" "_law_in_order" Zee fO fdO)(bO:Binds K fdO ["root", "nodes"] [])(mO:mg "_law_in_order" = some (.ref fO))(mRange:mg "range" = none)(mLen:mg "len" = none)(mMax:mg "max" = none):G4 P w K mg base CX0 3 f fd ["cells", "first"] Zfs:=by
 have GR:G4 P w K mg base CX0 1 fR fdR ["cells", "road"] Zfm:=Zfn FR mRange mLen mMax;have GT:G4 P w K mg base CX0 2 fT fdT ["root", "nodes"] Zfq:=Zfr FT FO bO mO mLen;refine F.ok scDra (λvs H Q E h=>?_) (λcdv A outer s H vs Q E hr h=>?_)
 ·obtain ⟨_,_,_,rfl,_⟩:=h
  rfl
 ·obtain ⟨cl,cs,first,rfl,ecl,hcs,q⟩:=h;have hu:=hr.units;refine ⟨_,Gc (Gn (i:=2) scDra.nd rfl (Or.inl rfl) (Go GR (hr.mono (by decide)) rfl mR FR.kp bR .nil Je (Gb (pv 0) (Gb (Gs Oe (pv 1) Ge) Gd))))
    (Gc (Jf (Gv (Zdp K hu) (pv 2) (GH Gd) (Gz _)) (Gg (Gr (Jz (Gb (Gs Oe (Gs JU (pv 1) Ge) Ge) (Gb (GH Gd) Gd))))) Gu)
    (Gg (Gr (Go GT (hr.mono (by decide)) rfl mT FT.kp bT .nil Je (Gb (Gs Jy (Gk (Xj K) rfl mLen Ycg (Gb (pv 2) Gd)) Ge) (Gb (pv 2) Gd)))))),?_⟩
  refine ⟨_,rfl,_,rfl,_,_,rfl,rfl,(by show (0:Int)<30;decide),cl,cs,first % 30,rfl,ecl,hcs,Ydp _ (by decide),Ydq _ (by decide),λl xs ts H1 s1 hl el tr T bk hg qW=>?_⟩;refine ⟨_,rfl,Yar _,λe he=>?_⟩;have s2:=s1.put (o:=.lst []) (s1.free he);have s12:Same H1 (upd H1 e (.lst [])):=Same.new he;refine ⟨.list (ts.map trD),.list (([]:List Tri).map trD),.lst (SqL.of (s12 _ _ el)) (tr.same s12).dats,.lst (SqL.of Ga) .nil,Vx _,Vx _,_,rfl,?_⟩;rw [ZdA];generalize upd H1 e (.lst [])=H2 at s2 s12 ⊢;by_cases c:ts=[]
  ·rw [Ybi c];refine OQ ?_;refine ⟨_,rfl,_,_,rfl,rfl,⟨by decide,OJ⟩,_,_,rfl,rfl,(by show (0:Int)<2;decide),Yar _,λl2 hl2=>⟨UA,λp hp=>?_⟩⟩;have s3:=s2.put (o:=.lst []) (s2.free hl2);have e3:upd H2 l2 (.lst []) l2=some (.lst []):=Ga;have s4:Same (upd H2 l2 (.lst [])) (upd (upd H2 l2 (.lst [])) p (.tup [.int (first / 30 % 2),.ref l2])):=Same.new hp;refine q p l2 (first / 30 % 2) [] [] _ (s3.trans s4) (s3.free hp) (s2.free hl2) ⟨Ga,s4 _ _ e3,.nil⟩ (Drn.zero ?_);have h0:0<=first / 30 % 2:=Ydp _ (by decide)
   have h1:first / 30 % 2<2:=Ydq _ (by decide)
   lia
  ·rw [Ybx c];refine Os ?_;have hp:0<ts.length:=List.length_pos_iff.mpr c;have hxl:=tr.len;refine ⟨_,rfl,l,xs,rfl,.inl (SqL.of (s12 _ _ el)),_,_,rfl,rfl,_,rfl,?_⟩;refine ⟨l,_,xs,ts,rfl,s12 _ _ el,tr.same s12,T,bk,by lia,?_,hg,λp l a0 xs us H' s hp hl W D=>q.same s2 p l a0 xs us H' s hp hl W (qW▸D)⟩;refine .inr (.inr ⟨ts[ts.length-1],⟨by lia,?_⟩,?_⟩)
   ·rw [show ((xs.length:Int)+1-2).toNat=ts.length-1 by lia];exact Yau (by lia)
   ·have:=(T (ts.length-1) _ (Yau (by lia))).1
    lia
noncomputable def Zfu:Sp:=λvs H Q _=>∃(l:Addr)(root:Int)(xs:List V)(ks:List Tri),vs=[.int root,.ref l]/\H l=some (.lst xs)/\Trs H xs ks/\TabOk ks/\ks.length<=900/\At ks root (-1) /\
 ∀(fl:Addr)(fs:List Int)(H':Hp),Same H H'->H' fl=some (.lst (fs.map V.int))->Rch ks root fs->Fin ks root fs->fs.Nodup->(∀x∈fs,∃r,Nd ks x r)->Q (.ref fl) H'
theorem scFou:Gp ["root", "nodes", "found", "seen", "ahead", "new", "number"] ["root", "nodes"] (Gf Ze3):=⟨rfl,rfl,rfl,by decide +kernel,rfl,by decide +kernel,by decide +kernel⟩
theorem Zg6 (n:Int):JL (GG [] [(Sum.inl 0,.bl true),(Sum.inl 1,.bl true)]:List (Key×V)) (.inl n)=none↔New [] n:=by
 show JL (JV (JV [] (Sum.inl 0) (.bl true)) (Sum.inl 1) (.bl true):List (Key×V)) (.inl n)=none↔_;rw [G3,G3];unfold New;by_cases h1:n=1
 ·rw [if_pos (by rw [h1])];exact ⟨λz=>(by cases z),λz=>absurd h1 z.2.1⟩
 ·rw [if_neg (λz=>h1 (Yec z))];by_cases h0:n=0
  ·rw [if_pos (by rw [h0])];exact ⟨λz=>(by cases z),λz=>absurd h0 z.1⟩
  ·rw [if_neg (λz=>h0 (Yec z))];exact ⟨λ_=>⟨h0,h1,λz=>(by cases z)⟩,λ_=>rfl⟩
theorem Zfv {f:Addr}{fd:FuncData}(F:Fun K "found_from" "found_from" Ze3 f fd):G4 P w K mg base CX0 1 f fd ["root", "nodes"] Zfu:=by
 refine F.ok scFou (λvs H Q E h=>?_) (λcdv A outer s H vs Q E hr h=>?_)
 ·obtain ⟨_,_,_,_,rfl,_⟩:=h
  rfl
 ·obtain ⟨l,root,xs,ks,rfl,el,tr,T,hks,ar,q⟩:=h;have h16:=Ybf.symm;have hu1:(A.deeper (PyProof.Rows.envOfC "found_from" (Gf Ze3) s.heap.objs.size f cdv)).units+1<cLine:=by have:=hr.un;lia
  refine ⟨_,Gc (Gn (i:=2) scFou.nd rfl (Or.inl rfl) (GH Gd))
    (Gc (Gn (i:=3) scFou.nd rfl (Or.inl rfl) (U1 (Jw Ge ON (Jw Ge ON U0)) rfl rfl (by decide) (by decide)))
    (Gc (Gn (i:=4) scFou.nd rfl (Or.inl rfl) (GH (Gb (pv 0) Gd)))
    (Gc (VM Ych (UE (pv 4) (λ_=>rfl))
    (Gc (Gn (i:=5) scFou.nd rfl (Or.inl rfl) (GH Gd))
    (Gc (JJ Ych rfl (J3 K (pv 4)) (Gi (i:=6) scFou.nd rfl (Or.inl rfl))
    (Gg (Jf (Wy (OR hu1 (pv 6) (pv 3)) rfl) (Gc (Og hu1 (pv 3) (pv 6) ON rfl)
    (Gc (Jt (Ug Ycr Ydk Ydl GY (pv 2) (Gb (pv 6) Gd)))
    (Gg (Jt (Ug Ycr PySem.F.slot_list_extend PySem.F.type_list_extend VC (pv 5) (Gb (GQ (ZgS K) (GV (Vg K) (pv 1) (Gs JQ (pv 6) Ge) (λ_ _=>rfl)) (G5 Ge) Jk) Gd)))))) Gu)))
    (Gg (Gn (i:=4) scFou.nd rfl (Or.inl rfl) (pv 5))))))
    (Gg (Gr (pv 2)))))),?_⟩
  refine ⟨Yar _,λfl hfl=>?_⟩;have s1:Same H (upd H fl (.lst [])):=Same.new hfl;have efl:upd H fl (.lst []) fl=some (.lst (([]:List Int).map V.int)):=Ga;generalize upd H fl (.lst [])=H1 at s1 efl ⊢;intro d hd;refine ⟨Ga,[(.inl 0,.bl true),(.inl 1,.bl true)],rfl,by decide,?_⟩;have s2:Same H1 (upd (upd H1 d (.dK [])) d (.dK (GG [] [(.inl 0,.bl true),(.inl 1,.bl true)]))):=(Same.new hd).put hd;have ed:upd (upd H1 d (.dK [])) d (.dK (GG [] [(.inl 0,.bl true),(.inl 1,.bl true)])) d=some (.dK (GG [] [(.inl 0,.bl true),(.inl 1,.bl true)])):=Ga;generalize upd (upd H1 d (.dK [])) d (.dK (GG [] [(.inl 0,.bl true),(.inl 1,.bl true)]))=H2 at s2 ed ⊢;have hHd:H d=none:=s1.free hd;have hfd:fl≠d:=Gh efl hd;have efl2:=s2 _ _ efl;have s12:=s1.trans s2;clear efl s1 s2;refine ⟨_,rfl,(by show 1<=sizeLine;decide),λal hal=>?_⟩;have s3:Same H2 (upd H2 al (.lst [.int root])):=Same.new hal;have eal:upd H2 al (.lst [.int root]) al=some (.lst (([root]:List Int).map V.int)):=Ga;have hafl:al≠fl:=λz=>by rw [z,efl2] at hal;cases hal
  generalize upd H2 al (.lst [.int root])=H3 at s3 eal ⊢;have W0:Wk ks root [] (GG [] [(.inl 0,.bl true),(.inl 1,.bl true)]) [] [root]:=⟨rfl,λy hy=>(by cases hy),Zg6,Yea,λx hx=>(by cases hx),.nil,by decide,λy hy=>by rw [Yah] at hy;rw [hy];exact ar⟩;refine ⟨λm σ' H'=>∃(al:Addr)(fs:List Int)(kvs:List (Key×V))(pr ah:List Int)(v5 v6:Option V),σ'=[some (.int root),some (.ref l),some (.ref fl),some (.ref d),some (.ref al),v5,v6]/\Same H H'/\H' fl=some (.lst (fs.map V.int))/\H' d=some (.dK kvs)/\H' al=some (.lst (ah.map V.int))/\al≠fl/\Wk ks root fs kvs pr ah/\m=ks.length-fs.length+(if ah=[] then 0 else 1),
   ⟨_,al,[],_,[],[root],none,none,rfl,s12.trans s3,s3 _ _ efl2,s3 _ _ ed,eal,hafl,W0,rfl⟩,?_⟩
  clear W0 eal s3 efl2 ed s12 hal hafl;rintro m σ' H4 ⟨al,fs,kvs,pr,ah,v5,v6,rfl,s4,efl,ed,eal,hafl,W,rfl⟩;have hle:=W.le;have hah:=W.ahl;by_cases hz:ah=[]
  ·subst hz;refine ⟨_,rfl,false,.inl ⟨_,SqL.of eal,rfl⟩,Os ?_⟩;exact ⟨_,rfl,q fl fs _ s4 efl W.rch W.fin W.nd W.nod⟩
  ·refine ⟨_,rfl,true,.inl ⟨_,SqL.of eal,by cases ah with | nil=>exact absurd rfl hz | cons a b=>rfl⟩,OQ ?_⟩;refine ⟨_,λ_ _ h=>h,?_⟩;refine ⟨Yar _,λnl hnl=>?_⟩;have s5:Same H4 (upd H4 nl (.lst [])):=Same.new hnl;have enl:upd H4 nl (.lst []) nl=some (.lst (([]:List Int).map V.int)):=Ga;have hna:nl≠al:=λz=>by rw [z,eal] at hnl;cases hnl
   have hnf:nl≠fl:=λz=>by rw [z,efl] at hnl;cases hnl
   have hHnl:H nl=none:=s4.free hnl;generalize upd H4 nl (.lst [])=H5 at s5 enl ⊢;refine ⟨_,rfl,al,rfl,⟨_,SqL.of (s5 _ _ eal)⟩,?_⟩;refine Ji (K:=K) (a:=al) (xs:=ah.map V.int) (λi σ' H'=>∃(fs':List Int)(kvs':List (Key×V))(nw:List Int)(v6:Option V),σ'=[some (.int root),some (.ref l),some (.ref fl),some (.ref d),some (.ref al),some (.ref nl),v6]/\Same H H'/\H' fl=some (.lst (fs'.map V.int))/\H' d=some (.dK kvs')/\H' al=some (.lst (ah.map V.int))/\H' nl=some (.lst (nw.map V.int))/\Wk ks root fs' kvs' (pr++ah.take i) (ah.drop i++nw)/\((fs'=fs/\nw=[])\/fs.length<fs'.length))
    ⟨fs,kvs,[],_,rfl,s4.trans s5,s5 _ _ efl,s5 _ _ ed,s5 _ _ eal,enl,by rw [Yeo,List.drop_zero,Ydw,Ydw];exact W,.inl ⟨rfl,rfl⟩⟩ (λi σ' H' _ ⟨_,_,_,_,_,_,_,_,e,_⟩=>SqL.of e) ?_ ?_
   ·clear efl ed eal enl s5 W hah;rintro i y σ' H6 hy ⟨fs',kvs',nw,v6',rfl,s6,efl,ed,eal,enl,W,hd⟩;obtain ⟨c,rfl,hc⟩:=JG hy;have e1:ah.drop i=c::ah.drop (i+1):=by
     obtain ⟨hi,e⟩:=Yao.mp hc;rw [Yfo hi,e]
    have e2:pr++ah.take (i+1)=(pr++ah.take i)++[c]:=by
     obtain ⟨hi,e⟩:=Yao.mp hc;rw [List.take_succ_eq_append_getElem hi,e,Ybs]
    rw [e1,List.cons_append] at W;have hle':=W.le;have hah':=W.ahl;rw [Ybn,Yai] at hah';have hkl:=W.kl;refine ⟨_,rfl,_,rfl,d,_,rfl,DGet.k (k:=.inl c) ed,_,rfl,?_⟩;cases hv:JL kvs' (.inl c) with
    | some v=>
     refine Os ?_;refine ⟨fs',kvs',nw,_,rfl,s6,efl,ed,eal,enl,?_,hd⟩;rw [e2];exact W.skip λz=>by rw [(W.seen c).mpr z] at hv;cases hv
    | none=>
     refine OQ ?_;have hnew:=(W.seen c).mp hv;obtain ⟨r,n,_⟩:=(W.ok c Ybe).nd (by have:=(W.ok c Ybe).lt;have:=hnew.1;have:=hnew.2.1;lia);have W':=W.take (v:=.bl true) T hnew n;refine ⟨_,rfl,_,rfl,d,_,rfl,DPut.k (k:=.inl c) ed (by lia),?_⟩;have k7:=Za6 (o:=.dK (JV kvs' (.inl c) (.bl true))) ed;have efl7:upd H6 d (.dK (JV kvs' (.inl c) (.bl true))) fl=some (.lst (fs'.map V.int)):=Gj efl hfd;have eal7:upd H6 d (.dK (JV kvs' (.inl c) (.bl true))) al=some (.lst (ah.map V.int)):=Gj eal (Jd eal ed (λz=>by cases z));have enl7:upd H6 d (.dK (JV kvs' (.inl c) (.bl true))) nl=some (.lst (nw.map V.int)):=Gj enl (Jd enl ed (λz=>by cases z));have ed7:upd H6 d (.dK (JV kvs' (.inl c) (.bl true))) d=some (.dK (JV kvs' (.inl c) (.bl true))):=Ga;have s7:Same H (upd H6 d (.dK (JV kvs' (.inl c) (.bl true)))):=s6.put hHd;generalize upd H6 d (.dK (JV kvs' (.inl c) (.bl true)))=H7 at efl7 eal7 enl7 ed7 s7 ⊢;clear k7;refine ⟨_,rfl,.inl ⟨rfl,_,SqL.of efl7⟩,_,rfl,fl,_,_,rfl,rfl,efl7,by rw [Yac];lia,?_⟩;have efl8:upd H7 fl (.lst (fs'.map V.int++[.int c])) fl=some (.lst ((fs'++[c]).map V.int)):=by rw [Ga,Yap];rfl
     have eal8:upd H7 fl (.lst (fs'.map V.int++[.int c])) al=some (.lst (ah.map V.int)):=Gj eal7 hafl;have enl8:upd H7 fl (.lst (fs'.map V.int++[.int c])) nl=some (.lst (nw.map V.int)):=Gj enl7 hnf;have ed8:upd H7 fl (.lst (fs'.map V.int++[.int c])) d=some (.dK (JV kvs' (.inl c) (.bl true))):=Gj ed7 (Ne.symm hfd);have s8:Same H (upd H7 fl (.lst (fs'.map V.int++[.int c]))):=s7.put hfl;generalize upd H7 fl (.lst (fs'.map V.int++[.int c]))=H8 at efl8 eal8 enl8 ed8 s8 ⊢;obtain ⟨t,et1,et2⟩:=Ur (tr.same s8) n;refine ⟨_,rfl,.inl ⟨rfl,_,SqL.of enl8⟩,_,rfl,_,rfl,_,_,rfl,rfl,l,_,_,_,rfl,rfl,SqL.of (s8 _ _ el),et1,_,rfl,t,_,rfl,SqT.of et2,(λz=>by have:=z.1;simp [HT.sIx] at this),λps hps=>?_⟩;have s9:Same H8 (upd H8 ps (.tup (Uf [.int r.1,.int r.2.1,.int r.2.2] (some 1) none))):=Same.new hps;have eps:upd H8 ps (.tup (Uf [.int r.1,.int r.2.1,.int r.2.2] (some 1) none)) ps=some (.tup [.int r.2.1,.int r.2.2]):=Ga;generalize upd H8 ps (.tup (Uf [.int r.1,.int r.2.1,.int r.2.2] (some 1) none))=H9 at s9 eps ⊢;refine ⟨nl,ps,_,_,rfl,rfl,s9 _ _ enl8,eps,by rw [Yac];show nw.length+2<=sizeLine;lia,?_⟩;refine ⟨fs'++[c],_,nw++[r.2.1,r.2.2],_,rfl,(s8.trans s9).put hHnl,Gj (s9 _ _ efl8) (Ne.symm hnf),Gj (s9 _ _ ed8) (Jd ed8 enl8 (λz=>by cases z)),Gj (s9 _ _ eal8) (Ne.symm hna),by rw [Ga,Yap];rfl,?_,.inr ?_⟩
     ·rw [e2,<-Ybs];exact W'
     ·rw [Yai,Yat];rcases hd with ⟨h,_⟩ | h
      ·rw [h];lia
      ·lia
   ·clear efl ed eal enl s5 W hah;rintro σ' H6 ⟨fs',kvs',nw,v6',rfl,s6,efl,ed,eal,enl,W,hd⟩;rw [Yac,Ybp,List.drop_length,List.nil_append] at W;have hle':=W.le;refine ⟨_,rfl,?_⟩;refine ⟨_,?_,nl,fs',kvs',pr++ah,nw,_,_,rfl,s6,efl,ed,enl,hnf,W,rfl⟩;rw [if_neg hz];rcases hd with ⟨h1,h2⟩ | h
    ·rw [h1,h2,if_pos rfl];lia
    ·split <;> lia
theorem XO {fs:List Int}{y:Int}(h:¬ New fs y):∃a,Jb fs y=some a:=by
 cases e:Jb fs y with
 | none=>exact absurd (New.num.mpr e) h
 | some a=>exact ⟨a,rfl⟩
noncomputable def Zgt (ks:List Tri)(x:Int):Tri:=(ks[(x-2).toNat]?).getD (0,0,0)
theorem Za7 {ks:List Tri}{x:Int}{r:Tri}(n:Nd ks x r):Zgt ks x=r:=by
 unfold Zgt;rw [n.2]
 rfl
noncomputable def Zfw:Sp:=λvs H Q _=>∃(l:Addr)(root:Int)(xs:List V)(ks:List Tri),vs=[.int root,.ref l]/\H l=some (.lst xs)/\Trs H xs ks/\TabOk ks/\ks.length<=900/\At ks root (-1)/\Zd0 H ks root Q
theorem scNum:Gp ["root", "nodes", "found", "numbers", "place", "number", "told"] ["root", "nodes"] (Gf Ze4):=⟨rfl,rfl,rfl,by decide +kernel,rfl,by decide +kernel,by decide +kernel⟩
theorem Zfx {f fF:Addr}{fd fdF:FuncData}(F:Fun K "numbered" "numbered" Ze4 f fd)(FF:Fun K "found_from" "found_from" Ze3 fF fdF)(bF:Binds K fdF ["root", "nodes"] [])(mF:mg "found_from" = some (.ref fF))(GF:G4 P w K mg base CX0 1 fF fdF ["root", "nodes"] Zfu)(mEnum:mg "enumerate" = none) :
  G4 P w K mg base CX0 2 f fd ["root", "nodes"] Zfw:=by
 refine F.ok scNum (λvs H Q E h=>?_) (λcdv A outer s H vs Q E hr h=>?_)
 ·obtain ⟨_,_,_,_,rfl,_⟩:=h
  rfl
 ·obtain ⟨l,root,xs,ks,rfl,el,tr,T,hks,ar,q⟩:=h;have h16:=Ybf.symm;have hu1:(A.deeper (PyProof.Rows.envOfC "numbered" (Gf Ze4) s.heap.objs.size f cdv)).units+1<cLine:=by have:=hr.un;lia
  refine ⟨_,Gc (Gn (i:=2) scNum.nd rfl (Or.inl rfl) (Go GF (hr.mono (by decide)) rfl mF FF.kp bF .nil Je (Gb (pv 0) (Gb (pv 1) Gd))))
    (Gc (Gn (i:=3) scNum.nd rfl (Or.inr rfl) (U1 (Jw Ge Ge (Jw Ge Ge U0)) rfl rfl (by decide) (by decide)))
    (Gc (JJ Ych rfl (ZgM K rfl mEnum (Gb (pv 2) Gd)) (Zbq K (n:=2) rfl (Gq (Gi (i:=4) scNum.nd rfl (Or.inl rfl)) (Gq (Gi (i:=5) scNum.nd rfl (Or.inl rfl)) JX)))
    (Gg (Og hu1 (pv 3) (pv 5) (Gs Jy (pv 4) Ge) rfl)))
    (Gc (ZX (i:=6) scNum.nd rfl (Or.inl rfl) (own:=["number"]) rfl (Gw (fr:=[("nodes", 1)]) [(".0", .local),("number", .local),("nodes", .cell)] rfl rfl (by decide +kernel) rfl (by decide +kernel) ⟨rfl,trivial⟩ ⟨λh=>JE h,λh=>JE h,λ_=>⟨_,rfl⟩,trivial⟩ ⟨⟨rfl,.inl rfl,.inl rfl⟩,trivial⟩) (J3 K (pv 2)) (λ_ _ _ _=>Gi (i:=0) (show List.Nodup (["number", "nodes"]:List Str) by decide +kernel) rfl (Or.inl rfl)) (λ_ _ _ _=>JR) (λ_ _ _ _=>GV (Vg K) (pv 1) (Gs JQ (pv 0) Ge) (λ_ _=>rfl)))
    (Gg (Gr (Jz (Gb (Jq hu1 (pv 3) (pv 0) (λ_ _=>rfl)) (Gb (Jl (own:=["road", "low", "high"]) rfl (Gw (fr:=[("numbers", 3)]) [(".0", .local),("road", .local),("low", .local),("high", .local),("numbers", .cell)] rfl rfl (by decide +kernel) rfl (by decide +kernel) ⟨rfl,trivial⟩ ⟨λh=>JE h,λh=>JE h,λh=>JE h,λh=>JE h,λ_=>⟨_,rfl⟩,trivial⟩ ⟨⟨rfl,.inl rfl,.inl rfl⟩,trivial⟩) (J3 K (pv 6)) (λ_ _ _ _=>Zbq K (n:=3) rfl (Gq (Gi (i:=0) (show List.Nodup (["road", "low", "high", "numbers"]:List Str) by decide +kernel) rfl (Or.inl rfl)) (Gq (Gi (i:=1) (show List.Nodup (["road", "low", "high", "numbers"]:List Str) by decide +kernel) rfl (Or.inl rfl)) (Gq (Gi (i:=2) (show List.Nodup (["road", "low", "high", "numbers"]:List Str) by decide +kernel) rfl (Or.inl rfl)) JX)))) (λ_ _ _ _=>JR) (λ_ _ _ _=>Jz (Gb (pv 0) (Gb (Jq hu1 (pv 3) (pv 1) (λ_ _=>rfl)) (Gb (Jq hu1 (pv 3) (pv 2) (λ_ _=>rfl)) Gd))))) Gd)))))))),?_⟩
  refine ⟨_,rfl,_,rfl,l,root,xs,ks,rfl,el,tr,T,hks,ar,λfl fs H1 s1 efl rch fin nd nod=>?_⟩;have hfl:fs.length<=ks.length:=by
   have:=Ycj (l₂:=(List.range ks.length).map λ(i:Nat)=>(i:Int)+2) nd λx hx=>by
    obtain ⟨r,n⟩:=nod x hx;have h1:=n.lt;have h2:=n.1;exact Yaj.mpr ⟨(x-2).toNat,Yca.mpr (by lia),by lia⟩
   rwa [Yac,Yek] at this
  dsimp only [GX];intro d hd;refine ⟨Ga,[(.inl 0,.int 0),(.inl 1,.int 1)],rfl,by decide,?_⟩;have s2:Same H1 (upd (upd H1 d (.dK [])) d (.dK (GG [] [(.inl 0,.int 0),(.inl 1,.int 1)]))):=(Same.new hd).put hd;have ed:upd (upd H1 d (.dK [])) d (.dK (GG [] [(.inl 0,.int 0),(.inl 1,.int 1)])) d=some (.dK (GG [] [(.inl 0,.int 0),(.inl 1,.int 1)])):=Ga;dsimp only [GX];generalize upd (upd H1 d (.dK [])) d (.dK (GG [] [(.inl 0,.int 0),(.inl 1,.int 1)]))=H2 at s2 ed ⊢;have s12:=s1.trans s2;have efl2:=s2 _ _ efl;have el2:=s12 _ _ el;have tr2:=tr.same s12;have hHd:H d=none:=s1.free hd;refine Gy (λσ' H'=>∃(kvs:List (Key×V))(v4 v5:Option V),σ'=[some (.int root),some (.ref l),some (.ref fl),some (.ref d),v4,v5,none]/\Same H1 H'/\H' d=some (.dK kvs)/\∀n:Int,JL kvs (.inl n)=(Jb fs n).map V.int) ?s1 ?f1
  case f1=>
   intro hk;refine ⟨_,rfl,fl,_,rfl,SqL.of efl2,?_⟩;refine ZbM (K:=K) (a:=fl) (xs:=fs.map V.int) (λi σ' H'=>∃(kvs:List (Key×V))(v4 v5:Option V),σ'=[some (.int root),some (.ref l),some (.ref fl),some (.ref d),v4,v5,none]/\Same H1 H'/\H' d=some (.dK kvs)/\(∀n:Int,JL kvs (.inl n)=(Jb (fs.take i) n).map V.int)/\kvs.length<=i+2)
    ⟨_,none,none,rfl,s2,ed,λn=>by rw [Yeo];exact Zhu n,by decide⟩ (λi σ' H' _ ⟨_,_,_,_,s3,_⟩=>SqL.of (s3 _ _ efl)) ?_ ?_
   ·rintro i x σ' H3 T3 hxi ⟨kvs,v4,v5,rfl,s3,e3,val,len⟩ hT;obtain ⟨c,rfl,hc⟩:=JG hxi;have hi:i<fs.length:=(Yao.mp hc).1;obtain ⟨r,n⟩:=nod c (Yax hc);have hn:Jb (fs.take i) c=none:=New.num.mp ⟨by have:=n.1;lia,by have:=n.1;lia,λz=>by
     have hz:=nd;rw [<-Ydb (i+1) fs,Ybz,hc,Option.toList_some] at hz;exact (Ycf.mp (Ycf.mp hz).1).2.2 c z c (by simp) rfl⟩
    have hdT:d≠T3:=Gh e3 hT;refine ⟨T3,_,rfl,SqT.of Ga,rfl,_,_,rfl,_,_,rfl,rfl,?_⟩;have hl1:=GL kvs (Sum.inl c:Key) (.int ((i:Int)+2));refine ⟨_,rfl,_,_,rfl,rfl,_,rfl,_,rfl,d,_,rfl,DPut.k (k:=Sum.inl c) (Gj e3 hdT) (by lia),?_⟩;refine ⟨_,_,_,rfl,(s3.put (s3.free hT)).put hd,Ga,λm=>?_,Ybo hl1 (by lia)⟩;rw [Ybz,hc,Option.toList_some,OX _ m c hn,G3,val m,Ybm,Yeh (Yed hi)];by_cases e:m=c
    ·rw [if_pos e,if_pos (by rw [e])]
     rfl
    ·rw [if_neg e,if_neg (λz=>e (Yec z))]
   ·rintro σ' H3 ⟨kvs,v4,v5,rfl,s3,e3,val,len⟩;rw [Yac,Ybp] at val;exact hk _ _ ⟨kvs,v4,v5,rfl,s3,e3,val⟩
  rintro σ' H3 ⟨kvs,v4,v5,rfl,s3,e3,val⟩;have tr3:=tr.same (s1.trans s3);refine Gy (λσ' H'=>∃(tl:Addr)(ys:List V),σ'=[some (.int root),some (.ref l),some (.ref fl),some (.ref d),v4,v5,some (.ref tl)]/\Same H3 H'/\H' tl=some (.lst ys)/\Trs H' ys (fs.map (Zgt ks))) ?s2 ?f2
  case f2=>
   intro hk;refine ⟨_,rfl,fl,rfl,⟨_,SqL.of (s3 _ _ efl)⟩,λD hD=>?_⟩;refine Jm (K:=K) (a:=fl) (xs:=fs.map V.int) (λi ys H'=>Same H3 H'/\H' D=some (.lst ys)/\Trs H3 ys ((fs.take i).map (Zgt ks))) ⟨Same.new hD,Ga,by rw [Yeo];exact .nil⟩ (λi ys H' _ ⟨s4,_⟩=>SqL.of (s4 _ _ (s3 _ _ efl))) ?_ ?_
   ·rintro i x ys H4 hxi ⟨s4,hD4,ty⟩;obtain ⟨c,rfl,hc⟩:=JG hxi;have hi:i<fs.length:=(Yao.mp hc).1;obtain ⟨r,n⟩:=nod c (Yax hc);obtain ⟨t,et1,et2⟩:=Ur tr3 n;have hyl:=ty.len;rw [Yac,Ybm] at hyl;refine ⟨⟨rfl,trivial⟩,?_⟩;unfold ZbC;refine OQ ?_;refine ⟨_,rfl,_,rfl,_,_,rfl,rfl,l,_,_,_,rfl,rfl,SqL.of (s4 _ _ ((s1.trans s3) _ _ el)),et1,?_⟩;refine ⟨hD4,by lia,s4.put hD,Ga,?_⟩;rw [Ybz,hc,Option.toList_some,Yap,List.map_singleton,Za7 n];exact ty.snoc et2
   ·rintro ys H4 ⟨s4,hD4,ty⟩;rw [Yac,Ybp] at ty;exact hk _ _ ⟨D,ys,rfl,s4,hD4,ty.same s4⟩
  rintro σ' H4 ⟨tl,ys,rfl,s4,etl,ty⟩;obtain ⟨a0,ha0⟩:=XO (fin root (by unfold OD;exact Ybe));have g0:JL kvs (.inl root)=some (.int a0):=by rw [val,ha0];rfl
  have ed4:=s4 _ _ e3;refine ⟨_,rfl,_,rfl,d,_,rfl,g0▸DGet.k (k:=.inl root) ed4,?_⟩;refine ⟨_,rfl,tl,rfl,⟨_,SqL.of etl⟩,λD hD=>?_⟩;refine Jm (K:=K) (a:=tl) (xs:=ys) (λi zs H'=>Same H4 H'/\H' D=some (.lst zs)/\∃us,Trs H' zs us/\us.length=i/\Said ks fs us i) ⟨Same.new hD,Ga,[],.nil,rfl,λj x hj=>absurd hj (Yda _)⟩ (λi zs H' _ ⟨s5,_⟩=>SqL.of (s5 _ _ etl)) ?_ ?_
  ·rintro i y zs H5 hyi ⟨s5,hD5,us,tus,hus,S⟩;obtain ⟨t,r,rfl,et,er⟩:=ty.get hyi;rw [Yaz] at er;obtain ⟨c,hc,hr'⟩:=Ybu.mp er;obtain ⟨r',n⟩:=nod c (Yax hc);rw [Za7 n] at hr';subst hr';have hi:i<fs.length:=(Yao.mp hc).1;have inS:∀z,z∈[r'.2.1,r'.2.2]->z∈OD ks root fs:=λz hz=>by
    unfold OD;exact Ybb _ (List.mem_flatMap.mpr ⟨c,Yax hc,by rw [VB n];exact hz⟩)
   obtain ⟨a1,ha1⟩:=XO (fin _ (inS r'.2.1 (by simp)));obtain ⟨a2,ha2⟩:=XO (fin _ (inS r'.2.2 (by simp)));have g1:JL kvs (.inl r'.2.1)=some (.int a1):=by rw [val,ha1];rfl
   have g2:JL kvs (.inl r'.2.2)=some (.int a2):=by rw [val,ha2];rfl
   have ed5:=s5 _ _ ed4;have hzl:=tus.len;refine ⟨t,_,rfl,SqT.of (s5 _ _ et),rfl,_,_,rfl,_,_,rfl,_,_,rfl,rfl,⟨rfl,trivial⟩,?_⟩;unfold ZbC;refine OQ ?_;refine ⟨_,rfl,_,rfl,_,rfl,d,_,rfl,g1▸DGet.k (k:=.inl r'.2.1) ed5,_,rfl,_,rfl,d,_,rfl,g2▸DGet.k (k:=.inl r'.2.2) ed5,(by show 3<=sizeLine;decide),λt5 ht5=>?_⟩;have s6:Same H5 (upd H5 t5 (.tup [.int r'.1,.int a1,.int a2])):=Same.new ht5;have et5:upd H5 t5 (.tup [.int r'.1,.int a1,.int a2]) t5=some (.tup [.int r'.1,.int a1,.int a2]):=Ga;generalize upd H5 t5 (.tup [.int r'.1,.int a1,.int a2])=H6 at s6 et5 ⊢;have k5:=G6 (o:=.lst (zs++[.ref t5])) (s6 _ _ hD5);exact ⟨s6 _ _ hD5,by lia,(s5.trans s6).put hD,Ga,us++[(r'.1,a1,a2)],((tus.same s6).keep k5).snoc (k5 _ _ et5),by rw [Yai,Yat,hus],S.snoc hus hc n ha1 ha2⟩
  ·rintro zs H5 ⟨s5,hD5,us,tus,hus,S⟩;have hyl:=ty.len;rw [Yac] at hyl;rw [hyl] at hus S;refine ⟨UA,λp hp=>?_⟩;have s6:Same H5 (upd H5 p (.tup [.int a0,.ref D])):=Same.new hp;have sa:=((s1.trans s3).trans s4).trans s5;exact q p D a0 zs us fs _ (sa.trans s6) (sa.free hp) (((s1.trans s3).trans s4).free hD) ⟨Ga,s6 _ _ hD5,tus.same s6⟩ rch fin nd nod S hus hfl ha0
end
structure LeT {κ:Type}(pf:κ->Pt κ)(s:κ)(a0:Int)(us:List Tri)(ts:List Tri)(root:Int)(fs:List Int):Prop where
 grw:Grw pf s [] ts
 num:NumOk pf ts s root
 rch:Rch ts root fs
 fin:Fin ts root fs
 nd:fs.Nodup
 nod:∀x∈fs,∃r,Nd ts x r
 said:Said ts fs us fs.length
 len:us.length=fs.length
 le:fs.length<=ts.length
 a0:Jb fs root=some a0
section
variable {P:Program}{w:World}{K:W.Frag}{mg:Str->Option Value}{base:Heap}{κ:Type}[DecidableEq κ]{G:GK P w κ}{pf:κ->Pt κ}{Dom:κ->Prop}
noncomputable def Zfy (G:GK P w κ)(pf:κ->Pt κ)(Dom:κ->Prop)(fP TM tb:Addr):Sp:=λvs H Q E=>∃(b:Addr)(s:κ)(U Un:List κ)(M:Int),vs=[.ref b,.ref fP,.int M]/\G.At H b s/\Dom s/\(∀k,Rc pf s k->k∈U)/\(∀k,Rc pf s k->UN (pf k)=true->k∈Un)/\U.length<=10000/\Un.length<=900/\Zg3 pf s/\Abv pf s (-1)/\LD tb H /\
 (∀(p l:Addr)(a0 root:Int)(xs:List V)(us ts:List Tri)(fs:List Int)(H':Hp),SameL tb H H'->LD tb H'->H p=none->H l=none->TabAt H' p l a0 xs us->LeT pf s a0 us ts root fs->ts.length<=Un.length->Q (.ref p) H') /\
 (∀(ts:List Tri)(H':Hp),SameL tb H H'->LD tb H'->Grw pf s [] ts->M<ts.length->ts.length<=Un.length->E (.ref TM) none H')
theorem scLeT:Gp ["start", "parts", "most", "shelf"] ["start", "parts", "most"] (Gf Ze5):=⟨rfl,rfl,rfl,by decide +kernel,rfl,by decide +kernel,by decide +kernel⟩
theorem Zfz {f fI fLd fNu fP C TM tb:Addr}{fd fdI fdLd fdNu:FuncData}{kp:Nat}(F:Fun K "least_table" "least_table" Ze5 f fd)(TS:Zfb K mg C TM)(MkS:Mk K C fI)(bIni:Binds K fdI ["self", "most"] [])(GIni:G4 P w K mg base CX0 1 fI fdI ["self", "most"] (Zfc C))(FLd:Fun K "laid_down" "laid_down" Zed fLd fdLd)(bLd:Binds K fdLd ["start", "parts", "shelf"] [])(mLd:mg "laid_down" = some (.ref fLd))(GLd:G4 P w K mg base (CXr P w) (kp+2) fLd fdLd ["start", "parts", "shelf"] (Zfj G pf Dom fP C TM tb))(FNu:Fun K "numbered" "numbered" Ze4 fNu fdNu)(bNu:Binds K fdNu ["root", "nodes"] [])(mNu:mg "numbered" = some (.ref fNu))(GNu:G4 P w K mg base CX0 2 fNu fdNu ["root", "nodes"] Zfw) :
  G4 P w K mg base (CXr P w) (kp+3) f fd ["start", "parts", "most"] (Zfy G pf Dom fP TM tb):=by
 refine F.okR scLeT (λvs H Q E h=>?_) (λcdv A outer s H vs Q E hr h=>?_)
 ·obtain ⟨_,_,_,_,_,rfl,_⟩:=h
  rfl
 ·obtain ⟨b,st,U,Un,M,rfl,hb,hst,hU,hUn,hUl,hUnl,PO,ab,ld,qq,qe⟩:=h;have hr2:Room 2 (A.deeper (PyProof.Rows.envOfC "least_table" (Gf Ze5) s.heap.objs.size f cdv)):=hr.mono (by lia);refine ⟨_,Gc (Gn (i:=3) scLeT.nd rfl (Or.inl rfl) (Zdg MkS GIni hr2 rfl TS.mgC bIni .nil Je (Gb (pv 2) Gd)))
    (Gg (Gr (Go GNu (hr.mono (by lia)) rfl mNu FNu.kp bNu .nil Je (Gb (Go GLd hr rfl mLd FLd.kp bLd .nil Zdq (Gb (pv 0) (Gb (pv 1) (Gb (pv 3) Gd)))) (Gb (OO (pv 3) rfl) Gd))))),?_⟩
  refine ⟨_,rfl,λp dx hp hdx ndp=>?_⟩;refine ⟨p,dx,.int M,rfl,Ga,λnl pd H2 hnl hpd nnp S2 k2=>⟨rfl,?_⟩⟩;have k1:∀a u,H a=some u->upd (upd H dx (.own p)) p (.ins C dx []) a=some u:=λa u e=>Gj (Gj e (Gh e hdx)) (Gh e hp);have s2:Same H H2:=λa u e=>k2 a u (k1 a u e) (Gh e hp);have hnlH:H nl=none:=by
   cases e:H nl with
   | none=>rfl
   | some u=>rw [k1 _ _ e] at hnl;cases hnl
  have hpdH:H pd=none:=by
   cases e:H pd with
   | none=>rfl
   | some u=>rw [k1 _ _ e] at hpd;cases hpd
  have ld2:LD tb H2:=ld.same s2;obtain ⟨psT,eT⟩:=ld.tbl;have up:∀{H':Hp},FrD nl pd tb H2 H'->SameL tb H H':=λfr a u n e=>fr a u (λz=>by rw [z,hnlH] at e;cases e) (λz=>by rw [z,hpdH] at e;cases e) n (s2 _ _ e);dsimp only [GX];refine ⟨_,rfl,_,rfl,_,rfl,b,p,nl,pd,st,U,Un,M,[],[],[],rfl,G.keep hb (λa ys e=>s2 _ _ e),hst,hU,hUn,by simpa using hUl,PO,ld2,S2,ShOk.nil,λroot xs ts kvs H3 fr ld3 S3 D hl nk=>?_,λts H3 fr ld3 D hM hl=>qe ts H3 (up fr) ld3 D hM (by simpa using hl)⟩;obtain ⟨dx3,ob⟩:=S3.ob;have hl':ts.length<=Un.length:=by simpa using hl
  refine ⟨_,rfl,p,C,dx3,_,_,rfl,ob,TS.cl,TS.nN,Oy _ _ _,?_⟩;refine ⟨nl,root,xs,ts,rfl,S3.nd,S3.tr,D.sh.ok,by lia,nk.at_ (-1) ab,λq l a0 ys us fs H4 s4 hq hlq W rch fin nd nod sd hus hle h0=>?_⟩;obtain ⟨psT3,eT3⟩:=ld3.tbl;exact qq q l a0 root ys us ts fs H4 ((up fr).trans (SameL.of s4)) (ld3.same s4) ((up fr).free eT ⟨_,eT3⟩ hq) ((up fr).free eT ⟨_,eT3⟩ hlq) W ⟨D,nk,rch,fin,nd,nod,sd,hus,hle,h0⟩ hl'
end
noncomputable def Sim (ts ts':List Tri)(c c':Int):Prop:=∀s,Has ts c s↔Has ts' c' s
section
variable {ts ts':List Tri}{c c' lo lo':Int}{r r':Tri}
theorem Sim.symm (h:Sim ts ts' c c'):Sim ts' ts c' c:=λs=>(h s).symm
theorem Za8 (n:Nd ts c r):r∈ts:=Yax n.2
theorem Ua (S:ShOk ts):∀(n:Nat)(c lo:Int),At ts c lo->(30-lo).toNat<=n->c≠0->∃s,Has ts c s
 | n,c,lo,h,hn,h0=>by
  rcases h with h | rfl | ⟨r,m,g⟩
  ·exact absurd h h0
  ·exact ⟨[],.one⟩
  ·obtain ⟨⟨a1,a2⟩,a3,a4⟩:=S.ok.nd m
   match n with
   | 0=>lia
   | n+1=>
    obtain ⟨s,hs⟩:=Ua S n r.2.2 r.1 a4 (by lia) (S.hi r (Za8 m));exact ⟨_,.high m hs⟩
theorem Sim.zero (S:ShOk ts)(h:Sim ts ts' c c')(a:At ts c lo)(e:c'=0):c=0:=by
 subst e;by_cases z:c=0
 ·exact z
 ·obtain ⟨s,hs⟩:=Ua S _ c lo a (Yad _) z;exact absurd ((h s).mp hs) Has.zero
theorem Sim.one (S:ShOk ts)(h:Sim ts ts' c c')(a:At ts c lo)(e:c'=1):c=1:=by
 subst e;rcases a with rfl | z | ⟨r,m,_⟩
 ·exact absurd ((h []).mpr .one) Has.zero
 ·exact z
 ·obtain ⟨s,hs⟩:=Ua S _ r.2.2 r.1 (S.ok.nd m).2.2 (Yad _) (S.hi r (Za8 m));have:=Has.at1.mp ((h _).mp (.high m hs));cases this
theorem Sim.le (S:ShOk ts)(S':ShOk ts')(h:Sim ts ts' c c')(n:Nd ts c r)(n':Nd ts' c' r'):r'.1<=r.1:=by
 obtain ⟨s,hs⟩:=Ua S _ r.2.2 r.1 (S.ok.nd n).2.2 (Yad _) (S.hi r (Za8 n));by_cases z:r.1<r'.1
 ·exact absurd ((h _).mp (.high n hs)) (Has.none S'.ok n' z)
 ·lia
theorem Sim.node (S:ShOk ts)(S':ShOk ts')(h:Sim ts ts' c c')(n:Nd ts c r)(n':Nd ts' c' r'):r.1=r'.1/\Sim ts ts' r.2.1 r'.2.1/\Sim ts ts' r.2.2 r'.2.2:=by
 have e:r.1=r'.1:=by
  have h1:=h.le S S' n n';have h2:=h.symm.le S' S n' n
  lia
 refine ⟨e,λs=>?_,λs=>?_⟩
 ·cases s with
  | nil=>rw [<-Has.nil n,<-Has.nil n'];exact h []
  | cons x xs=>
   by_cases z:r.1=x
   ·constructor
    ·intro k;have:=k.gt S.ok (S.ok.nd n).2.1 rfl
     lia
    ·intro k;have:=k.gt S'.ok (S'.ok.nd n').2.1 rfl
     lia
   ·rw [<-Has.skip S.ok n z,<-Has.skip S'.ok n' (by lia)];exact h _
 ·rw [<-Has.take S.ok n rfl,<-Has.take S'.ok n' e.symm];exact h _
theorem Xc (S:ShOk ts):∀(n:Nat)(c c' lo lo':Int),At ts c lo->At ts c' lo'->(30-lo).toNat<=n->Sim ts ts c c'->c=c'
 | n,c,c',lo,lo',a,a',hn,h=>by
  by_cases z0:c=0
  ·rw [z0,h.symm.zero S a' z0]
  by_cases z1:c=1
  ·rw [z1,h.symm.one S a' z1]
  have y0:c'≠0:=λz=>z0 (h.zero S a z);have y1:c'≠1:=λz=>z1 (h.one S a z);rcases a with z | z | ⟨r,m,g⟩
  ·exact absurd z z0
  ·exact absurd z z1
  rcases a' with z | z | ⟨r',m',g'⟩
  ·exact absurd z y0
  ·exact absurd z y1
  obtain ⟨e1,e2,e3⟩:=h.node S S m m';obtain ⟨⟨a1,a2⟩,a3,a4⟩:=S.ok.nd m;obtain ⟨_,b3,b4⟩:=S.ok.nd m'
  match n with
  | 0=>lia
  | n+1=>
   have f2:=Xc S n _ _ _ _ a3 b3 (by lia) e2;have f3:=Xc S n _ _ _ _ a4 b4 (by lia) e3;have er:r=r':=Prod.ext e1 (Prod.ext f2 f3);subst er;obtain ⟨h1,h2⟩:=Yao.mp m.2;obtain ⟨h3,h4⟩:=Yao.mp m'.2;have:(c-2).toNat=(c' - 2).toNat:=by
    rcases Yej (c-2).toNat (c' - 2).toNat with z | z | z
    ·exact absurd (h2.trans h4.symm) (Yei.mp S.nd _ _ h1 h3 z)
    ·exact z
    ·exact absurd (h4.trans h2.symm) (Yei.mp S.nd _ _ h3 h1 z)
   have g1:=m.1;have g2:=m'.1
   lia
end
inductive All2 {α β:Type}(R:α->β->Prop):List α->List β->Prop
 | nil:All2 R [] []
 | cons {x:α} {y:β} {xs:List α} {ys:List β}:R x y->All2 R xs ys->All2 R (x::xs) (y::ys)
section
variable {α β:Type}{R R':α->β->Prop}{xs xs':List α}{ys ys':List β}
theorem All2.len (h:All2 R xs ys):xs.length=ys.length:=by
 induction h with
 | nil=>rfl
 | cons _ _ ih=>simp [ih]
theorem All2.app (h:All2 R xs ys)(h':All2 R xs' ys'):All2 R (xs++xs') (ys++ys'):=by
 induction h with
 | nil=>exact h'
 | cons a _ ih=>exact .cons a ih
theorem All2.get (h:All2 R xs ys):∀{i:Nat}{x:α}{y:β},xs[i]?=some x->ys[i]?=some y->R x y:=by
 induction h with
 | nil=>intro i x y e;simp at e
 | cons a _ ih=>
  intro i x y e e';cases i with
  | zero=>simp at e e';subst e e';exact a
  | succ i=>exact ih (by simpa using e) (by simpa using e')
theorem All2.memR (h:All2 R xs ys){y:β}(hy:y∈ys):∃x∈xs,R x y:=by
 induction h with
 | nil=>cases hy
 | cons a _ ih=>
  rcases Yas.mp hy with rfl | hy
  ·exact ⟨_,Ybe,a⟩
  ·obtain ⟨x,hx,r⟩:=ih hy;exact ⟨x,Ybb _ hx,r⟩
end
section
variable {ts ts':List Tri}{root root':Int}
structure SimA (ts ts':List Tri)(c c':Int):Prop where
 s:Sim ts ts' c c'
 a:At ts c (-1)
 b:At ts' c' (-1)
theorem SimA.symm {c c':Int}(h:SimA ts ts' c c'):SimA ts' ts c' c:=⟨h.s.symm,h.b,h.a⟩
theorem SimA.new {f g:List Int}{y y':Int}(S:ShOk ts)(S':ShOk ts')(A:All2 (SimA ts ts') f g)(h:SimA ts ts' y y')(n:New f y):New g y':=by
 refine ⟨λz=>n.1 (h.s.zero S h.a z),λz=>n.2.1 (h.s.one S h.a z),λz=>?_⟩;obtain ⟨x,hx,k⟩:=A.memR z;have:y=x:=Xc S _ _ _ _ _ h.a k.a (Yad _) λs=>(h.s s).trans (k.s s).symm;exact n.2.2 (this▸hx)
theorem All2.symm {α β:Type}{R:α->β->Prop}{xs:List α}{ys:List β}(h:All2 R xs ys):All2 (λy x=>R x y) ys xs:=by
 induction h with
 | nil=>exact .nil
 | cons a _ ih=>exact .cons a ih
theorem All2.imp {α β:Type}{R R':α->β->Prop}{xs:List α}{ys:List β}(h:All2 R xs ys)(k:∀x y,R x y->R' x y):All2 R' xs ys:=by
 induction h with
 | nil=>exact .nil
 | cons a _ ih=>exact .cons (k _ _ a) ih
theorem Yy (S:ShOk ts)(S':ShOk ts')(hr:SimA ts ts' root root'){f g:List Int}(A:All2 (SimA ts ts') f g)(hf:∀x∈f,2<=x):All2 (SimA ts ts') (OD ts root f) (OD ts' root' g):=by
 unfold OD;refine .cons hr ?_
 induction A with
 | nil=>exact .nil
 | @cons x y xs ys a A ih=>
  rw [List.flatMap_cons,List.flatMap_cons];refine All2.app ?_ (ih λz hz=>hf z (Ybb _ hz));have h2:=hf x Ybe;obtain ⟨r,n,_⟩:=a.a.nd (by lia);have y0:y≠0:=λz=>by have:=a.s.zero S a.a z;lia
  have y1:y≠1:=λz=>by have:=a.s.one S a.a z;lia
  obtain ⟨r',n',_⟩:=a.b.nd (by have:=a.b.lt;lia);obtain ⟨e1,e2,e3⟩:=a.s.node S S' n n';obtain ⟨p1,p2,p3⟩:=S.ok.nd n;obtain ⟨q1,q2,q3⟩:=S'.ok.nd n';rw [VB n,VB n'];exact .cons ⟨e2,p2.mono (by lia),q2.mono (by lia)⟩ (.cons ⟨e3,p3.mono (by lia),q3.mono (by lia)⟩ .nil)
theorem Zd1 (S:ShOk ts)(S':ShOk ts')(hr:SimA ts ts' root root'){f g:List Int}(A:All2 (SimA ts ts') f g)(hf:∀x∈f,2<=x){x:Int}(h:Ext ts root f x):∃y,Ext ts' root' g y/\SimA ts ts' x y:=by
 obtain ⟨p,q,e,n,old⟩:=h;have B:=Yy S S' hr A hf;have hl:=B.len;rw [e,Yai,Ybn] at hl;have hp:p.length<(OD ts' root' g).length:=by lia
 have gx:(OD ts root f)[p.length]?=some x:=by rw [e,Yce (Yad _),Ydo];rfl
 have gy:(OD ts' root' g)[p.length]?=some (OD ts' root' g)[p.length]:=Yau hp;have k:=B.get gx gy;refine ⟨_,⟨(OD ts' root' g).take p.length,(OD ts' root' g).drop (p.length+1),?_,k.new S S' A n,λy hy hn=>?_⟩,k⟩
 ·rw [<-Yfo hp,Ydb]
 ·obtain ⟨j,hj,ej⟩:=Ycw hy;rw [Ybm] at hj;rw [List.getElem_take] at ej;have gj:(OD ts root f)[j]?=some p[j]:=by rw [e,Yby (by lia)];exact Yau (by lia)
  have kj:=B.get gj (Yau (by lia));rw [ej] at kj;exact old _ (List.getElem_mem (by lia)) (kj.symm.new S' S (A.symm.imp λ_ _ z=>z.symm) hn)
theorem Za9 {f:List Int}(S:ShOk ts)(a:At ts root (-1))(h:Rch ts root f):∀x∈f,2<=x:=by
 intro x hx;obtain ⟨i,hi,e⟩:=Ycw hx;obtain ⟨p,q,es,n,_⟩:=h.at i x (by rw [Yau hi,e]);have hm:x∈OD ts root (f.take i):=by rw [es];simp
 have h0:0<=x:=by
  unfold OD at hm;rcases Yas.mp hm with rfl | hm
  ·exact a.lt.1
  ·obtain ⟨y,_,hy⟩:=List.mem_flatMap.mp hm;unfold chT at hy;cases e2:ts[(y-2).toNat]? with
   | none=>rw [e2] at hy;cases hy
   | some r=>
    rw [e2] at hy;obtain ⟨_,b1,b2⟩:=S.ok _ r e2;simp at hy;rcases hy with rfl | rfl
    ·exact b1.lt.1
    ·exact b2.lt.1
 have:=n.1;have:=n.2.1
 lia
theorem Zd2 (S:ShOk ts)(S':ShOk ts')(hr:SimA ts ts' root root'){f:List Int}(h:Rch ts root f):∃g,Rch ts' root' g/\All2 (SimA ts ts') f g:=by
 induction h with
 | nil=>exact ⟨[],.nil,.nil⟩
 | @snoc f x h e ih=>
  obtain ⟨g,hg,A⟩:=ih;obtain ⟨y,ey,k⟩:=Zd1 S S' hr A (Za9 S hr.a h) e;exact ⟨g++[y],.snoc hg ey,A.app (.cons k .nil)⟩
theorem Zd3 (S:ShOk ts)(S':ShOk ts')(hr:SimA ts ts' root root'){f g:List Int}(h:Rch ts root f)(A:All2 (SimA ts ts') f g)(hf:Fin ts root f):Fin ts' root' g:=by
 intro y hy hn;obtain ⟨x,hx,k⟩:=(Yy S S' hr A (Za9 S hr.a h)).memR hy;exact hf x hx (k.symm.new S' S (A.symm.imp λ_ _ z=>z.symm) hn)
end
section
variable {ts ts':List Tri}
theorem Zcn (S:ShOk ts)(S':ShOk ts'){x y x' y':Int}(h:SimA ts ts' x x')(k:SimA ts ts' y y'):x=y↔x'=y':=
 ⟨λe=>Xc S' _ _ _ _ _ h.b k.b (Yad _) λs=>(h.s s).symm.trans (by rw [e];exact k.s s),
  λe=>Xc S _ _ _ _ _ h.a k.a (Yad _) λs=>(h.s s).trans (by rw [e];exact (k.s s).symm)⟩
theorem Zd4 (S:ShOk ts)(S':ShOk ts'){f g:List Int}{y y':Int}(A:All2 (SimA ts ts') f g)(k:SimA ts ts' y y'):f.idxOf? y=g.idxOf? y':=by
 induction A with
 | nil=>rfl
 | @cons a b f g h A ih=>
  have e:=Zcn S S' h k;unfold List.idxOf? at ih ⊢;rw [List.findIdx?_cons,List.findIdx?_cons,ih];by_cases z:a=y
  ·simp [z,e.mp z]
  ·have z':¬ b=y':=λq=>z (e.mpr q);simp [z,z']
theorem XQ (S:ShOk ts)(S':ShOk ts'){f g:List Int}{y y':Int}(A:All2 (SimA ts ts') f g)(k:SimA ts ts' y y'):Jb f y=Jb g y':=by
 unfold Jb;by_cases h0:y=0
 ·rw [if_pos h0,if_pos (k.symm.s.zero S' k.b h0)]
 rw [if_neg h0,if_neg (λz=>h0 (k.s.zero S k.a z))];by_cases h1:y=1
 ·rw [if_pos h1,if_pos (k.symm.s.one S' k.b h1)]
 rw [if_neg h1,if_neg (λz=>h1 (k.s.one S k.a z)),Zd4 S S' A k]
theorem Yz (S:ShOk ts)(S':ShOk ts'){root root' a0 a0':Int}{fs fs':List Int}{us us':List Tri}(hr:SimA ts ts' root root')(R:Rch ts root fs)(Fi:Fin ts root fs)(Sd:Said ts fs us fs.length)(hl:us.length=fs.length)(h0:Jb fs root=some a0)(R':Rch ts' root' fs')(Fi':Fin ts' root' fs')(Sd':Said ts' fs' us' fs'.length)(hl':us'.length=fs'.length)(h0':Jb fs' root'=some a0'):us=us'/\a0=a0':=by
 obtain ⟨g,Rg,A⟩:=Zd2 S S' hr R;obtain rfl:=Rg.eq (Zd3 S S' hr R A Fi) R' Fi';have qW:=A.len;refine ⟨List.ext_getElem? λj=>?_,?_⟩
 ·by_cases hj:j<fs.length
  ·obtain ⟨r,a,b,n,ha,hb,eu⟩:=Sd j _ hj (Yau hj);obtain ⟨r',a',b',n',ha',hb',eu'⟩:=Sd' j _ (by lia) (Yau (show j<g.length by lia));have k:=A.get (Yau hj) (Yau (show j<g.length by lia));obtain ⟨e1,e2,e3⟩:=k.s.node S S' n n';obtain ⟨p1,p2,p3⟩:=S.ok.nd n;obtain ⟨q1,q2,q3⟩:=S'.ok.nd n';rw [XQ S S' A ⟨e2,p2.mono (by lia),q2.mono (by lia)⟩,ha'] at ha;rw [XQ S S' A ⟨e3,p3.mono (by lia),q3.mono (by lia)⟩,hb'] at hb;cases ha;cases hb;rw [eu,eu',e1]
  ·rw [Yfp (by lia),Yfp (by lia)]
 ·rw [XQ S S' A hr,h0'] at h0;exact (Ybl h0).symm
end
section
variable {ts us:List Tri}{fs:List Int}
theorem UO (Sd:Said ts fs us fs.length){c a:Int}(hc:1<c)(e:Jb fs c=some a):∃(r:Tri)(a1 b1:Int),Nd ts c r/\Jb fs r.2.1=some a1/\Jb fs r.2.2=some b1/\Nd us a (r.1,a1,b1):=by
 obtain ⟨h2,e2⟩:=V5 e hc;obtain ⟨r,a1,b1,n,h3,h4,eu⟩:=Sd _ c (Yao.mp e2).1 e2;exact ⟨r,a1,b1,n,h3,h4,h2,eu⟩
theorem Zba (Sd:Said ts fs us fs.length){c:Int}{s:List Int}(h:Has ts c s):∀{a:Int},Jb fs c=some a->Has us a s:=by
 induction h with
 | one=>
  intro a e;rw [OZ] at e;cases e;exact .one
 | low n _ ih=>
  intro a e;obtain ⟨r,a1,b1,n',h1,h2,m⟩:=UO Sd (by have:=n.1;lia) e;rw [n.one n'] at ih;exact .low m (ih h1)
 | high n _ ih=>
  intro a e;obtain ⟨r,a1,b1,n',h1,h2,m⟩:=UO Sd (by have:=n.1;lia) e;rw [n.one n'] at ih ⊢;have z:=Has.high m (ih h2);exact z
theorem Us {c a:Int}(e:Jb fs c=some a)(h0:0<=c)(hc:¬ 1<c):c=a:=by
 have:c=0\/c=1:=by lia
 rcases this with rfl | rfl
 ·rw [OY] at e;exact Ybl e
 ·rw [OZ] at e;exact Ybl e
theorem Zco {c a:Int}(e:Jb fs c=some a)(hc:1<c):2<=a:=(V5 e hc).1
theorem Xd (T:TabOk ts)(Sd:Said ts fs us fs.length){a:Int}{s:List Int}(h:Has us a s):∀{c lo:Int},At ts c lo->Jb fs c=some a->Has ts c s:=by
 induction h with
 | one=>
  intro c lo at_ e;by_cases hc:1<c
  ·have:=Zco e hc
   lia
  ·rw [Us e at_.lt.1 hc];exact .one
 | low n _ ih=>
  intro c lo at_ e;have hc:1<c:=by
   by_cases hc:1<c
   ·exact hc
   ·have:=Us e at_.lt.1 hc;have:=n.1
    lia
  obtain ⟨r,a1,b1,n',h1,h2,m⟩:=UO Sd hc e;rw [n.one m] at ih;exact .low n' (ih (T.nd n').2.1 h1)
 | high n _ ih=>
  intro c lo at_ e;have hc:1<c:=by
   by_cases hc:1<c
   ·exact hc
   ·have:=Us e at_.lt.1 hc;have:=n.1
    lia
  obtain ⟨r,a1,b1,n',h1,h2,m⟩:=UO Sd hc e;rw [n.one m] at ih ⊢;have z:=Has.high n' (ih (T.nd n').2.2 h2);exact z
end
section
variable {κ:Type}{pf:κ->Pt κ}{s:κ}{a0 root:Int}{us ts:List Tri}{fs:List Int}
theorem LeT.tab (L:LeT pf s a0 us ts root fs):TabOk us:=L.said.tab L.grw.sh.ok L.len
theorem LeT.at_ (L:LeT pf s a0 us ts root fs)(ab:Abv pf s (-1)):At us a0 (-1):=L.said.at (L.num.at_ _ ab) L.a0
theorem LeT.has (L:LeT pf s a0 us ts root fs)(ab:Abv pf s (-1))(x:List Int):Has us a0 x↔Zr pf s x:=
 (show Has us a0 x↔Has ts root x from ⟨λh=>Xd L.grw.sh.ok L.said h (L.num.at_ _ ab) L.a0,λh=>Zba L.said h L.a0⟩).trans (L.num.has x)
theorem LeT.one {κ':Type}{pf':κ'->Pt κ'}{s':κ'}{a0' root':Int}{us' ts':List Tri}{fs':List Int}(L:LeT pf s a0 us ts root fs)(ab:Abv pf s (-1))(L':LeT pf' s' a0' us' ts' root' fs')(ab':Abv pf' s' (-1))(h:∀x,Zr pf s x↔Zr pf' s' x):us=us'/\a0=a0':=
 Yz L.grw.sh L'.grw.sh ⟨λx=>(L.num.has x).trans ((h x).trans (L'.num.has x).symm),L.num.at_ _ ab,L'.num.at_ _ ab'⟩ L.rch L.fin L.said L.len L.a0 L'.rch L'.fin L'.said L'.len L'.a0
theorem LeT.same {ks vs:List Tri}{b0 rt:Int}{gs:List Int}(L:LeT pf s a0 us ts root fs)(ab:Abv pf s (-1))(S:ShOk ks)(ar:At ks rt (-1))(R:Rch ks rt gs)(Fi:Fin ks rt gs)(Sd:Said ks gs vs gs.length)(hl:vs.length=gs.length)(h0:Jb gs rt=some b0)(h:∀x,Has ks rt x↔Zr pf s x):vs=us/\b0=a0:=
 Yz S L.grw.sh ⟨λx=>(h x).trans (L.num.has x).symm,ar,L.num.at_ _ ab⟩ R Fi Sd hl h0 L.rch L.fin L.said L.len L.a0
end
section
variable {P:Program}{w:World}
noncomputable def gkF (P:Program)(w:World):GK P w (List (List Int)):=⟨Yq P w,KeyTT,λok x=>ZeW ok x,λx t=>x.keep t,λhu=>Zcc hu⟩
theorem YA:∀{xs ys:List Int},xs.map V.int=ys.map V.int->xs=ys
 | [],[],_=>rfl
 | [],_::_,h=>by simp at h
 | _::_,[],h=>by simp at h
 | x::xs,y::ys,h=>by
  rw [Yaq,Yaq] at h;injection h with h1 h2
  injection h1 with h1
  rw [h1,YA h2]
theorem YB:∀{xs ys:List Addr},xs.map V.ref=ys.map V.ref->xs=ys
 | [],[],_=>rfl
 | [],_::_,h=>by simp at h
 | _::_,[],h=>by simp at h
 | x::xs,y::ys,h=>by
  rw [Yaq,Yaq] at h;injection h with h1 h2
  injection h1 with h1
  rw [h1,YB h2]
theorem YC {H:Hp}:∀{k k':List (List Int)}{cs:List Addr},Paired (λ(row:List Int) (c:Addr)=>H c=some (.tup (row.map V.int))) k cs->Paired (λ(row:List Int) (c:Addr)=>H c=some (.tup (row.map V.int))) k' cs->k=k'
 | _,_,_,.nil,.nil=>rfl
 | _,_,_,.cons a p,.cons b q=>by
  rw [a] at b;have e:=HO.tup.inj (Ybl b);rw [YA e,YC p q]
theorem Zd5 {H:Hp}{b:Addr}{k k':List (List Int)}(h:(gkF P w).At H b k)(h':(gkF P w).At H b k'):k=k':=by
 obtain ⟨cs,e,p⟩:=h;obtain ⟨cs',e',p'⟩:=h';rw [e] at e';have:=YB (HO.tup.inj (Ybl e'));subst this;exact YC p p'
end
noncomputable def Zbb:List Int->Int
 | []=>0
 | [x]=>x
 | x::y::xs=>min x (Zbb (y::xs))
theorem YD:∀{xs:List Int},xs≠[]->Zbb xs∈xs
 | [],h=>absurd rfl h
 | [x],_=>by simp [Zbb]
 | x::y::xs,_=>by
  have:=YD (xs:=y::xs) (by simp);show min x (Zbb (y::xs))∈_;by_cases h:x<=Zbb (y::xs)
  ·rw [show min x (Zbb (y::xs))=x by lia];exact Ybe
  ·rw [show min x (Zbb (y::xs))=Zbb (y::xs) by lia];exact Ybb _ this
theorem Zbc:∀{xs:List Int}{x:Int},x∈xs->Zbb xs<=x
 | [y],x,h=>by rw [Yah.mp h];exact Int.le_refl _
 | y::z::xs,x,h=>by
  show min y (Zbb (z::xs))<=x;rcases Yas.mp h with rfl | h
  ·lia
  ·have:=Zbc h
   lia
noncomputable abbrev Fam:=List (List Int)
noncomputable def Oz (F:Fam):Int:=Zbb (F.filterMap List.head?)
noncomputable def woF (F:Fam):Fam:=F.filter λs=>decide (s.take 1≠[Oz F])
noncomputable def chF (F:Fam):Fam:=(F.filter λs=>decide (s.take 1=[Oz F])).map (List.drop 1)
noncomputable def pfF (F:Fam):Pt Fam:=if F=[] then .leaf 0 else if F=[[]] then .leaf 1 else .node (Oz F) (woF F) (chF F)
noncomputable def wF (F:Fam):Nat:=(F.map λs=>s.length+1).sum
theorem take1 {s:List Int}{m:Int}:s.take 1=[m]↔s=m::s.drop 1:=by
 cases s with
 | nil=>simp
 | cons a s=>simp
theorem Zbd {F:Fam}(nd:F.Nodup)(h0:F≠[])(h1:F≠[[]]):∃s∈F,s≠[]:=by
 match F,h0 with
 | [s],_=>exact ⟨s,by simp,λz=>h1 (by rw [z])⟩
 | s::t::F,_=>
  by_cases hs:s=[]
  ·refine ⟨t,by simp,λz=>?_⟩;rw [hs,z] at nd;simp at nd
  ·exact ⟨s,by simp,hs⟩
theorem Op {F:Fam}(nd:F.Nodup)(h0:F≠[])(h1:F≠[[]]):∃s,Oz F::s∈F:=by
 obtain ⟨s,hs,hne⟩:=Zbd nd h0 h1;have:F.filterMap List.head?≠[]:=λz=>by
  cases s with
  | nil=>exact hne rfl
  | cons a s=>
   have hm:a∈F.filterMap List.head?:=Yde.mpr ⟨_,hs,rfl⟩;rw [z] at hm;cases hm
 obtain ⟨t,ht,e⟩:=Yde.mp (YD this);cases t with
 | nil=>cases e
 | cons a t=>
  cases e;exact ⟨t,ht⟩
theorem Zbe {F:Fam}{a:Int}{s:List Int}(h:a::s∈F):Oz F<=a:=Zbc (Yde.mpr ⟨_,h,rfl⟩)
theorem mem_ch {F:Fam}{s:List Int}:s∈chF F↔Oz F::s∈F:=by
 unfold chF;constructor
 ·intro h;obtain ⟨t,ht,rfl⟩:=Yaj.mp h;obtain ⟨h1,h2⟩:=Ybt.mp ht;rw [<-take1.mp (Ybw h2)];exact h1
 ·intro h;exact Yaj.mpr ⟨_,Ybt.mpr ⟨h,by simp⟩,rfl⟩
theorem mem_wo {F:Fam}{s:List Int}:s∈woF F↔s∈F/\s.take 1≠[Oz F]:=by
 unfold woF;rw [Ybt,decide_eq_true_eq]
theorem ZfA {F:Fam}(h:F.Nodup):(woF F).Nodup:=h.sublist Yge
theorem ZfB {F:Fam}(h:F.Nodup):(chF F).Nodup:=by
 unfold chF;refine Ybq.mpr ((h.sublist Yge).imp_of_mem λ{a b} ha hb n e=>n ?_);rw [take1.mp (Ybw (Ybt.mp ha).2),take1.mp (Ybw (Ybt.mp hb).2),e]
theorem Zbf (m:Int):∀F:Fam,wF (F.filter λs=>decide (s.take 1≠[m]))+wF ((F.filter λs=>decide (s.take 1=[m])).map (List.drop 1))+(F.filter λs=>decide (s.take 1=[m])).length=wF F
 | []=>rfl
 | s::F=>by
  have ih:=Zbf m F;by_cases h:s.take 1=[m]
  ·have e:=take1.mp h;rw [Yfi (by simp [h]),Yet (by simp [h]),Yaq,Ybn];have hl:s.length=(s.drop 1).length+1:=by rw [Ybc List.length e];rfl
   simp only [wF,Yaq,List.sum_cons] at ih ⊢
   lia
  ·rw [Yet (by simp [h]),Yfi (by simp [h])];simp only [wF,Yaq,List.sum_cons] at ih ⊢
   lia
theorem Zbg {F:Fam}(nd:F.Nodup)(h0:F≠[])(h1:F≠[[]]):wF (woF F)<wF F/\wF (chF F)<wF F:=by
 have:=Zbf (Oz F) F;obtain ⟨s,hs⟩:=Op nd h0 h1;have hl:0<(F.filter λs=>decide (s.take 1=[Oz F])).length:=List.length_pos_of_mem (Ybt.mpr ⟨hs,by simp⟩);unfold woF chF
 lia
theorem Zd6:∀(n:Nat)(F:Fam),wF F<=n->F.Nodup->∀s,Zr pfF F s↔s∈F:=by
 intro n
 induction n with
 | zero=>
  intro F hn nd s;have hF:F=[]:=by
   cases F with
   | nil=>rfl
   | cons a F=>simp [wF] at hn
  subst hF;have e:pfF []=.leaf 0:=by simp [pfF]
  constructor
  ·intro h;cases h with
   | one e'=>rw [e] at e';cases e'
   | lo e' _=>rw [e] at e';cases e'
   | hi e' _=>rw [e] at e';cases e'
  ·intro h;cases h
 | succ n ih=>
  intro F hn nd s;by_cases h0:F=[]
  ·subst h0;exact ih [] (by simp [wF]) nd s
  by_cases h1:F=[[]]
  ·have e:pfF F=.leaf 1:=by simp [pfF,h1]
   rw [h1,Yah,<-h1];constructor
   ·intro h;cases h with
    | one _=>rfl
    | lo e' _=>rw [e] at e';cases e'
    | hi e' _=>rw [e] at e';cases e'
   ·rintro rfl;exact .one e
  ·have e:pfF F=.node (Oz F) (woF F) (chF F):=by unfold pfF;rw [if_neg h0,if_neg h1]
   obtain ⟨l1,l2⟩:=Zbg nd h0 h1;have i1:=ih (woF F) (by lia) (ZfA nd);have i2:=ih (chF F) (by lia) (ZfB nd);constructor
   ·intro h;cases h with
    | one e'=>rw [e] at e';cases e'
    | lo e' k=>rw [e] at e';cases e';exact (mem_wo.mp ((i1 _).mp k)).1
    | hi e' k=>rw [e] at e';cases e';exact mem_ch.mp ((i2 _).mp k)
   ·intro h;by_cases z:s.take 1=[Oz F]
    ·have es:=take1.mp z;rw [es] at h ⊢;exact .hi e ((i2 _).mpr (mem_ch.mpr h))
    ·exact .lo e ((i1 _).mpr (mem_wo.mpr ⟨h,z⟩))
structure FamOk (F:Fam):Prop where
 nd:F.Nodup
 up:∀s∈F,s.Pairwise (· < ·)
 rg:∀s∈F,∀x∈s,0<=x/\x<30
theorem FamOk.wo {F:Fam}(h:FamOk F):FamOk (woF F):=⟨ZfA h.nd,λs hs=>h.up s (mem_wo.mp hs).1,λs hs=>h.rg s (mem_wo.mp hs).1⟩
theorem FamOk.ch {F:Fam}(h:FamOk F):FamOk (chF F):=⟨ZfB h.nd,λs hs=>(Ydc.mp (h.up _ (mem_ch.mp hs))).2,λs hs x hx=>h.rg _ (mem_ch.mp hs) x (Ybb _ hx)⟩
theorem Jr {F a b:Fam}{r:Int}(e:pfF F=.node r a b):F≠[]/\F≠[[]]/\r=Oz F/\a=woF F/\b=chF F:=by
 unfold pfF at e;by_cases h0:F=[]
 ·rw [if_pos h0] at e;cases e
 rw [if_neg h0] at e;by_cases h1:F=[[]]
 ·rw [if_pos h1] at e;cases e
 rw [if_neg h1] at e;cases e;exact ⟨h0,h1,rfl,rfl,rfl⟩
theorem Zcp {F:Fam}{n:Int}(e:pfF F=.leaf n):n=0\/n=1:=by
 unfold pfF at e;by_cases h0:F=[]
 ·rw [if_pos h0] at e;cases e;exact .inl rfl
 rw [if_neg h0] at e;by_cases h1:F=[[]]
 ·rw [if_pos h1] at e;cases e;exact .inr rfl
 rw [if_neg h1] at e;cases e
theorem ZcX {F k:Fam}(h:FamOk F)(r:Rc pfF F k):FamOk k:=by
 induction r with
 | start=>exact h
 | lo _ e ih=>rw [(Jr e).2.2.2.1];exact ih.wo
 | hi _ e ih=>rw [(Jr e).2.2.2.2];exact ih.ch
theorem Wt {F:Fam}(h:FamOk F):Zg3 pfF F:=by
 refine ⟨λk n _ e=>Zcp e,λk r a b hk e=>?_⟩;obtain ⟨h0,h1,rfl,rfl,rfl⟩:=Jr e;have K:=ZcX h hk;obtain ⟨s,hs⟩:=Op K.nd h0 h1;refine ⟨K.rg _ hs _ Ybe,λr' a' b' e'=>?_,λr' a' b' e'=>?_⟩
 ·obtain ⟨g0,g1,rfl,_,_⟩:=Jr e';obtain ⟨t,ht⟩:=Op K.wo.nd g0 g1;obtain ⟨m1,m2⟩:=mem_wo.mp ht;have:=Zbe m1;have hne:Oz (woF k)≠Oz k:=λz=>m2 (by rw [z];rfl)
  lia
 ·obtain ⟨g0,g1,rfl,_,_⟩:=Jr e';obtain ⟨t,ht⟩:=Op K.ch.nd g0 g1;exact (Ydc.mp (K.up _ (mem_ch.mp ht))).1 _ Ybe
noncomputable def OM:Nat->Fam->List Fam
 | 0,F=>[F]
 | n+1,F=>F::if F=[]\/F=[[]] then [] else OM n (woF F)++OM n (chF F)
theorem Wu (n:Nat)(F:Fam):F∈OM n F:=by cases n <;> simp [OM]
theorem UP:∀(n:Nat)(F:Fam),wF F<=n->FamOk F->∀k∈OM n F,∀r a b,pfF k=.node r a b->a∈OM n F/\b∈OM n F
 | 0,F,hn,h,k,hk,r,a,b,e=>by
  have hF:F=[]:=by
   cases F with
   | nil=>rfl
   | cons s F=>simp [wF] at hn
  subst hF;rw [Yah.mp hk] at e;exact absurd rfl (Jr e).1
 | n+1,F,hn,h,k,hk,r,a,b,e=>by
  unfold OM at hk ⊢;by_cases z:F=[]\/F=[[]]
  ·rw [if_pos z] at hk;rw [Yah.mp hk] at e;obtain ⟨h0,h1,_⟩:=Jr e;exact absurd z (by simp [h0,h1])
  ·rw [if_neg z] at hk ⊢;have z0:F≠[]:=λq=>z (.inl q);have z1:F≠[[]]:=λq=>z (.inr q);obtain ⟨l1,l2⟩:=Zbg h.nd z0 z1;rcases Yas.mp hk with rfl | hk
   ·obtain ⟨_,_,_,rfl,rfl⟩:=Jr e;exact ⟨Ybb _ (Ydd _ (Wu _ _)),Ybb _ (Ycb _ (Wu _ _))⟩
   ·rcases Yag.mp hk with hk | hk
    ·obtain ⟨i1,i2⟩:=UP n (woF F) (by lia) h.wo k hk r a b e;exact ⟨Ybb _ (Ydd _ i1),Ybb _ (Ydd _ i2)⟩
    ·obtain ⟨i1,i2⟩:=UP n (chF F) (by lia) h.ch k hk r a b e;exact ⟨Ybb _ (Ycb _ i1),Ybb _ (Ycb _ i2)⟩
theorem YE {F k:Fam}(h:FamOk F)(r:Rc pfF F k):k∈OM (wF F) F:=by
 induction r with
 | start=>exact Wu _ _
 | lo _ e ih=>exact (UP _ _ (Yad _) h _ ih _ _ _ e).1
 | hi _ e ih=>exact (UP _ _ (Yad _) h _ ih _ _ _ e).2
noncomputable def lF (F:Fam):Nat:=(F.map List.length).sum
theorem Zbh (m:Int):∀F:Fam,lF (F.filter λs=>decide (s.take 1≠[m]))+lF ((F.filter λs=>decide (s.take 1=[m])).map (List.drop 1))+(F.filter λs=>decide (s.take 1=[m])).length=lF F
 | []=>rfl
 | s::F=>by
  have ih:=Zbh m F;by_cases h:s.take 1=[m]
  ·have e:=take1.mp h;rw [Yfi (by simp [h]),Yet (by simp [h]),Yaq,Ybn];have hl:s.length=(s.drop 1).length+1:=by rw [Ybc List.length e];rfl
   simp only [lF,Yaq,List.sum_cons] at ih ⊢
   lia
  ·rw [Yet (by simp [h]),Yfi (by simp [h])];simp only [lF,Yaq,List.sum_cons] at ih ⊢
   lia
noncomputable def ndB (F:Fam):Bool:=match pfF F with | .leaf _=>false | .node ..=>true
theorem Ve:∀(n:Nat)(F:Fam),FamOk F->((OM n F).filter ndB).length<=lF F+(if n=0 then 1 else 0) * (if ndB F=true then 1 else 0)+0 * n\/wF F > n
 | 0,F,h=>by
  by_cases z:wF F > 0
  ·exact .inr z
  ·left;have hF:F=[]:=by
    cases F with
    | nil=>rfl
    | cons s F=>simp [wF] at z
   subst hF;simp [OM,ndB,pfF]
 | n+1,F,h=>by
  by_cases hw:wF F > n+1
  ·exact .inr hw
  left;unfold OM;by_cases z:F=[]\/F=[[]]
  ·rw [if_pos z];have:ndB F=false:=by rcases z with rfl | rfl <;> simp [ndB,pfF]
   simp [this]
  ·rw [if_neg z];have z0:F≠[]:=λq=>z (.inl q);have z1:F≠[[]]:=λq=>z (.inr q);obtain ⟨l1,l2⟩:=Zbg h.nd z0 z1;have lp:=Zbh (Oz F) F;obtain ⟨s,hs⟩:=Op h.nd z0 z1;have hl:0<(F.filter λs=>decide (s.take 1=[Oz F])).length:=List.length_pos_of_mem (Ybt.mpr ⟨hs,by simp⟩);have c1:=(Ve n (woF F) h.wo).resolve_right (by lia);have c2:=(Ve n (chF F) h.ch).resolve_right (by lia);have k0:∀G:Fam,wF G<=n->n=0->ndB G=false:=λG hG hn=>by
    have:G=[]:=by
     cases G with
     | nil=>rfl
     | cons s G=>simp [wF] at hG;lia
    subst this;simp [ndB,pfF]
   have d1:((OM n (woF F)).filter ndB).length<=lF (woF F):=by
    by_cases hn:n=0
    ·have:=k0 (woF F) (by lia) hn;simpa [this] using c1
    ·simpa [hn] using c1
   have d2:((OM n (chF F)).filter ndB).length<=lF (chF F):=by
    by_cases hn:n=0
    ·have:=k0 (chF F) (by lia) hn;simpa [this] using c2
    ·simpa [hn] using c2
   have qW:((F::(OM n (woF F)++OM n (chF F))).filter ndB).length<=1+(((OM n (woF F)).filter ndB).length+((OM n (chF F)).filter ndB).length):=by
    rw [List.filter_cons,Ydt];split <;> simp <;> lia
   unfold woF at d1 qW;unfold chF at d2 qW;simp;unfold woF chF
   lia
theorem nodes_le {F:Fam}(h:FamOk F):((OM (wF F) F).filter ndB).length<=lF F:=by
 have c:=(Ve (wF F) F h).resolve_right (by lia);by_cases hn:wF F=0
 ·have hF:F=[]:=by
   cases F with
   | nil=>rfl
   | cons s F=>simp [wF] at hn
  subst hF;simp [wF,OM,ndB,pfF]
 ·simpa [hn] using c
theorem XR:∀(n:Nat)(F:Fam),(OM n F).length<=2 * ((OM n F).filter ndB).length+1
 | 0,F=>by simp [OM]
 | n+1,F=>by
  have i1:=XR n (woF F);have i2:=XR n (chF F);unfold OM;by_cases z:F=[]\/F=[[]]
  ·rw [if_pos z];simp
  ·rw [if_neg z];have hb:ndB F=true:=by
    have z0:F≠[]:=λq=>z (.inl q);have z1:F≠[[]]:=λq=>z (.inr q);unfold ndB pfF;rw [if_neg z0,if_neg z1]
   rw [Yet hb,Ydt,Ybn,Ybn,Yai,Yai]
   lia
noncomputable def TpsF (H:Hp)(F:Fam)(cs:List Addr):Prop:=Paired (λ(s:List Int) (c:Addr)=>H c=some (.tup (s.map V.int))) F cs
theorem TpsF.keep {H H':Hp}{F:Fam}{cs:List Addr}(x:TpsF H F cs)(t:∀p ys,H p=some (.tup ys)->H' p=some (.tup ys)):TpsF H' F cs:=Paired.mapP x λ_ _ z=>t _ _ z
theorem TpsF.dats {K:W.Frag}{H:Hp}{F:Fam}{cs:List Addr}(x:TpsF H F cs):DatVs K H (cs.map V.ref) (F.map Uy):=by
 induction x with
 | nil=>exact .nil
 | cons e _ ih=>exact .cons (.tup (SqT.of e) (Jn _)) ih
theorem TpsF.snoc {H:Hp}{F:Fam}{cs:List Addr}{s:List Int}{c:Addr}(x:TpsF H F cs)(e:H c=some (.tup (s.map V.int))):TpsF H (F++[s]) (cs++[c]):=by
 induction x with
 | nil=>exact .cons e .nil
 | cons a _ ih=>exact .cons a ih
theorem TpsF.get {H:Hp}{F:Fam}{cs:List Addr}(x:TpsF H F cs):∀{i:Nat}{c:Addr},cs[i]?=some c->∃s,F[i]?=some s/\H c=some (.tup (s.map V.int)):=by
 induction x with
 | nil=>intro i c e;simp at e
 | @cons s c F cs r _ ih=>
  intro i b e;cases i with
  | zero=>simp at e;subst e;exact ⟨s,by simp,r⟩
  | succ i=>simp at e;obtain ⟨a,h1,h2⟩:=ih e;exact ⟨a,by simpa using h1,h2⟩
theorem TpsF.tus {H:Hp}{F:Fam}{cs:List Addr}(x:TpsF H F cs):Tus H (cs.map V.ref) F:=by
 induction x with
 | nil=>exact .nil
 | cons e _ ih=>exact .cons e ih
theorem UB (F:Fam):SeqAt.shaped (.tuple (F.map Uy))=true:=by
 unfold SeqAt.shaped;rw [Ycc];refine ⟨by simp only [PyData.canLay0];exact UM F,Ybi ?_⟩;have:=Uq F;simp only [PyData.depth]
 lia
theorem JW (s:List Int):SeqAt.shaped (Uy s)=true:=by
 unfold SeqAt.shaped;rw [Ycc];refine ⟨Yo s,Ybi ?_⟩;have:=J4 s;simp only [Uy,PyData.depth]
 lia
theorem Wv (ns:List Int):Uf (ns.map V.int) none (some 1)=(ns.take 1).map V.int:=by
 unfold Uf;rw [show (some (1:Int))=some ((1:Nat):Int) from rfl,HT.sIx_nat];cases ns with
 | nil=>rfl
 | cons a b=>simp [HT.sIx]
theorem Zbi (ns:List Int):Uf (ns.map V.int) (some 1) none=(ns.drop 1).map V.int:=by
 unfold Uf;rw [show (some (1:Int))=some ((1:Nat):Int) from rfl,HT.sIx_nat];simp [HT.sIx];cases ns with
 | nil=>rfl
 | cons a b=>
  simp;exact Yew (by rw [Yac];exact Yad _)
theorem Ub {K:W.Frag}{H:Hp}{c:Addr}{u z:List Int}{lo hi:Option Int}{Q:VK}(e:H c=some (.tup (u.map V.int)))(he:Uf (u.map V.int) lo hi=z.map V.int)(h:∀x H',Same H H'->H' x=some (.tup (z.map V.int))->Q (.ref x) H'):Zhs K (.ref c) lo hi H Q:=by
 refine ⟨c,_,rfl,SqT.of e,λhw=>h c H (Same.refl _) (by rw [<-he,hw];exact e),λp hp=>?_⟩;rw [he];exact h p _ (Same.new hp) Ga
noncomputable def Zbj (F:Fam):Fam:=(F.filter λs=>decide (s≠[])).map (List.take 1)
theorem Xe (F:Fam)(s:List Int):Zbj (F++[s])=Zbj F++(if s=[] then [] else [s.take 1]):=by
 unfold Zbj;rw [Ydt,Yap];by_cases h:s=[] <;> simp [h]
theorem Zbk {F:Fam}(nd:F.Nodup)(h0:F≠[])(h1:F≠[[]]){r:List Int}(hr:r∈Zbj F)(hl:∀r'∈Zbj F,GJ r' r=false):r=[Oz F]:=by
 unfold Zbj at hr hl;obtain ⟨s,hs,rfl⟩:=Yaj.mp hr;obtain ⟨hs1,hs2⟩:=Ybt.mp hs;cases s with
 | nil=>simp at hs2
 | cons a s=>
  obtain ⟨t,ht⟩:=Op nd h0 h1;have h2:=hl [Oz F] (Yaj.mpr ⟨_,Ybt.mpr ⟨ht,by simp⟩,rfl⟩);have h3:=Zbe hs1;show [a]=_;by_cases e:Oz F=a
  ·rw [e]
  ·have h2:GJ [Oz F] [a]=false:=h2;unfold GJ at h2;rw [if_neg e] at h2;have:=Yeq h2
   lia
theorem Zd7 {F:Fam}(nd:F.Nodup)(h0:F≠[])(h1:F≠[[]]):Zbj F≠[]:=by
 obtain ⟨t,ht⟩:=Op nd h0 h1;intro z;have:[Oz F]∈Zbj F:=Yaj.mpr ⟨_,Ybt.mpr ⟨ht,by simp⟩,rfl⟩;rw [z] at this;cases this
structure DmF (F:Fam):Prop where
 ok:FamOk F
 len:F.length<=306
theorem ZfC (F:Fam):(woF F).length<=F.length:=Yes _ _
theorem ZfD (F:Fam):(chF F).length<=F.length:=by
 unfold chF;rw [Yac];exact Yes _ _
theorem ZfE {s k:Fam}(r:Rc pfF s k)(h:DmF s):DmF k:=by
 refine ⟨ZcX h.ok r,?_⟩
 induction r with
 | start=>exact h.len
 | lo _ e ih=>rw [(Jr e).2.2.2.1];exact Ybo (ZfC _) ih
 | hi _ e ih=>rw [(Jr e).2.2.2.2];exact Ybo (ZfD _) ih
theorem ZhT {X:Cx}(K:W.Frag){a:Expr}{ta:TE}(ha:PE X a ta)(he:∀whole,isTrue a X.env whole=(do let v <- whole;standAt a.pos;holding [v] (truthy v)):=by exact λ_=>rfl)(h:X.K=K:=by rfl):PT X a (λσ H Q=>ta σ H λx H'=>∃k,ZgE K x H' k/\Q k H'):=h▸UE ha he
section
variable {P:Program}{w:World}{K:W.Frag}{mg:Str->Option Value}{base:Heap}
theorem scFam:Gp ["sets", "first", "without", "chosen"] ["sets"] (Gf Zgh):=⟨rfl,rfl,rfl,by decide +kernel,rfl,by decide +kernel,by decide +kernel⟩
theorem ZfF {f:Addr}{fd:FuncData}(F:Fun K "family_parts" "family_parts" Zgh f fd)(mMin:mg "min" = none)(mTup:mg "tuple" = none):G4 P w K mg base CX0 1 f fd ["sets"] (Zht (gkF P w) pfF DmF):=by
 refine F.ok scFam (λvs H Q E h=>?_) (λcdv A outer s H vs Q E hr h=>?_)
 ·obtain ⟨_,_,rfl,_⟩:=h
  rfl
 ·obtain ⟨b,k,rfl,hb,D,q⟩:=h;obtain ⟨cs,eb,tp⟩:=hb;have tp:TpsF H k cs:=tp;have hu:=hr.units;have hu1:(A.deeper (PyProof.Rows.envOfC "family_parts" (Gf Zgh) s.heap.objs.size f cdv)).units+1<cLine:=by have:=hr.un;lia
  have h16:=Ybf.symm;have hcl:=Ycs tp;have hkl:=D.len;refine ⟨_,Gc (Jf (JZ (UE (pv 0) (λ_=>rfl))) (Gg (Gr Ge)) Gu)
    (Gc (Jf (Gv (Zdp K hu) (pv 0) (Jz (Gb (Jz Gd) Gd)) (Gz _)) (Gg (Gr Ge)) Gu)
    (Gc (Gn (i:=1) scFam.nd rfl (Or.inr rfl) (Gk (Ze1 K rfl hu1) rfl mMin ZbG (Gb (Jl (own:=["roads"]) rfl (GM (by decide +kernel) (by decide +kernel) rfl (by decide +kernel)) (Zan K (pv 0)) (λ_ _ _ _=>Gi (i:=0) (show List.Nodup (["roads"]:List Str) by decide +kernel) rfl (Or.inl rfl)) (λ_ _ _ _=>JS (ZhT K (pv 0))) (λ_ _ _ _=>GQ (Zgf K) (pv 0) Jk (G5 Ge))) Gd)))
    (Gc (Gn (i:=2) scFam.nd rfl (Or.inl rfl) (Jj (Ye K) rfl mTup Jh (Gb (Jl (own:=["roads"]) rfl (Gw (fr:=[("first", 1)]) [(".0", .local),("roads", .local),("first", .cell)] rfl rfl (by decide +kernel) rfl (by decide +kernel) ⟨rfl,trivial⟩ ⟨λh=>JE h,λh=>JE h,λ_=>⟨_,rfl⟩,trivial⟩ ⟨⟨rfl,.inl rfl,.inl rfl⟩,trivial⟩) (Zan K (pv 0)) (λ_ _ _ _=>Gi (i:=0) (show List.Nodup (["roads", "first"]:List Str) by decide +kernel) rfl (Or.inl rfl)) (λ_ _ _ _=>JS (Gv (Zec K hu) (GQ (Zgf K) (pv 0) Jk (G5 Ge)) (pv 1) (Gz _))) (λ_ _ _ _=>pv 0)) Gd)))
    (Gc (Gn (i:=3) scFam.nd rfl (Or.inl rfl) (Jj (Ye K) rfl mTup Jh (Gb (Jl (own:=["roads"]) rfl (Gw (fr:=[("first", 1)]) [(".0", .local),("roads", .local),("first", .cell)] rfl rfl (by decide +kernel) rfl (by decide +kernel) ⟨rfl,trivial⟩ ⟨λh=>JE h,λh=>JE h,λ_=>⟨_,rfl⟩,trivial⟩ ⟨⟨rfl,.inl rfl,.inl rfl⟩,trivial⟩) (Zan K (pv 0)) (λ_ _ _ _=>Gi (i:=0) (show List.Nodup (["roads", "first"]:List Str) by decide +kernel) rfl (Or.inl rfl)) (λ_ _ _ _=>JS (Gv (Zdp K hu) (GQ (Zgf K) (pv 0) Jk (G5 Ge)) (pv 1) (Gz _))) (λ_ _ _ _=>GQ (Zgf K) (pv 0) (G5 Ge) Jk)) Gd)))
    (Gg (Gr (Jz (Gb (GV (WL K) (pv 1) Ge (λ_ _=>rfl)) (Gb (pv 2) (Gb (pv 3) Gd)))))))))),?_⟩
  by_cases h0:k=[]
  ·subst h0;cases tp;refine ⟨_,rfl,false,.inr (.inl ⟨_,SqT.of eb,rfl⟩),OQ ?_⟩;exact q _ H (Same.refl _) (by show PV (gkF P w) H (.int 0) (pfF []);simp [pfF,PV])
  have hcs:cs≠[]:=λz=>h0 (by rw [z] at hcl;exact List.length_eq_zero_iff.mp hcl);refine ⟨_,rfl,true,.inr (.inl ⟨_,SqT.of eb,by simp [hcs]⟩),Os ?_⟩;dsimp only [UC];refine Gy (λσ' H'=>σ'=[some (.ref b),none,none,none]/\Same H H'/\k≠[[]]) ?s0 ?f0
  case f0=>
   intro hk;refine ⟨_,rfl,Yar _,λe he=>⟨(by show 1<=sizeLine;decide),λt ht=>?_⟩⟩;have s1:Same H (upd H e (.tup [])):=Same.new he;have s2:Same (upd H e (.tup [])) (upd (upd H e (.tup [])) t (.tup [.ref e])):=Same.new ht;have S2:=s1.trans s2;have ee:upd (upd H e (.tup [])) t (.tup [.ref e]) e=some (.tup (([]:List Int).map V.int)):=s2 _ _ Ga;refine ⟨.tuple (k.map Uy),.tuple ([[]].map Uy),.tup (SqT.of (S2 _ _ eb)) (tp.keep λp ys e=>S2 _ _ e).dats,.tup (SqT.of Ga) (.cons (.tup (SqT.of ee) .nil) .nil),UB _,UB _,_,rfl,?_⟩;rw [Yp];by_cases h1:k=[[]]
   ·rw [Ybi h1];refine OQ ?_;exact q _ _ S2 (by rw [h1];show PV (gkF P w) _ (.int 1) (pfF [[]]);simp [pfF,PV])
   ·rw [Ybx h1];refine Os ?_;exact hk _ _ ⟨rfl,S2,h1⟩
  rintro σ' H2 ⟨rfl,s2,h1⟩;have eb2:=s2 _ _ eb;have tp2:=tp.keep λp ys e=>s2 _ _ e;have nd:=D.ok.nd;refine Gy (λσ' H'=>∃t:Addr,σ'=[some (.ref b),some (.ref t),none,none]/\Same H2 H'/\H' t=some (.tup [.int (Oz k)])) ?s1 ?f1
  case f1=>
   intro hk;refine ⟨_,rfl,b,rfl,⟨_,SqT.of eb2⟩,λD hD=>?_⟩;refine UI (K:=K) (a:=b) (xs:=cs.map V.ref) (λj ys H'=>∃ws:List Addr,ys=ws.map V.ref/\Same H2 H'/\H' D=some (.lst ys)/\TpsF H' (Zbj (k.take j)) ws) ⟨[],rfl,Same.new hD,Ga,.nil⟩ (λj ys H' _ ⟨_,_,s,_⟩=>SqT.of (s _ _ eb2)) ?_ ?_
   ·rintro j y ys H5 hyj ⟨ws,rfl,s5,eD,tw⟩;rw [Yaz] at hyj;obtain ⟨c,hc,rfl⟩:=Ybu.mp hyj;obtain ⟨u,hu',ec⟩:=tp2.get hc;have ec5:=s5 _ _ ec;have tk:k.take (j+1)=k.take j++[u]:=by rw [Ybz,hu'];rfl
    have hwl:=Ycs tw;have hhl:(Zbj (k.take j)).length<=k.length:=by
     unfold Zbj;rw [Yac];exact Ybo (Yes _ _) (by rw [Ybm];lia)
    refine ⟨trivial,?_⟩;by_cases hue:u=[]
    ·refine ⟨_,rfl,false,.inr (.inl ⟨_,SqT.of ec5,by rw [hue];rfl⟩),Os ?_⟩;exact ⟨ws,rfl,s5,eD,by rw [tk,Xe,if_pos hue,Ydw];exact tw⟩
    ·refine ⟨_,rfl,true,.inr (.inl ⟨_,SqT.of ec5,by simp [hue]⟩),OQ ?_⟩;refine ⟨_,rfl,_,rfl,Ub ec5 (Wv u) λx H6 s6 ex=>⟨s6 _ _ eD,by rw [Yac];lia,ws++[x],by rw [Yap];rfl,(s5.trans s6).put hD,Ga,?_⟩⟩;have t1:=G6 (o:=.lst (ws.map V.ref++[.ref x])) (s6 _ _ eD);rw [tk,Xe,if_neg hue];exact ((tw.keep λp ys e=>s6 _ _ e).keep t1).snoc (t1 _ _ ex)
   ·rintro ys H5 ⟨ws,rfl,s5,eD,tw⟩;rw [Yac,<-hcl,Ybp] at tw;refine ⟨D,_,_,rfl,SqL.of eD,tw.tus,Zd7 nd h0 h1,λt r ⟨⟨i,e1,e2⟩,hl⟩=>?_⟩;have er:=Zbk nd h0 h1 (Yax e2) hl;subst er;rw [Yaz] at e1;obtain ⟨c,hc,ec⟩:=Ybu.mp e1;cases ec;obtain ⟨u,hu',eu⟩:=tw.get hc;rw [e2] at hu';cases hu';exact hk _ _ ⟨_,rfl,s5,eu⟩
  rintro σ' H3 ⟨t,rfl,s3,et⟩;have eb3:=s3 _ _ eb2;have tp3:=tp2.keep λp ys e=>s3 _ _ e;have et':H3 t=some (.tup ([Oz k].map V.int)):=et;refine Gy (λσ' H'=>∃bl:Addr,σ'=[some (.ref b),some (.ref t),some (.ref bl),none]/\Same H3 H'/\KeyTT H' bl (woF k)) ?s2 ?f2
  case f2=>
   intro hk;refine ⟨_,rfl,b,rfl,⟨_,SqT.of eb3⟩,λD hD=>?_⟩;refine UI (K:=K) (a:=b) (xs:=cs.map V.ref) (λj ys H'=>∃ws:List Addr,ys=ws.map V.ref/\Same H3 H'/\H' D=some (.lst ys)/\TpsF H' ((k.take j).filter λs:List Int=>decide (s.take 1≠[Oz k])) ws) ⟨[],rfl,Same.new hD,Ga,.nil⟩ (λj ys H' _ ⟨_,_,s,_⟩=>SqT.of (s _ _ eb3)) ?_ ?_
   ·rintro j y ys H5 hyj ⟨ws,rfl,s5,eD,tw⟩;rw [Yaz] at hyj;obtain ⟨c,hc,rfl⟩:=Ybu.mp hyj;obtain ⟨u,hu',ec⟩:=tp3.get hc;have ec5:=s5 _ _ ec;have tk:k.take (j+1)=k.take j++[u]:=by rw [Ybz,hu'];rfl
    have hwl:=Ycs tw;have hhl:((k.take j).filter λs:List Int=>decide (s.take 1≠[Oz k])).length<=k.length:=Ybo (Yes _ _) (by rw [Ybm];lia);refine ⟨by simp [Ob,JT],?_⟩;refine ⟨_,rfl,_,rfl,Ub ec5 (Wv u) λx H6 s6 ex=>⟨_,rfl,Uy (u.take 1),Uy [Oz k],.tup (SqT.of ex) (Jn _),.tup (SqT.of (s6 _ _ (s5 _ _ et'))) (Jn _),JW _,JW _,_,rfl,?_⟩⟩;rw [Wn];by_cases hh:u.take 1=[Oz k]
    ·rw [Ybi hh];refine Os ⟨ws,rfl,s5.trans s6,s6 _ _ eD,?_⟩;rw [tk,Ydt,Yfi (by simp [hh]),Yfy,Ydw];exact tw.keep λp ys e=>s6 _ _ e
    ·rw [Ybx hh];refine OQ ⟨_,rfl,s6 _ _ eD,by rw [Yac];lia,ws++[c],by rw [Yap];rfl,(s5.trans s6).put hD,Ga,?_⟩;have t1:=G6 (o:=.lst (ws.map V.ref++[.ref c])) (s6 _ _ eD);rw [tk,Ydt,Yet (by simp [hh]),Yfy];exact ((tw.keep λp ys e=>s6 _ _ e).keep t1).snoc (t1 _ _ (s6 _ _ ec5))
   ·rintro ys H5 ⟨ws,rfl,s5,eD,tw⟩;rw [Yac,<-hcl,Ybp] at tw;refine ⟨D,_,rfl,.inl ⟨SqL.of eD,λl hl=>?_⟩⟩;have s6:Same H5 (upd H5 l (.tup (ws.map V.ref))):=Same.new hl;exact hk _ _ ⟨l,rfl,s5.trans s6,ws,Ga,tw.keep λp ys e=>s6 _ _ e⟩
  rintro σ' H4 ⟨bl,rfl,s4,kl⟩;have eb4:=s4 _ _ eb3;have tp4:=tp3.keep λp ys e=>s4 _ _ e;have et4:=s4 _ _ et';refine Gy (λσ' H'=>∃bh:Addr,σ'=[some (.ref b),some (.ref t),some (.ref bl),some (.ref bh)]/\Same H4 H'/\KeyTT H' bh (chF k)) ?s3 ?f3
  case f3=>
   intro hk;refine ⟨_,rfl,b,rfl,⟨_,SqT.of eb4⟩,λD hD=>?_⟩;refine UI (K:=K) (a:=b) (xs:=cs.map V.ref) (λj ys H'=>∃ws:List Addr,ys=ws.map V.ref/\Same H4 H'/\H' D=some (.lst ys)/\TpsF H' (((k.take j).filter λs:List Int=>decide (s.take 1=[Oz k])).map (List.drop 1)) ws) ⟨[],rfl,Same.new hD,Ga,.nil⟩ (λj ys H' _ ⟨_,_,s,_⟩=>SqT.of (s _ _ eb4)) ?_ ?_
   ·rintro j y ys H5 hyj ⟨ws,rfl,s5,eD,tw⟩;rw [Yaz] at hyj;obtain ⟨c,hc,rfl⟩:=Ybu.mp hyj;obtain ⟨u,hu',ec⟩:=tp4.get hc;have ec5:=s5 _ _ ec;have tk:k.take (j+1)=k.take j++[u]:=by rw [Ybz,hu'];rfl
    have hwl:=Ycs tw;have hhl:(((k.take j).filter λs:List Int=>decide (s.take 1=[Oz k])).map (List.drop 1)).length<=k.length:=by
     rw [Yac];exact Ybo (Yes _ _) (by rw [Ybm];lia)
    refine ⟨by simp [Ob,JT],?_⟩;refine ⟨_,rfl,_,rfl,Ub ec5 (Wv u) λx H6 s6 ex=>⟨_,rfl,Uy (u.take 1),Uy [Oz k],.tup (SqT.of ex) (Jn _),.tup (SqT.of (s6 _ _ (s5 _ _ et4))) (Jn _),JW _,JW _,_,rfl,?_⟩⟩;rw [Wn];by_cases hh:u.take 1=[Oz k]
    ·rw [Ybi hh];refine OQ ⟨_,rfl,_,rfl,?_⟩;dsimp only [Ue];refine Ub (s6 _ _ ec5) (Zbi u) (λy H7 s7 ey=>⟨s7 _ _ (s6 _ _ eD),by rw [Yac];lia,ws++[y],by rw [Yap];rfl,((s5.trans s6).trans s7).put hD,Ga,?_⟩);have t1:=G6 (o:=.lst (ws.map V.ref++[.ref y])) (s7 _ _ (s6 _ _ eD));rw [tk,Ydt,Yet (by simp [hh]),Yfy,Yap];exact (((tw.keep λp ys e=>s6 _ _ e).keep λp ys e=>s7 _ _ e).keep t1).snoc (t1 _ _ ey)
    ·rw [Ybx hh];refine Os ⟨ws,rfl,s5.trans s6,s6 _ _ eD,?_⟩;rw [tk,Ydt,Yfi (by simp [hh]),Yfy,Ydw];exact tw.keep λp ys e=>s6 _ _ e
   ·rintro ys H5 ⟨ws,rfl,s5,eD,tw⟩;rw [Yac,<-hcl,Ybp] at tw;refine ⟨D,_,rfl,.inl ⟨SqL.of eD,λl hl=>?_⟩⟩;have s6:Same H5 (upd H5 l (.tup (ws.map V.ref))):=Same.new hl;exact hk _ _ ⟨l,rfl,s5.trans s6,ws,Ga,tw.keep λp ys e=>s6 _ _ e⟩
  rintro σ' H5 ⟨bh,rfl,s5,kh⟩;refine ⟨_,rfl,t,_,_,_,rfl,rfl,SqT.of (s5 _ _ et4),GB (j:=0) rfl,_,rfl,_,rfl,(by show 3<=sizeLine;decide),λp hp=>?_⟩;have s6:Same H5 (upd H5 p (.tup [.int (Oz k),.ref bl,.ref bh])):=Same.new hp;refine q _ _ ((((s2.trans s3).trans s4).trans s5).trans s6) ?_;have ek:pfF k=.node (Oz k) (woF k) (chF k):=by unfold pfF;rw [if_neg h0,if_neg h1]
  rw [ek];exact ⟨p,bl,bh,rfl,Ga,(kl.same s5).same s6,kh.same s6⟩
noncomputable abbrev Lx (F:List (List Int)):Prop:=F.Pairwise λa b=>GJ a b=true
theorem Oa:∀{F G:List (List Int)},Lx F->Lx G->(∀s,s∈F↔s∈G)->F=G
 | [],[],_,_,_=>rfl
 | [],b::G,_,_,h=>absurd ((h b).mpr (Ybe ..)) (by simp)
 | a::F,[],_,_,h=>absurd ((h a).mp (Ybe ..)) (by simp)
 | a::F,b::G,hF,hG,h=>by
  obtain ⟨f1,f2⟩:=Ydc.mp hF;obtain ⟨g1,g2⟩:=Ydc.mp hG;have e:a=b:=by
   rcases Yas.mp ((h a).mp (Ybe ..)) with e | e
   ·exact e
   ·rcases Yas.mp ((h b).mpr (Ybe ..)) with e' | e'
    ·exact e'.symm
    ·have:=On (g1 a e) (f1 b e');rw [Ja] at this;cases this
  subst e;rw [Oa f2 g2 λs=>?_];have n1:s∈F->s≠a:=λhs z=>by have:=f1 s hs;rw [z,Ja] at this;cases this
  have n2:s∈G->s≠a:=λhs z=>by have:=g1 s hs;rw [z,Ja] at this;cases this
  constructor
  ·intro hs;exact (Yas.mp ((h s).mp (Ybb _ hs))).resolve_left (n1 hs)
  ·intro hs;exact (Yas.mp ((h s).mpr (Ybb _ hs))).resolve_left (n2 hs)
theorem ZcY {H:Hp}:∀{ws:List (Addr×List Int)},(∀z∈ws,H z.1=some (.tup (z.2.map V.int)))->TpsF H (ws.map (·.2)) (ws.map (·.1))
 | [],_=>.nil
 | z::ws,h=>.cons (h z (Ybe ..)) (ZcY λy hy=>h y (Ybb _ hy))
theorem VJ {F:Fam}(nd:F.Nodup)(so:F.Pairwise λa b=>GJ b a=false):Lx F:=by
 refine (List.Pairwise.and nd so).imp λ{a b} ⟨h1,h2⟩=>?_;cases h:GJ a b with
 | true=>rfl
 | false=>exact absurd (J9 h h2) h1
noncomputable def ZfG (fP TM tb:Addr):Sp:=λvs H Q E=>∃(l:Addr)(zs:List (Addr×List Int))(F:Fam)(U Un:List Fam),vs=[.ref l]/\H l=some (.lst (zs.map λz=>V.ref z.1))/\(∀z∈zs,H z.1=some (.lst (z.2.map V.int)))/\zs.length<=306/\Lx F/\(∀s,s∈F↔s∈zs.map (·.2))/\FamOk F /\
 (∀k,Rc pfF F k->k∈U)/\(∀k,Rc pfF F k->UN (pfF k)=true->k∈Un)/\U.length<=10000/\Un.length<=900/\LD tb H /\
 (∀(p l:Addr)(a0 root:Int)(xs:List V)(us ts:List Tri)(fs:List Int)(H':Hp),SameL tb H H'->LD tb H'->H p=none->H l=none->TabAt H' p l a0 xs us->LeT pfF F a0 us ts root fs->ts.length<=Un.length->Q (.ref p) H') /\
 (∀(ts:List Tri)(H':Hp),SameL tb H H'->LD tb H'->Grw pfF F [] ts->800<ts.length->ts.length<=Un.length->E (.ref TM) none H')
theorem scTof:Gp ["sets", "family"] ["sets"] (Gf Zgi):=⟨rfl,rfl,rfl,by decide +kernel,rfl,by decide +kernel,by decide +kernel⟩
theorem ZfH {f fLt fP TM tb:Addr}{fd fdLt:FuncData}{tM:Tok}(F:Fun K "table_of" "table_of" Zgi f fd)(mFm:mg "family_parts" = some (.ref fP))(mMN:mg "MOST_NODES" = some (.int 800 tM))(FLt:Fun K "least_table" "least_table" Ze5 fLt fdLt)(bLt:Binds K fdLt ["start", "parts", "most"] [])(mLt:mg "least_table" = some (.ref fLt))(GLt:G4 P w K mg base (CXr P w) 4 fLt fdLt ["start", "parts", "most"] (Zfy (gkF P w) pfF DmF fP TM tb))(mTup:mg "tuple" = none)(mSor:mg "sorted" = none)(mSet:mg "set" = none):G4 P w K mg base (CXr P w) 5 f fd ["sets"] (ZfG fP TM tb):=by
 refine F.okR scTof (λvs H Q E h=>?_) (λcdv A outer s H vs Q E hr h=>?_)
 ·obtain ⟨_,_,_,_,_,rfl,_⟩:=h
  rfl
 ·obtain ⟨l,zs,Fm,U,Un,rfl,el,lz,hzl,hLx,hmem,FO,hU,hUn,hUl,hUnl,ld,qq,qe⟩:=h;have hu:=hr.units;have h16:=Ybf.symm;refine ⟨_,Gc (Gn (i:=1) scTof.nd rfl (Or.inl rfl) (Jj (Ye K) rfl mTup Jh (Gb (Gk (Ze0 K rfl hu) rfl mSor Yfh (Gb (Jj (ZgX K rfl hu) rfl mSet ZbH (Gb (Jl (own:=["roads"]) rfl (GM (by decide +kernel) (by decide +kernel) rfl (by decide +kernel)) (J3 K (pv 0)) (λ_ _ _ _=>Gi (i:=0) (show List.Nodup (["roads"]:List Str) by decide +kernel) rfl (Or.inl rfl)) (λ_ _ _ _=>JR) (λ_ _ _ _=>Jj (Ye K) rfl mTup Jh (Gb (pv 0) Gd))) Gd)) Gd)) Gd)))
    (Gg (Gr (Go GLt (hr.mono (by decide)) rfl mLt FLt.kp bLt .nil Zdq (Gb (pv 1) (Gb (Xm (v:=.ref fP) rfl mFm rfl) (Gb (Xm (v:=.int 800) rfl mMN ⟨_,rfl⟩) Gd)))))),?_⟩
  refine Gy (λσ' H'=>∃b:Addr,σ'=[some (.ref l),some (.ref b)]/\Same H H'/\KeyTT H' b Fm) ?s0 ?f0
  case f0=>
   intro hk;refine ⟨_,rfl,l,rfl,⟨_,SqL.of el⟩,λD hD=>?_⟩;refine Jm (K:=K) (a:=l) (xs:=zs.map λz=>V.ref z.1) (λj ys H'=>∃cs:List Addr,ys=cs.map V.ref/\Same H H'/\H' D=some (.lst ys)/\TpsF H' ((zs.map (·.2)).take j) cs) ⟨[],rfl,Same.new hD,Ga,.nil⟩ (λj ys H' _ ⟨_,_,s,_⟩=>SqL.of (s _ _ el)) ?_ ?_
   ·rintro j y ys H2 hyj ⟨cs,rfl,s2,eD,tp⟩;rw [Yaz] at hyj;obtain ⟨z,hz,rfl⟩:=Ybu.mp hyj;have hzm:=Yax hz;have tk:(zs.map (·.2)).take (j+1)=(zs.map (·.2)).take j++[z.2]:=by rw [Ybz,Yaz,hz];rfl
    have hcl:=Ycs tp;rw [Ybm] at hcl;have hj:j<zs.length:=(Yao.mp hz).1;refine ⟨trivial,?_⟩;unfold ZbC;refine OQ ?_;refine ⟨_,rfl,z.1,_,rfl,.inl ⟨SqL.of (s2 _ _ (lz z hzm)),λt ht=>?_⟩⟩;have s3:Same H2 (upd H2 t (.tup (z.2.map V.int))):=Same.new ht;refine ⟨s3 _ _ eD,(by rw [Yac];lia),cs++[t],by rw [Yap];rfl,(s2.trans s3).put hD,Ga,?_⟩;rw [tk];have t1:=G6 (o:=.lst (cs.map V.ref++[.ref t])) (s3 _ _ eD);exact ((tp.keep λp ys e=>s3 _ _ e).keep t1).snoc (t1 _ _ Ga)
   ·rintro ys H2 ⟨cs,rfl,s2,eD,tp⟩;rw [Yac,<-Yac (f:=λz:Addr×List Int=>z.2),Ybp] at tp;refine ⟨D,_,_,rfl,SqL.of eD,tp.tus,by rw [Yac];lia,λl2 ws hl2 nd mem at_=>?_⟩;have s3:Same H2 (upd H2 l2 (ZcV w l2 ws)):=Same.new hl2;have hwl:ws.length<=306:=by
     have:=Ycj nd (l₂:=zs.map (·.2)) λk hk=>(mem k).mp hk;rw [Yac,Yac] at this
     lia
    refine ⟨l2,ws,rfl,Ga,λz hz=>s3 _ _ (at_ z hz),by lia,λl3 ws' hl3 pm so=>?_⟩;have s4:Same (upd H2 l2 (ZcV w l2 ws)) (upd (upd H2 l2 (ZcV w l2 ws)) l3 (.lst (ws'.map λz=>V.ref z.1))):=Same.new hl3;refine ⟨l3,_,rfl,.inl ⟨SqL.of Ga,λb hb=>?_⟩⟩;have s5:Same (upd (upd H2 l2 (ZcV w l2 ws)) l3 (.lst (ws'.map λz=>V.ref z.1))) (upd (upd (upd H2 l2 (ZcV w l2 ws)) l3 (.lst (ws'.map λz=>V.ref z.1))) b (.tup (ws'.map λz=>V.ref z.1))):=Same.new hb;have S5:=(s3.trans s4).trans s5;have eF:ws'.map (·.2)=Fm:=Oa (VJ ((pm.map (·.2)).nodup_iff.mpr nd) so) hLx λs=>by rw [(pm.map (·.2)).mem_iff,mem s,hmem s]
    refine hk _ _ ⟨b,rfl,s2.trans S5,ws'.map (·.1),?_,?_⟩
    ·rw [Ga,Ycq]
     rfl
    ·rw [<-eF];exact ZcY λz hz=>S5 _ _ (at_ z (pm.mem_iff.mp hz))
  rintro σ' H1 ⟨b,rfl,s1,kb⟩;obtain ⟨psT,eT⟩:=ld.tbl;have hFl:Fm.length<=306:=by
   have:=Ycj FO.nd (l₂:=zs.map (·.2)) λk hk=>(hmem k).mp hk;rw [Yac] at this
   lia
  have ab:Abv pfF Fm (-1):=λr a b e=>by
   have:=((Wt FO).nd _ _ _ _ .start e).1.1
   lia
  refine ⟨_,rfl,b,Fm,U,Un,800,rfl,kb,⟨FO,hFl⟩,hU,hUn,hUl,hUnl,Wt FO,ab,ld.same s1,λp l2 a0 root xs us ts fs H2 s2 ld2 hp hl2 W L hle=>?_,λts H2 s2 ld2 D hM hle=>qe ts H2 ((SameL.of s1).trans s2) ld2 D (by lia) hle⟩;obtain ⟨psT2,eT2⟩:=ld2.tbl;exact qq p l2 a0 root xs us ts fs H2 ((SameL.of s1).trans s2) ld2 (s1.free hp) (s1.free hl2) W L hle
inductive Sts (ts:List Tri):Int->List (List Int)->Prop
 | zero:Sts ts 0 []
 | one:Sts ts 1 [[]]
 | node {c:Int} {r:Tri} {A B:List (List Int)}:Nd ts c r->Sts ts r.2.1 A->Sts ts r.2.2 B->Sts ts c (A++B.map (r.1::·))
theorem Sts.uniq {ts:List Tri}{c:Int}{L:List (List Int)}(h:Sts ts c L):∀{L':List (List Int)},Sts ts c L'->L=L':=by
 induction h with
 | zero=>
  intro L' h';cases h' with
  | zero=>rfl
  | node n _ _=>exact absurd n.1 (by decide)
 | one=>
  intro L' h';cases h' with
  | one=>rfl
  | node n _ _=>exact absurd n.1 (by decide)
 | @node c r A B n hA hB iA iB=>
  intro L' h';cases h' with
  | zero=>exact absurd n.1 (by decide)
  | one=>exact absurd n.1 (by decide)
  | node n' hA' hB'=>
   cases n.one n';rw [iA hA',iB hB']
theorem Sts.ex {ts:List Tri}(T:TabOk ts):∀(m:Nat){c lo:Int},At ts c lo->30-lo<=(m:Int)->∃L,Sts ts c L
 | 0,c,lo,a,hm=>by
  rcases a with rfl | rfl | ⟨r,n,g⟩
  ·exact ⟨_,.zero⟩
  ·exact ⟨_,.one⟩
  ·have:=(T.nd n).1
   lia
 | m+1,c,lo,a,hm=>by
  rcases a with rfl | rfl | ⟨r,n,g⟩
  ·exact ⟨_,.zero⟩
  ·exact ⟨_,.one⟩
  ·obtain ⟨A,hA⟩:=Sts.ex T m (T.nd n).2.1 (by lia);obtain ⟨B,hB⟩:=Sts.ex T m (T.nd n).2.2 (by lia);exact ⟨_,.node n hA hB⟩
theorem Sts.of {ts:List Tri}(T:TabOk ts){c lo:Int}(a:At ts c lo):∃L,Sts ts c L:=Sts.ex T (30-lo).toNat a (by lia)
theorem Sts.has {ts:List Tri}{c:Int}{L:List (List Int)}(h:Sts ts c L):∀s,s∈L↔Has ts c s:=by
 induction h with
 | zero=>exact λs=>⟨λh=>(by cases h),λh=>absurd h Has.zero⟩
 | one=>exact λs=>by rw [Has.at1];simp
 | @node c r A B n hA hB iA iB=>
  intro s;rw [Yag,Yaj];cases s with
  | nil=>
   rw [Has.nil n,<-iA];exact ⟨λh=>h.elim id λ⟨_,_,e⟩=>(by cases e),.inl⟩
  | cons x s=>
   rw [Has.cons n,<-iA,<-iB];constructor
   ·rintro (h | ⟨y,hy,e⟩)
    ·exact .inl h
    ·cases e;exact .inr ⟨rfl,hy⟩
   ·rintro (h | ⟨rfl,h⟩)
    ·exact .inl h
    ·exact .inr ⟨s,h,rfl⟩
theorem Sts.nodup {ts:List Tri}(T:TabOk ts){c:Int}{L:List (List Int)}(h:Sts ts c L):L.Nodup:=by
 induction h with
 | zero=>exact Yea
 | one=>simp
 | @node c r A B n hA hB iA iB=>
  refine Ycf.mpr ⟨iA,?_,?_⟩
  ·unfold List.Nodup;rw [Ybq];exact iB.imp λh e=>h (by injection e)
  ·rintro a ha b hb rfl;obtain ⟨y,hy,e⟩:=Yaj.mp hb;have:=((hA.has a).mp ha).gt T (T.nd n).2.1 e.symm
   lia
theorem Sts.short {ts:List Tri}(T:TabOk ts){c:Int}{L:List (List Int)}(h:Sts ts c L):∀{lo:Int},At ts c lo->lo<30->∀s∈L,(s.length:Int)<=29-lo:=by
 induction h with
 | zero=>exact λ_ _ s hs=>by cases hs
 | one=>
  intro lo _ hl s hs;rw [Yah.mp hs];show (0:Int)<=29-lo
  lia
 | @node c r A B n hA hB iA iB=>
  intro lo a hl s hs;obtain ⟨r',n',g⟩:=a.nd (by have:=n.1;lia);cases n.one n';have h30:=(T.nd n).1;rcases Yag.mp hs with h | h
  ·have:=iA (T.nd n).2.1 h30.2 s h
   lia
  ·obtain ⟨y,hy,rfl⟩:=Yaj.mp h;have:=iB (T.nd n).2.2 h30.2 y hy;rw [Ybn]
   push_cast
   lia
structure Fall (ts:List Tri)(os:List Int):Prop where
 al:∀c r,Nd ts c r->c∈os
 nd:∀c∈os,∃r,Nd ts c r
 so:os.Pairwise λc d=>∀r q,Nd ts c r->Nd ts d q->q.1<=r.1
 ln:os.length<=ts.length
theorem Fall.before {ts:List Tri}{os:List Int}(F:Fall ts os){i:Nat}{c c':Int}{r r':Tri}(hi:os[i]?=some c)(n:Nd ts c r)(n':Nd ts c' r')(g:r.1<r'.1):c'∈os.take i:=by
 obtain ⟨hl,e⟩:=Yao.mp hi;obtain ⟨j,hj,ej⟩:=Ycw (F.al c' r' n');rcases Yej j i with h | h | h
 ·exact List.mem_take_iff_getElem.mpr ⟨j,by lia,ej⟩
 ·subst h;rw [e] at ej;subst ej;rw [n.one n'] at g
  lia
 ·have:=Yei.mp F.so i j hl hj h r r' (e▸n) (ej▸n')
  lia
structure CntOk (ts:List Tri)(kvs:List (Key×V))(dn:List Int):Prop where
 z:JL kvs (.inl 0)=some (.int 0)
 o:JL kvs (.inl 1)=some (.int 1)
 c:∀c∈dn,∀L,Sts ts c L->JL kvs (.inl c)=some (.int (L.length:Int))
theorem CntOk.get {ts:List Tri}{os:List Int}{kvs:List (Key×V)}{i:Nat}{c c' lo:Int}{r:Tri}{L:List (List Int)}(D:CntOk ts kvs (os.take i))(F:Fall ts os)(hi:os[i]?=some c)(n:Nd ts c r)(a:At ts c' r.1)(h:Sts ts c' L):JL kvs (.inl c')=some (.int (L.length:Int)):=by
 rcases a with rfl | rfl | ⟨r',n',g⟩
 ·rw [h.uniq .zero];exact D.z
 ·rw [h.uniq .one];exact D.o
 ·exact D.c c' (F.before hi n n' g) L h
theorem CntOk.snoc {ts:List Tri}{os:List Int}{kvs:List (Key×V)}{i:Nat}{c:Int}{r:Tri}{A B:List (List Int)}(D:CntOk ts kvs (os.take i))(hi:os[i]?=some c)(n:Nd ts c r)(hA:Sts ts r.2.1 A)(hB:Sts ts r.2.2 B) :
  CntOk ts (JV kvs (.inl c) (.int ((A.length:Int)+(B.length:Int)))) (os.take (i+1)):=by
 have n2:=n.1;refine ⟨?_,?_,λd hd L hL=>?_⟩
 ·rw [G3,if_neg (by intro z;injection z with z;lia)];exact D.z
 ·rw [G3,if_neg (by intro z;injection z with z;lia)];exact D.o
 ·rw [G3];by_cases e:d=c
  ·subst e;rw [if_pos rfl,hL.uniq (.node n hA hB),Yai,Yac]
   push_cast
   rfl
  ·rw [if_neg (by intro z;injection z with z;exact e z)];rw [Ybz,hi] at hd;rcases Yag.mp hd with h | h
   ·exact D.c d h L hL
   ·have:d=c:=by simpa using h
    exact absurd this e
theorem CntOk.fin {ts:List Tri}{os:List Int}{kvs:List (Key×V)}{c lo:Int}{L:List (List Int)}(D:CntOk ts kvs os)(F:Fall ts os)(a:At ts c lo)(h:Sts ts c L):JL kvs (.inl c)=some (.int (L.length:Int)):=by
 rcases a with rfl | rfl | ⟨r',n',g⟩
 ·rw [h.uniq .zero];exact D.z
 ·rw [h.uniq .one];exact D.o
 ·exact D.c c (F.al c r' n') L h
theorem Fall.len {ts:List Tri}{os:List Int}(F:Fall ts os){i:Nat}{c:Int}(hi:os[i]?=some c):∃r,Nd ts c r:=F.nd c (Yax hi)
theorem fall_of {ts:List Tri}{ps:List (Int×Int)}(pm:ps.Perm ((ts.map (·.1)).zip (upI 2 ts.length)))(so:ps.Pairwise λp q=>q.1<=p.1):Fall ts (ps.map Prod.snd):=by
 have hz:∀p,p∈(ts.map (·.1)).zip (upI 2 ts.length)↔∃r,Nd ts p.2 r/\r.1=p.1:=by
  intro p;constructor
  ·intro h;obtain ⟨i,hi⟩:=Yfw.mp h;obtain ⟨h1,h2⟩:=List.getElem?_zip_eq_some.mp hi;rw [Yaz] at h1;cases ht:ts[i]? with
   | none=>rw [ht] at h1;cases h1
   | some r=>
    rw [ht] at h1;injection h1 with h1
    have hi':i<ts.length:=(Yao.mp ht).1;have e2:p.2=2+(i:Int):=by
     unfold upI at h2;simp [hi'] at h2
     lia
    refine ⟨r,⟨by lia,?_⟩,h1⟩;rw [e2,show (2+(i:Int)-2).toNat=i by lia];exact ht
  ·rintro ⟨r,n,e⟩;have hi':(p.2-2).toNat<ts.length:=(Yao.mp n.2).1;have n1:=n.1;refine Yfw.mpr ⟨(p.2-2).toNat,List.getElem?_zip_eq_some.mpr ⟨?_,?_⟩⟩
   ·rw [Yaz,n.2];exact Ybc some e
   ·unfold upI;simp [hi']
    lia
 refine ⟨λc r n=>?_,λc hc=>?_,?_,by rw [Yac,pm.length_eq,List.length_zip,Yac];lia⟩
 ·exact Yaj.mpr ⟨(r.1,c),pm.mem_iff.mpr ((hz _).mpr ⟨r,n,rfl⟩),rfl⟩
 ·obtain ⟨p,hp,rfl⟩:=Yaj.mp hc;obtain ⟨r,n,_⟩:=(hz p).mp (pm.mem_iff.mp hp);exact ⟨r,n⟩
 ·rw [Ybq];refine so.imp_of_mem λ{p q} hp hq hpq r r' n n'=>?_;obtain ⟨r1,n1,e1⟩:=(hz p).mp (pm.mem_iff.mp hp);obtain ⟨r2,n2,e2⟩:=(hz q).mp (pm.mem_iff.mp hq);rw [n.one n1,n'.one n2,e1,e2];exact hpq
noncomputable def lq:Str:=Str.ofString "from_below.<locals>.<lambda>"
noncomputable abbrev LS (tb:Addr)(H:Hp):Prop:=LamSt tb 71 48 lq H
theorem Xf {H:Hp}:∀{xs:List V}{ts:List Tri},Trs H xs ts->∃us:List (Addr×Int×List V),xs=us.map (λu=>V.ref u.1)/\us.map (·.2.1)=ts.map (·.1)/\us.length=ts.length/\∀u∈us,H u.1=some (.tup (V.int u.2.1::u.2.2))
 | _,_,.nil=>⟨[],rfl,rfl,rfl,λu hu=>by cases hu⟩
 | _,_,.cons (p:=p) (a:=a) (b:=b) (c:=c) e r=>by
  obtain ⟨us,h1,h2,h3,h4⟩:=Xf r;refine ⟨(p,a,[.int b,.int c])::us,by rw [h1];rfl,by simp [h2],by simp [h3],λu hu=>?_⟩;rcases Yas.mp hu with rfl | hu
  ·exact e
  ·exact h4 u hu
noncomputable def ZfI (tb:Addr):Sp:=λvs H Q _=>∃(l:Addr)(xs:List V)(ts:List Tri),vs=[.ref l]/\H l=some (.lst xs)/\Trs H xs ts/\ts.length<=900/\LS tb H /\
 ∀(a:Addr)(os:List Int)(H':Hp),SameL tb H H'->LS tb H'->H a=none->H' a=some (.lst (os.map V.int))->Fall ts os->Q (.ref a) H'
theorem Zg7:Gp ["nodes"] ["nodes"] (Gf Zgg):=⟨rfl,rfl,rfl,by decide +kernel,rfl,by decide +kernel,by decide +kernel⟩
theorem ZfJ {f c tb:Addr}{fd:FuncData}(F:Fun K "from_below" "from_below" Zgg f fd)(hc:fd.code=.ref c)(hC:W.CodeHd base c tb)(hBl:base.BuiltinsAt mg tb)(mSor:mg "sorted" = none)(mRange:mg "range" = none)(mLen:mg "len" = none) :
  G4 P w K mg base CX0 1 f fd ["nodes"] (ZfI tb):=by
 refine F.okC hc Zg7 (λvs H Q E h=>?_) (λA outer s H vs Q E hr h=>?_)
 ·obtain ⟨_,_,_,rfl,_⟩:=h
  rfl
 ·obtain ⟨l,xs,ts,rfl,el,tr,hts,st,q⟩:=h;have h16:=Ybf.symm;have jZ:=hr.depth;refine ⟨_,Gg (Gr (VF (ZaL (K:=K) (j:=0) (x:=Str.ofString "number") (y:=Str.ofString "nodes") (cc:=s.heap.objs.size+1) (qual:=Str.ofString "from_below.<locals>.<lambda>") (params:={ posonlyargs:=[],args:=[{ arg := "number", annotation:=none,pos:=⟨71,55,71,61⟩:PySem.Arg }],vararg:=none,kwonlyargs:=[],kw_defaults:=[],kwarg:=none,defaults:=[]:PySem.Arguments }) (pm:=(mg "__name__").getD .none) (scope:={ kind:=PySem.ScopeKind.function,names:=[(PySem.Str.ofString "number", PySem.NameKind.local),(PySem.Str.ofString "nodes", PySem.NameKind.free)],isGenerator:=false,isCoroutine:=false,more:=[]:PySem.Scope }) (p1:=⟨71,63,71,68⟩) (p2:=⟨71,69,71,75⟩) (p3:=⟨71,78,71,79⟩) (p4:=⟨71,69,71,79⟩) (p5:=⟨71,63,71,80⟩) (p6:=⟨71,81,71,82⟩) (p7:=⟨71,63,71,83⟩) (d1:=0) (d2:=0) rfl rfl jZ rfl (Or.inr (Or.inl rfl)) rfl rfl rfl rfl rfl (λ_ _ _=>rfl) rfl rfl (by decide +kernel) (by decide) (by decide) (by decide)) rfl mSor Yfh (Gb (ZdD rfl mRange (Gb Ge (Gb (Gs Jy (Gk (Xj K) rfl mLen Ycg (Gb (pv 0) Gd)) Ge) Gd))) Gd) (VO (ZcP (qual:=Str.ofString "from_below.<locals>.<lambda>") (clos:=[(Str.ofString "nodes", s.heap.objs.size+1)]) rfl rfl hC hBl rfl) (VO ON ZcA)))),?_⟩;have hxl:=tr.len;refine ⟨_,rfl,l,xs,rfl,.inl (SqL.of el),_,_,rfl,rfl,_,_,rfl,λr0 hr0=>?_⟩;have s1:Same H (upd H r0 (.rng 2 ((xs.length:Int)+2))):=Same.new hr0;have er0:upd H r0 (.rng 2 ((xs.length:Int)+2)) r0=some (.rng 2 ((xs.length:Int)+2)):=Ga;generalize upd H r0 (.rng 2 ((xs.length:Int)+2))=H1 at s1 er0 ⊢;have st1:LS tb H1:=st.same s1;obtain ⟨ps,eP⟩:=st1.tbl;obtain ⟨us,hu1,hu2,hu3,hu4⟩:=Xf (tr.same s1);refine ⟨st1,λfl c' ctv H2 sl on hfl efl=>?_⟩;have er2:H2 r0=some (.rng 2 ((xs.length:Int)+2)):=sl r0 _ (λz=>by rw [z,eP] at er0;cases er0) er0;obtain ⟨eP2,oc,eoc,hco⟩:=on;refine ⟨r0,fl,c',l,oc,ctv,xs.length,us,rfl,rfl,er2,by lia,efl,eoc,hco,rfl,SqL.of (by rw [<-hu1];exact sl.lst eP (s1 _ _ el)),by lia,λu hu=>SqT.of (sl.tup eP (hu4 u hu)),λa os ha pm so=>?_⟩;have on2:LS tb H2:=.inr ⟨c',eP2,oc,eoc,hco⟩;rw [hu2,hxl] at pm;have ha1:H1 a=none:=sl.free eP ⟨_,eP2⟩ ha;exact q a _ _ ((SameL.of s1).trans (sl.put ha1)) (on2.same (Same.new ha)) (s1.free ha1) Ga (fall_of pm so)
theorem LamSt.keep {P d:Addr}{line col:Nat}{qual:Str}{H H':Hp}{kv:List (Key×V)}(h:LamSt P line col qual H)(k:∀b o,b≠d->H b=some o->H' b=some o)(hd:H d=some (.dK kv)):LamSt P line col qual H':=by
 rcases h with h | ⟨c,h1,oc,h2,h3⟩
 ·exact .inl (k _ _ (λz=>by rw [z,hd] at h;cases h) h)
 ·exact .inr ⟨c,k _ _ (λz=>by rw [z,hd] at h1;cases h1) h1,oc,k _ _ (λz=>by rw [z,hd] at h2;cases h2) h2,h3⟩
theorem Xg (ts:List Tri):CntOk ts (GG [] [(Sum.inl 0,.int 0),(Sum.inl 1,.int 1)]) []:=⟨rfl,rfl,λc hc=>by cases hc⟩
noncomputable def ZfK (tb:Addr):Sp:=λvs H Q _=>∃(l:Addr)(xs:List V)(ts:List Tri),vs=[.ref l]/\H l=some (.lst xs)/\Trs H xs ts/\TabOk ts/\ts.length<=900/\LS tb H /\
 ∀(d:Addr)(kvs:List (Key×V))(os:List Int)(H':Hp),SameL tb H H'->LS tb H'->H d=none->H' d=some (.dK kvs)->CntOk ts kvs os->Fall ts os->Q (.ref d) H'
theorem scSzs:Gp ["nodes", "sizes", "number", "road", "low", "high"] ["nodes"] (Gf Ze6):=⟨rfl,rfl,rfl,by decide +kernel,rfl,by decide +kernel,by decide +kernel⟩
theorem ZfL {f fFb tb:Addr}{fd fdFb:FuncData}(F:Fun K "sizes_of" "sizes_of" Ze6 f fd)(FFb:Fun K "from_below" "from_below" Zgg fFb fdFb)(bFb:Binds K fdFb ["nodes"] [])(mFb:mg "from_below" = some (.ref fFb))(GFb:G4 P w K mg base CX0 1 fFb fdFb ["nodes"] (ZfI tb)) :
  G4 P w K mg base CX0 2 f fd ["nodes"] (ZfK tb):=by
 refine F.ok scSzs (λvs H Q E h=>?_) (λcdv A outer s H vs Q E hr h=>?_)
 ·obtain ⟨_,_,_,rfl,_⟩:=h
  rfl
 ·obtain ⟨l,xs,ts,rfl,el,tr,T,hts,st,q⟩:=h;have h16:=Ybf.symm;have hu1:(A.deeper (PyProof.Rows.envOfC "sizes_of" (Gf Ze6) s.heap.objs.size f cdv)).units+1<cLine:=by have:=hr.un;lia
  refine ⟨_,Gc (Gn (i:=1) scSzs.nd rfl (Or.inl rfl) (U1 (Jw Ge Ge (Jw Ge Ge U0)) rfl rfl (by decide) (by decide)))
    (Gc (JJ Ych rfl (J3 K (Go GFb (hr.mono (by decide)) rfl mFb FFb.kp bFb .nil Je (Gb (pv 0) Gd))) (Gi (i:=2) scSzs.nd rfl (Or.inl rfl))
    (Gc (Vl (GV (Vg K) (pv 0) (Gs JQ (pv 2) Ge) (λ_ _=>rfl)) (Zbq K (n:=3) rfl (Gq (Gi (i:=3) scSzs.nd rfl (Or.inl rfl)) (Gq (Gi (i:=4) scSzs.nd rfl (Or.inl rfl)) (Gq (Gi (i:=5) scSzs.nd rfl (Or.inl rfl)) JX)))))
    (Gg (Og hu1 (pv 1) (pv 2) (Gs Jy (Jq hu1 (pv 1) (pv 4) (λ_ _=>rfl)) (Jq hu1 (pv 1) (pv 5) (λ_ _=>rfl))) rfl))))
    (Gg (Gr (pv 1)))),?_⟩
  intro d hd;refine ⟨Ga,[(.inl 0,.int 0),(.inl 1,.int 1)],rfl,by decide,?_⟩;have s1:Same H (upd (upd H d (.dK [])) d (.dK (GG [] [(.inl 0,.int 0),(.inl 1,.int 1)]))):=(Same.new hd).put hd;have ed:upd (upd H d (.dK [])) d (.dK (GG [] [(.inl 0,.int 0),(.inl 1,.int 1)])) d=some (.dK (GG [] [(.inl 0,.int 0),(.inl 1,.int 1)])):=Ga;generalize upd (upd H d (.dK [])) d (.dK (GG [] [(.inl 0,.int 0),(.inl 1,.int 1)]))=H1 at s1 ed ⊢;have st1:LS tb H1:=st.same s1;obtain ⟨ps,eP⟩:=st1.tbl;have hxl:=tr.len;dsimp only [GX];refine ⟨_,rfl,l,xs,ts,rfl,s1 _ _ el,tr.same s1,hts,st1,λa os H2 sl st2 ha ea fa=>?_⟩;have el2:H2 l=some (.lst xs):=sl.lst eP (s1 _ _ el);have tr2:Trs H2 xs ts:=Trs.sameL sl eP (tr.same s1);have ed2:=sl.dK eP ed;have had:a≠d:=λz=>by rw [z,ed2] at ea;cases ea
  have hld:l≠d:=λz=>by rw [z,ed2] at el2;cases el2
  refine ⟨a,rfl,⟨_,SqL.of ea⟩,?_⟩;have kT:∀{H':Hp},(∀b o,b≠d->H2 b=some o->H' b=some o)->∀p ys,H2 p=some (.tup ys)->H' p=some (.tup ys):=λk p ys e=>k p _ (λz=>by rw [z,ed2] at e;cases e) e;refine Ji (K:=K) (a:=a) (xs:=os.map V.int) (λi σ H'=>∃(kvs:List (Key×V))(v2 v3 v4 v5:Option V),σ=[some (.ref l),some (.ref d),v2,v3,v4,v5]/\(∀b o,b≠d->H2 b=some o->H' b=some o)/\H' d=some (.dK kvs)/\CntOk ts kvs (os.take i)/\kvs.length<=2+i)
   ⟨_,none,none,none,none,rfl,λ_ _ _ e=>e,ed2,by rw [Yeo];exact Xg ts,by decide⟩ (λi σ H' _ ⟨_,_,_,_,_,_,k,_⟩=>SqL.of (k _ _ had ea)) ?_ ?_
  ·rintro i x σ H3 hxi ⟨kvs,v2,v3,v4,v5,rfl,k3,ed3,D,hkl⟩;obtain ⟨c,rfl,hc⟩:=JG hxi;obtain ⟨r,n⟩:=fa.len hc;obtain ⟨t,et1,et2⟩:=Ur (tr2.keep (kT k3)) n;obtain ⟨A',hA⟩:=Sts.of T (T.nd n).2.1;obtain ⟨B',hB⟩:=Sts.of T (T.nd n).2.2;have g1:=D.get (lo:=0) fa hc n (T.nd n).2.1 hA;have g2:=D.get (lo:=0) fa hc n (T.nd n).2.2 hB;have hol:os.length<=900:=Ybo fa.ln hts;have hi:i<os.length:=(Yao.mp hc).1;dsimp only [GX];refine ⟨_,rfl,_,rfl,_,_,rfl,rfl,l,_,_,_,rfl,rfl,SqL.of (k3 _ _ hld el2),et1,t,_,rfl,SqT.of et2,rfl,_,_,rfl,_,_,rfl,_,_,rfl,rfl,?_⟩;refine ⟨_,rfl,_,rfl,d,_,rfl,g1▸DGet.k (k:=.inl r.2.1) ed3,_,rfl,_,rfl,d,_,rfl,g2▸DGet.k (k:=.inl r.2.2) ed3,_,_,rfl,rfl,_,rfl,_,rfl,d,_,rfl,DPut.k (k:=.inl c) ed3 (by lia),?_⟩;have hpl:=GL kvs (Sum.inl c:Key) (.int ((A'.length:Int)+(B'.length:Int)));exact ⟨_,_,_,_,_,rfl,λb o hb e=>Gj (k3 b o hb e) hb,Ga,D.snoc hc n hA hB,Ybo hpl (by lia)⟩
  ·rintro σ H3 ⟨kvs,v2,v3,v4,v5,rfl,k3,ed3,D,hkl⟩;rw [Yac,Ybp] at D;refine ⟨_,rfl,q d kvs os H3 (λb o hb e=>k3 b o (λz=>by rw [z,hd] at e;cases e) (sl b o hb (s1 b o e))) (LamSt.keep st2 k3 ed2) hd ed3 D fa⟩
noncomputable def Zhv (tb:Addr):Sp:=λvs H Q _=>∃(tp l:Addr)(root:Int)(xs:List V)(ts:List Tri)(L:List (List Int)),vs=[.ref tp]/\TabAt H tp l root xs ts/\TabOk ts/\At ts root (-1)/\ts.length<=900/\LS tb H/\Sts ts root L /\
 ∀(H':Hp),SameL tb H H'->LS tb H'->Q (.int (L.length:Int)) H'
theorem ZhU:Gp ["table"] ["table"] (Gf sSz):=⟨rfl,rfl,rfl,by decide +kernel,rfl,by decide +kernel,by decide +kernel⟩
theorem Zg8 {f fZs tb:Addr}{fd fdZs:FuncData}(F:Fun K "size_of" "size_of" sSz f fd)(FZs:Fun K "sizes_of" "sizes_of" Ze6 fZs fdZs)(bZs:Binds K fdZs ["nodes"] [])(mZs:mg "sizes_of" = some (.ref fZs))(GZs:G4 P w K mg base CX0 2 fZs fdZs ["nodes"] (ZfK tb)) :
  G4 P w K mg base CX0 3 f fd ["table"] (Zhv tb):=by
 refine F.ok ZhU (λvs H Q E h=>?_) (λcdv A outer s H vs Q E hr h=>?_)
 ·obtain ⟨_,_,_,_,_,_,rfl,_⟩:=h
  rfl
 ·obtain ⟨tp,l,root,xs,ts,L,rfl,W,T,ar,hts,st,hL,q⟩:=h;have hu1:(A.deeper (PyProof.Rows.envOfC "size_of" (Gf sSz) s.heap.objs.size f cdv)).units+1<cLine:=by have:=hr.un;lia
  refine ⟨_,Gg (Gr (Jq hu1 (Go GZs (hr.mono (by decide)) rfl mZs FZs.kp bZs .nil Je (Gb (GV (WL K) (pv 0) Ge (λ_ _=>rfl)) Gd)) (GV (WL K) (pv 0) Ge (λ_ _=>rfl)) (λ_ _=>rfl))),?_⟩;refine ⟨_,rfl,tp,_,_,_,rfl,rfl,SqT.of W.w,GB (j:=1) rfl,l,xs,ts,rfl,W.l,W.t,T,hts,st,λd kvs os H1 sl st1 hd ed D fa=>?_⟩;obtain ⟨ps,eP⟩:=st.tbl;have g0:=D.fin (lo:=-1) fa ar hL;exact ⟨_,rfl,tp,_,_,_,rfl,rfl,SqT.of (sl.tup eP W.w),GB (j:=0) rfl,d,_,rfl,g0▸DGet.k (k:=.inl root) ed,q H1 sl st1⟩
noncomputable def Lz (H:Hp)(zs:List (Addr×List Int)):Prop:=∀z∈zs,H z.1=some (.lst (z.2.map V.int))
theorem Lz.same {H H':Hp}{zs:List (Addr×List Int)}(h:Lz H zs)(s:Same H H'):Lz H' zs:=λz hz=>s _ _ (h z hz)
noncomputable def Srt (l:List (List Int)):Prop:=l.Pairwise λa b=>GJ b a=false
noncomputable def UQ (ls:List (List Int)):List PyData:=ls.map λl=>PyData.list (l.map PyData.int)
theorem ZcZ:∀ls:List (List Int),PyData.canLayAll0 (UQ ls)=true
 | []=>by simp [UQ,PyData.canLayAll0]
 | l::ls=>by
  have ih:=ZcZ ls;unfold UQ at ih ⊢;rw [Yaq];simp [PyData.canLayAll0,PyData.canLay0,UF l,ih]
theorem YF:∀ls:List (List Int),PyData.depthAll (UQ ls)<=2
 | []=>by simp [UQ,PyData.depthAll]
 | l::ls=>by
  have ih:=YF ls;have:=J4 l;unfold UQ at ih ⊢;rw [Yaq];simp only [PyData.depthAll,PyData.depth]
  lia
theorem JC (ls:List (List Int)):SeqAt.shaped (.list (UQ ls))=true:=by
 unfold SeqAt.shaped;rw [Ycc];refine ⟨by simp only [PyData.canLay0];exact ZcZ ls,Ybi ?_⟩;have:=YF ls;simp only [PyData.depth]
 lia
theorem OK {K:W.Frag}{H:Hp}:∀{zs:List (Addr×List Int)},Lz H zs->DatVs K H (zs.map λz=>V.ref z.1) (UQ (zs.map (·.2)))
 | [],_=>.nil
 | z::zs,h=>.cons (.lst (SqL.of (h z (by simp))) (Jn z.2)) (OK (zs:=zs) λy hy=>h y (by simp [hy]))
noncomputable def ZfM (m:Nat):Sp:=λvs H Q _=>∃(l:Addr)(c:Int)(xs:List V)(ts:List Tri)(L:List (List Int)),vs=[.ref l,.int c]/\H l=some (.lst xs)/\Trs H xs ts/\TabOk ts/\At ts c (-1)/\0<m/\(∀r,Nd ts c r->30-r.1<(m:Int))/\Sts ts c L/\L.length<=300 /\
 ∀(a:Addr)(zs:List (Addr×List Int))(H':Hp),Same H H'->H a=none->H' a=some (.lst (zs.map λz=>V.ref z.1))->Lz H' zs->(∀z∈zs,H z.1=none)->zs.map (·.2)=L->Q (.ref a) H'
theorem scSbl:Gp ["nodes", "number", "road", "low", "high"] ["nodes", "number"] (Gf Zgj):=⟨rfl,rfl,rfl,by decide +kernel,rfl,by decide +kernel,by decide +kernel⟩
theorem Zc0 {f:Addr}{fd:FuncData}(FSb:Fun K "sets_below" "sets_below" Zgj f fd)(bSb:Binds K fd ["nodes", "number"] [])(mSb:mg "sets_below" = some (.ref f)):∀m,G4 P w K mg base CX0 m f fd ["nodes", "number"] (ZfM m)
 | 0=>⟨λvs H Q E h=>by obtain ⟨_,_,_,_,_,_,_,_,_,_,z,_⟩:=h;lia,λA outer s H args us vs Q E _ _ _ _ h=>by obtain ⟨_,_,_,_,_,_,_,_,_,_,z,_⟩:=h;lia⟩
 | m+1=>by
  have GSb:=Zc0 FSb bSb mSb m;refine FSb.ok scSbl (λvs H Q E h=>?_) (λcdv A outer s H vs Q E hr h=>?_)
  ·obtain ⟨_,_,_,_,_,rfl,_⟩:=h
   rfl
  ·obtain ⟨l,c,xs,ts,L,rfl,el,tr,T,ac,hm0,hm,hL,hLn,q⟩:=h;have h16:=Ybf.symm;refine ⟨_,Gc (Jf (Gv Zc9 (pv 1) Ge (Gz _)) (Gg (Gr (Gs ZeC (GH (Gb (GH Gd) Gd)) (pv 1)))) Gu)
    (Gc (Vl (GV (Vg K) (pv 0) (Gs JQ (pv 1) Ge) (λ_ _=>rfl)) (Zbq K (n:=3) rfl (Gq (Gi (i:=2) scSbl.nd rfl (Or.inr rfl)) (Gq (Gi (i:=3) scSbl.nd rfl (Or.inl rfl)) (Gq (Gi (i:=4) scSbl.nd rfl (Or.inl rfl)) JX)))))
    (Gg (Gr (Gs Of (Go GSb hr rfl mSb FSb.kp bSb .nil Je (Gb (pv 0) (Gb (pv 3) Gd))) (Jl (own:=["roads"]) rfl (Gw (fr:=[("road", 2)]) [(".0", .local),("roads", .local),("road", .cell)] rfl rfl (by decide +kernel) rfl (by decide +kernel) ⟨rfl,trivial⟩ ⟨λh=>JE h,λh=>JE h,λ_=>⟨_,rfl⟩,trivial⟩ ⟨⟨rfl,.inl rfl,.inl rfl⟩,trivial⟩) (J3 K (Go GSb hr rfl mSb FSb.kp bSb .nil Je (Gb (pv 0) (Gb (pv 4) Gd)))) (λ_ _ _ _=>Gi (i:=0) (show List.Nodup (["roads", "road"]:List Str) by decide +kernel) rfl (Or.inl rfl)) (λ_ _ _ _=>JR) (λ_ _ _ _=>Gs Of (GH (Gb (pv 1) Gd)) (pv 0))))))),?_⟩
   refine ⟨_,rfl,_,_,rfl,rfl,_,rfl,Vf (λc1=>?_) (λc1=>?_)⟩
   ·have c1':c<2:=Ybw c1;have h0:=ac.lt;refine ⟨Yar _,λe he=>⟨(by show 1<=sizeLine;lia),λo ho=>?_⟩⟩;have s1:Same H (upd H e (.lst [])):=Same.new he;have e1:upd H e (.lst []) e=some (.lst []):=Ga;generalize upd H e (.lst [])=H1 at s1 e1 ho ⊢;have s2:Same H1 (upd H1 o (.lst [.ref e])):=Same.new ho;have e2:upd H1 o (.lst [.ref e]) o=some (.lst [.ref e]):=Ga;generalize upd H1 o (.lst [.ref e])=H2 at s2 e2 ⊢;have S2:=s1.trans s2;refine ⟨_,rfl,o,c,[.ref e],rfl,rfl,e2,by lia,by lia,?_,λp hp=>?_⟩
    ·show 1 * c.toNat<=sizeLine
     lia
    have S3:Same H2 (upd H2 p (.lst (List.replicate c.toNat [V.ref e]).flatten)):=Same.new hp;have hc:c=0\/c=1:=by lia
    rcases hc with rfl | rfl
    ·exact q p [] _ (S2.trans S3) (S2.free hp) Ga (λz hz=>by cases hz) (λz hz=>by cases hz) (hL.uniq .zero▸rfl)
    ·refine q p [(e,[])] _ (S2.trans S3) (S2.free hp) Ga (λz hz=>?_) (λz hz=>?_) (hL.uniq .one▸rfl)
     ·rw [Yah.mp hz];exact S3 _ _ (s2 _ _ e1)
     ·rw [Yah.mp hz];exact he
   ·have c1':¬ c<2:=λz=>c1 (Ybi z);obtain ⟨r,n,_⟩:=ac.nd (by lia);obtain ⟨t,et1,et2⟩:=Ur tr n;have h30:=(T.nd n).1;have hr':=hm r n;have child:∀c',At ts c' r.1->∀r',Nd ts c' r'->30-r'.1<(m:Int):=λc' a r' n'=>by
     obtain ⟨r'',n'',g⟩:=a.nd (by have:=n'.1;lia);rw [n''.one n'] at g
     lia
    obtain ⟨LA,hA⟩:=Sts.of T (T.nd n).2.1;obtain ⟨LB,hB⟩:=Sts.of T (T.nd n).2.2;have eL:=hL.uniq (.node n hA hB);have hsum:LA.length+LB.length<=300:=by
     have:=Ybc List.length eL;rw [Yai,Yac] at this
     lia
    dsimp only [UC];refine ⟨_,rfl,_,rfl,_,_,rfl,rfl,l,_,_,_,rfl,rfl,SqL.of el,et1,t,_,rfl,SqT.of et2,rfl,_,_,rfl,_,_,rfl,_,_,rfl,rfl,?_⟩;refine ⟨_,rfl,_,rfl,l,r.2.1,xs,ts,LA,rfl,el,tr,T,(T.nd n).2.1.mono (by lia),by lia,child _ (T.nd n).2.1,hA,by lia,λa1 zs1 H1 s1 ha1 ea1 lz1 fr1 ez1=>?_⟩;refine ⟨_,rfl,_,rfl,l,r.2.2,xs,ts,LB,rfl,s1 _ _ el,tr.same s1,T,(T.nd n).2.2.mono (by lia),by lia,child _ (T.nd n).2.2,hB,by lia,λa2 zs2 H2 s2 ha2 ea2 lz2 fr2 ez2=>?_⟩;have hz1:zs1.length=LA.length:=by rw [<-ez1,Yac]
    have hz2:zs2.length=LB.length:=by rw [<-ez2,Yac]
    refine ⟨a2,rfl,⟨_,SqL.of ea2⟩,λD hD=>?_⟩;refine Jm (K:=K) (a:=a2) (xs:=zs2.map λz=>V.ref z.1) (λj ys H3=>Same H2 H3/\H3 D=some (.lst ys)/\∃ws:List (Addr×List Int),ys=ws.map (λz=>V.ref z.1)/\ws.length=j/\ws.map (·.2)=(zs2.take j).map (λz=>r.1::z.2)/\Lz H3 ws/\∀z∈ws,H2 z.1=none/\z.1≠D)
     ⟨Same.new hD,Ga,[],rfl,rfl,rfl,(λz hz=>by cases hz),(λz hz=>by cases hz)⟩ (λj ys H3 _ ⟨s3,_⟩=>SqL.of (s3 _ _ ea2)) ?_ ?_
    ·rintro j x ys H3 hxj ⟨s3,eD,ws,rfl,hwl,hwm,lzw,fw⟩;rw [Yaz] at hxj;cases hz:zs2[j]? with
     | none=>rw [hz] at hxj;cases hxj
     | some z=>
      rw [hz] at hxj;cases hxj;have hzm:z∈zs2:=Yax hz;have hj:j<zs2.length:=(Yao.mp hz).1;have hstep:zs2.take (j+1)=zs2.take j++[z]:=by rw [Ybz,hz];rfl
      have hzB:z.2∈LB:=ez2▸Yaj.mpr ⟨z,hzm,rfl⟩;have hsh:=hB.short T (T.nd n).2.2 h30.2 z.2 hzB;refine ⟨⟨rfl,trivial⟩,?_⟩;unfold ZbC;refine OQ ?_;refine ⟨_,rfl,(by show 1<=sizeLine;lia),λo ho=>?_⟩;have s4:Same H3 (upd H3 o (.lst [.int r.1])):=Same.new ho;have e4:upd H3 o (.lst [.int r.1]) o=some (.lst [.int r.1]):=Ga;generalize upd H3 o (.lst [.int r.1])=H4 at s4 e4 ⊢;have S4:=s3.trans s4;refine ⟨_,rfl,o,z.1,[.int r.1],z.2.map V.int,rfl,rfl,e4,S4 _ _ (lz2 z hzm),by rw [Yac,Yat];lia,λp hp=>?_⟩;have s5:Same H4 (upd H4 p (.lst ([.int r.1]++z.2.map V.int))):=Same.new hp;have e5:upd H4 p (.lst ([.int r.1]++z.2.map V.int)) p=some (.lst ((r.1::z.2).map V.int)):=Ga;have hpD:p≠D:=Ne.symm (Gh (s4 _ _ eD) hp);have hp2:H2 p=none:=S4.free hp;generalize upd H4 p (.lst ([.int r.1]++z.2.map V.int))=H5 at s5 e5 ⊢;have S35:=s4.trans s5;refine ⟨S35 _ _ eD,by rw [Yac];lia,(S4.trans s5).put hD,Ga,ws++[(p,r.1::z.2)],by rw [Yap];rfl,by rw [Yai,Yat,hwl],by rw [hstep,Yap,Yap,hwm];rfl,λy hy=>?_,λy hy=>?_⟩
      ·rcases Yag.mp hy with hy | hy
       ·exact Gj (S35 _ _ (lzw y hy)) (fw y hy).2
       ·rw [Yah.mp hy];exact Gj e5 hpD
      ·rcases Yag.mp hy with hy | hy
       ·exact fw y hy
       ·rw [Yah.mp hy];exact ⟨hp2,hpD⟩
    ·rintro ys H3 ⟨s3,eD,ws,rfl,hwl,hwm,lzw,fw⟩;rw [Yac] at hwl hwm;rw [Ybp] at hwm;have S3:=s2.trans s3;refine ⟨a1,D,_,_,rfl,rfl,S3 _ _ ea1,eD,by rw [Yac,Yac];lia,λp hp=>?_⟩;have s4:Same H3 (upd H3 p (.lst ((zs1.map λz=>V.ref z.1)++ws.map λz=>V.ref z.1))):=Same.new hp;refine q p (zs1++ws) _ (s1.trans (S3.trans s4)) ((s1.trans S3).free hp) (by rw [Ga,Yap]) (λz hz=>?_) (λz hz=>?_) ?_
     ·rcases Yag.mp hz with hz | hz
      ·exact (S3.trans s4) _ _ (lz1 z hz)
      ·exact s4 _ _ (lzw z hz)
     ·rcases Yag.mp hz with hz | hz
      ·exact fr1 z hz
      ·exact s1.free (s2.free (fw z hz).1)
     ·rw [Yap,ez1,hwm,eL,<-ez2,Ycq]
      rfl
noncomputable def ZfN (tb TM:Addr):Sp:=λvs H Q E=>∃(tp l:Addr)(root:Int)(xs:List V)(ts:List Tri)(L:List (List Int)),vs=[.ref tp]/\TabAt H tp l root xs ts/\TabOk ts/\At ts root (-1)/\ts.length<=900/\LS tb H/\Sts ts root L /\
 (300<L.length->∀H':Hp,SameL tb H H'->LS tb H'->E (.ref TM) none H') /\
 (L.length<=300->∀(a:Addr)(zs:List (Addr×List Int))(H':Hp),SameL tb H H'->LS tb H'->H a=none->H' a=some (.lst (zs.map λz=>V.ref z.1))->Lz H' zs->(∀z∈zs,H z.1=none)->(zs.map (·.2)).Perm L->Srt (zs.map (·.2))->Q (.ref a) H')
theorem Zg9:Gp ["table"] ["table"] (Gf Zgk):=⟨rfl,rfl,rfl,by decide +kernel,rfl,by decide +kernel,by decide +kernel⟩
theorem ZfO {f fZ fSb tb TM:Addr}{fd fdZ fdSb:FuncData}{tM:Tok}(F:Fun K "sets_of" "sets_of" Zgk f fd)(FZ:Fun K "size_of" "size_of" sSz fZ fdZ)(bZ:Binds K fdZ ["table"] [])(mZ:mg "size_of" = some (.ref fZ))(GZ:G4 P w K mg base CX0 3 fZ fdZ ["table"] (Zhv tb))(FSb:Fun K "sets_below" "sets_below" Zgj fSb fdSb)(bSb:Binds K fdSb ["nodes", "number"] [])(mSb:mg "sets_below" = some (.ref fSb))(mMoS:mg "MOST_SETS" = some (.int 300 tM))(mTM:mg "TooMany" = some (.ref TM))(xTM:ExcC K TM)(mSor:mg "sorted" = none) :
  G4 P w K mg base (CXr P w) 33 f fd ["table"] (ZfN tb TM):=by
 have GSb:G4 P w K mg base CX0 32 fSb fdSb ["nodes", "number"] (ZfM 32):=Zc0 FSb bSb mSb 32;refine F.okR Zg9 (λvs H Q E h=>?_) (λcdv A outer s H vs Q E hr h=>?_)
 ·obtain ⟨_,_,_,_,_,_,rfl,_⟩:=h
  rfl
 ·obtain ⟨tp,l,root,xs,ts,L,rfl,W,T,ar,hts,st,hL,qE,qQ⟩:=h;have hu:=hr.units;obtain ⟨ps,eP⟩:=st.tbl;refine ⟨_,Gc (Jf (Gv Zbx (Go GZ (hr.mono (by decide)) rfl mZ FZ.kp bZ .nil Je (Gb (pv 0) Gd)) (Xm (v:=.int 300) rfl mMoS ⟨_,rfl⟩) (Gz _)) (Gg (XZ (E:=E) rfl Uv rfl mTM xTM (Gb Zcx Gd))) Gu)
    (Gg (Gr (Gk (ZaI K hu) rfl mSor Yfh (Gb (Go GSb (hr.mono (by decide)) rfl mSb FSb.kp bSb .nil Je (Gb (GV (WL K) (pv 0) Ge (λ_ _=>rfl)) (Gb (GV (WL K) (pv 0) Ge (λ_ _=>rfl)) Gd))) Gd)))),?_⟩
  refine ⟨_,rfl,tp,l,root,xs,ts,L,rfl,W,T,ar,hts,st,hL,λH1 sl st1=>?_⟩;refine ⟨_,_,rfl,rfl,_,rfl,Vf (λc1=>?_) (λc1=>?_)⟩
  ·have c1':(L.length:Int) > 300:=Ybw c1;exact ⟨by show 1<=sizeLine;rw [Ybf];lia,qE (by lia) H1 sl st1⟩
  ·have c1':¬ (L.length:Int) > 300:=λz=>c1 (Ybi z);have W1:TabAt H1 tp l root xs ts:=⟨sl.tup eP W.w,sl.lst eP W.l,Trs.sameL sl eP W.t⟩;have fr:∀{p:Addr},H1 p=none->H p=none:=λh=>sl.free eP st1.tbl h;refine ⟨_,rfl,tp,_,_,_,rfl,rfl,SqT.of W1.w,GB (j:=1) rfl,_,rfl,tp,_,_,_,rfl,rfl,SqT.of W1.w,GB (j:=0) rfl,l,root,xs,ts,L,rfl,W1.l,W1.t,T,ar,by decide,λr n=>?_,hL,by lia,λa zs H2 s2 ha ea lz fz ez=>?_⟩
   ·have:=(T.nd n).1
    lia
   refine ⟨a,zs,rfl,SqL.of ea,λz hz=>SqL.of (lz z hz),λb zs' hb pm so=>?_⟩;have s3:Same H2 (upd H2 b (.lst (zs'.map λz=>V.ref z.1))):=Same.new hb;refine qQ (by lia) b zs' _ (sl.trans (.of (s2.trans s3))) (st1.same (s2.trans s3)) (fr (s2.free hb)) Ga (λz hz=>s3 _ _ (lz z (pm.mem_iff.mp hz))) (λz hz=>fr (fz z (pm.mem_iff.mp hz))) ?_ so;have:=pm.map (·.2);rw [ez] at this;exact this
noncomputable def Zd8:Sp:=λvs H Q _=>∃n:Int,vs=[.int n]/\Q (.bl true) H
theorem Zha:Gp ["found"] ["found"] (Gf Ze9):=⟨rfl,rfl,rfl,by decide +kernel,rfl,by decide +kernel,by decide +kernel⟩
theorem ZfP {f:Addr}{fd:FuncData}(F:Fun K "_law_whole" "_law_whole" Ze9 f fd)(kib:W.kitOne K (.type "int") (.type "bool")=some false)(mIsi:mg "isinstance" = none)(mInt:mg "int" = none)(mBool:mg "bool" = none):G4 P w K mg base CX0 1 f fd ["found"] Zd8:=by
 refine F.ok Zha (λvs H Q E h=>?_) (λcdv A outer s H vs Q E hr h=>?_)
 ·obtain ⟨_,rfl,_⟩:=h
  rfl
 ·obtain ⟨n,rfl,q⟩:=h;refine ⟨_,Gg (Gr (Zem (Gk (Zbp K) rfl mIsi Jv (Gb (pv 0) (Gb (OA mInt X2) Gd))) (Zel (Zen (Gk (Zbp K) rfl mIsi Jv (Gb (pv 0) (Gb (OA mBool Z1) Gd))))))),?_⟩;refine ⟨_,rfl,_,_,true,rfl,⟨_,rfl,OQ ?_⟩,.inl ⟨_,.int _,rfl,JD⟩⟩;exact ⟨_,rfl,_,_,false,rfl,⟨_,rfl,q⟩,.inl ⟨_,.int _,rfl,kib⟩⟩
noncomputable def pr (ts:List Tri)(i:Nat):List Int:=[0-(ts.getD i (0,0,0)).1,(i:Int)]
theorem ZfQ {ts:List Tri}{i:Nat}{r:Tri}(h:ts[i]?=some r):pr ts i=[0-r.1,(i:Int)]:=by
 unfold pr;rw [Ydj,h]
 rfl
theorem Zcq {ts:List Tri}{zs zs':List (Addr×List Int)}(pm:zs'.Perm zs)(ez:zs.map (·.2)=(List.range ts.length).map (pr ts))(so:(zs'.map (·.2)).Pairwise λa b=>GJ b a=false) :
  Fall ts (zs'.map λz=>z.2.getD 1 0+2)/\∀z∈zs',∃(i:Nat)(r:Tri),z.2=[0-r.1,(i:Int)]/\ts[i]?=some r:=by
 have A:∀z∈zs',∃(i:Nat)(r:Tri),z.2=[0-r.1,(i:Int)]/\ts[i]?=some r:=λz hz=>by
  have h1:z.2∈zs.map (·.2):=Yaj.mpr ⟨z,pm.mem_iff.mp hz,rfl⟩;rw [ez] at h1;obtain ⟨i,hi,e⟩:=Yaj.mp h1;have hi:=Yca.mp hi;have hr:ts[i]?=some ts[i]:=Yau hi;exact ⟨i,ts[i],by rw [<-e,ZfQ hr],hr⟩
 have N:∀z∈zs',∃r,Nd ts (z.2.getD 1 0+2) r/\∃i:Nat,z.2=[0-r.1,(i:Int)]:=λz hz=>by
  obtain ⟨i,r,e,hr⟩:=A z hz;refine ⟨r,?_,i,e⟩;rw [e];show Nd ts ((i:Int)+2) r;exact ⟨by lia,by rw [show ((i:Int)+2-2).toNat=i by lia];exact hr⟩
 refine ⟨⟨λc r n=>?_,λc hc=>?_,?_,?_⟩,A⟩
 ·have hi:(c-2).toNat<ts.length:=(Yao.mp n.2).1;have h1:pr ts (c-2).toNat∈zs.map (·.2):=by
   rw [ez];exact Yaj.mpr ⟨_,Yca.mpr hi,rfl⟩
  obtain ⟨z,hz,e⟩:=Yaj.mp h1;refine Yaj.mpr ⟨z,pm.mem_iff.mpr hz,?_⟩;have e:z.2=pr ts (c-2).toNat:=e;rw [e];show (((c-2).toNat:Nat):Int)+2=c;have:=n.1
  lia
 ·obtain ⟨z,hz,rfl⟩:=Yaj.mp hc;obtain ⟨r,n,_⟩:=N z hz;exact ⟨r,n⟩
 ·rw [Ybq] at so ⊢;refine so.imp_of_mem λ{a b} ha hb hab r q n m=>?_;obtain ⟨r1,n1,i,e1⟩:=N a ha;obtain ⟨r2,n2,j,e2⟩:=N b hb;rw [n.one n1,m.one n2];rw [e1,e2] at hab;unfold GJ at hab;by_cases z:0-r2.1=0-r1.1
  ·lia
  ·rw [if_neg z] at hab;have:=Yeq hab
   lia
 ·rw [Yac,pm.length_eq];have:=Ybc List.length ez;rw [Yac,Yac,Yek] at this
  lia
noncomputable def ZfR:Sp:=λvs H Q _=>∃(tp l:Addr)(root:Int)(xs:List V)(ts:List Tri)(L:List (List Int)),vs=[.ref tp]/\TabAt H tp l root xs ts/\TabOk ts/\At ts root (-1)/\ts.length<=900/\Sts ts root L /\
 ∀(H':Hp),Same H H'->Q (.int (L.length:Int)) H'
theorem scMny:Gp ["table", "root", "nodes", "many", "k", "road"] ["table"] (Gf Zfa):=⟨rfl,rfl,rfl,by decide +kernel,rfl,by decide +kernel,by decide +kernel⟩
theorem ZfS {f:Addr}{fd:FuncData}(F:Fun K "_law_many" "_law_many" Zfa f fd)(mSor:mg "sorted" = none)(mRange:mg "range" = none)(mLen:mg "len" = none):G4 P w K mg base CX0 1 f fd ["table"] ZfR:=by
 refine F.ok scMny (λvs H Q E h=>?_) (λcdv A outer s H vs Q E hr h=>?_)
 ·obtain ⟨_,_,_,_,_,_,rfl,_⟩:=h
  rfl
 ·obtain ⟨tp,l,root,xs,ts,L,rfl,W,T,ar,hts,hL,q⟩:=h;have h16:=Ybf.symm;have hu1:(A.deeper (PyProof.Rows.envOfC "_law_many" (Gf Zfa) s.heap.objs.size f cdv)).units+1<cLine:=by have:=hr.un;lia
  have hxl:=W.t.len;refine ⟨_,Gc (Vl (pv 0) (Zbq K (n:=2) rfl (Gq (Gi (i:=1) scMny.nd rfl (Or.inl rfl)) (Gq (Gi (i:=2) scMny.nd rfl (Or.inr rfl)) JX))))
    (Gc (Gn (i:=3) scMny.nd rfl (Or.inl rfl) (U1 (Jw Ge Ge (Jw Ge Ge U0)) rfl rfl (by decide) (by decide)))
    (Gc (JJ Ych rfl (J3 K (Gk (ZdQ K) rfl mSor Yfh (Gb (Jl (own:=["k"]) rfl (Gw (fr:=[("nodes", 2)]) [(".0", .local),("k", .local),("nodes", .cell)] rfl rfl (by decide +kernel) rfl (by decide +kernel) ⟨rfl,trivial⟩ ⟨λh=>JE h,λh=>JE h,λ_=>⟨_,rfl⟩,trivial⟩ ⟨⟨rfl,.inl rfl,.inl rfl⟩,trivial⟩) (UT rfl mRange (Gb (Gk (Xj K) rfl mLen Ycg (Gb (pv 2) Gd)) Gd)) (λ_ _ _ _=>Gi (i:=0) (show List.Nodup (["k", "nodes"]:List Str) by decide +kernel) rfl (Or.inl rfl)) (λ_ _ _ _=>JR) (λ_ _ _ _=>Jz (Gb (Gs JQ Ge (GV (WL K) (GV (Vg K) (pv 1) (pv 0) (λ_ _=>rfl)) Ge (λ_ _=>rfl))) (Gb (pv 0) Gd)))) Gd))) (Zbq K (n:=2) rfl (Gq (Gi (i:=5) scMny.nd rfl (Or.inl rfl)) (Gq (Gi (i:=4) scMny.nd rfl (Or.inl rfl)) JX)))
    (Gg (Og hu1 (pv 3) (Gs Jy (pv 4) Ge) (Gs Jy (Jq hu1 (pv 3) (GV (WL K) (GV (Vg K) (pv 2) (pv 4) (λ_ _=>rfl)) Ge (λ_ _=>rfl)) (λ_ _=>rfl)) (Jq hu1 (pv 3) (GV (WL K) (GV (Vg K) (pv 2) (pv 4) (λ_ _=>rfl)) Ge (λ_ _=>rfl)) (λ_ _=>rfl))) rfl)))
    (Gg (Gr (Jq hu1 (pv 3) (pv 1) (λ_ _=>rfl)))))),?_⟩
  refine ⟨_,rfl,tp,_,rfl,SqT.of W.w,rfl,_,_,rfl,_,_,rfl,rfl,?_⟩;intro d hd;refine ⟨Ga,[(.inl 0,.int 0),(.inl 1,.int 1)],rfl,by decide,?_⟩;have s1:Same H (upd (upd H d (.dK [])) d (.dK (GG [] [(.inl 0,.int 0),(.inl 1,.int 1)]))):=(Same.new hd).put hd;have ed:upd (upd H d (.dK [])) d (.dK (GG [] [(.inl 0,.int 0),(.inl 1,.int 1)])) d=some (.dK (GG [] [(.inl 0,.int 0),(.inl 1,.int 1)])):=Ga;generalize upd (upd H d (.dK [])) d (.dK (GG [] [(.inl 0,.int 0),(.inl 1,.int 1)]))=H1 at s1 ed ⊢;dsimp only [GX];refine ⟨_,rfl,l,xs,rfl,.inl (SqL.of (s1 _ _ W.l)),_,rfl,by lia,by lia,λD hD=>?_⟩;rw [Yef];refine Vr (lo:=0) (n:=xs.length) (λj ys H2=>Same H1 H2/\H2 D=some (.lst ys)/\∃zs:List (Addr×List Int),ys=zs.map (λz=>V.ref z.1)/\zs.length=j/\zs.map (·.2)=(List.range j).map (pr ts)/\∀z∈zs,H2 z.1=some (.tup (z.2.map V.int)))
   ⟨Same.new hD,Ga,[],rfl,rfl,rfl,λz hz=>by cases hz⟩ ?_ ?_
  ·rintro j ys H2 hj ⟨s2,eD,zs,rfl,hzl,hzm,tz⟩;rw [show (0:Int)+(j:Int)=(j:Int) by lia];have hjt:j<ts.length:=by lia
   obtain ⟨t,et1,et2⟩:=((W.t.same s1).same s2).at (Yau hjt);refine ⟨⟨rfl,trivial⟩,?_⟩;unfold ZbC;refine OQ ?_;refine ⟨_,rfl,_,rfl,l,_,_,_,rfl,rfl,SqL.of (s2 _ _ (s1 _ _ W.l)),GB et1,t,_,_,_,rfl,rfl,SqT.of et2,GB (j:=0) rfl,_,_,rfl,rfl,_,rfl,UA,λp hp=>?_⟩;have s3:Same H2 (upd H2 p (.tup [.int (0-ts[j].1),.int (j:Int)])):=Same.new hp;have e3:upd H2 p (.tup [.int (0-ts[j].1),.int (j:Int)]) p=some (.tup ((pr ts j).map V.int)):=by rw [Ga,ZfQ (Yau hjt)];rfl
   generalize upd H2 p (.tup [.int (0-ts[j].1),.int (j:Int)])=H3 at s3 e3 ⊢;have eD3:=s3 _ _ eD;have k4:=G6 (o:=.lst ((zs.map λz=>V.ref z.1)++[.ref p])) eD3;refine ⟨eD3,by rw [Yac];lia,(s2.trans s3).put hD,Ga,zs++[(p,pr ts j)],by rw [Yap];rfl,by rw [Yai,Yat,hzl],by rw [List.range_succ,Yap,Yap,hzm];rfl,λz hz=>?_⟩;rcases Yag.mp hz with hz | hz
   ·exact k4 _ _ (s3 _ _ (tz z hz))
   ·rw [Yah.mp hz];exact k4 _ _ e3
  ·rintro ys H2 ⟨s2,eD,zs,rfl,hzl,hzm,tz⟩;rw [hxl] at hzm;refine ⟨D,zs,rfl,SqL.of eD,λz hz=>⟨SqT.of (tz z hz),λe=>?_⟩,λb zs' hb pm so=>?_⟩
   ·have h1:z.2∈zs.map (·.2):=Yaj.mpr ⟨z,hz,rfl⟩;rw [hzm] at h1;obtain ⟨i,_,e1⟩:=Yaj.mp h1;rw [e] at e1;cases e1
   obtain ⟨fa,az⟩:=Zcq pm hzm so;have s3:Same H2 (upd H2 b (.lst (zs'.map λz=>V.ref z.1))):=Same.new hb;have eb:upd H2 b (.lst (zs'.map λz=>V.ref z.1)) b=some (.lst (zs'.map λz=>V.ref z.1)):=Ga;generalize upd H2 b (.lst (zs'.map λz=>V.ref z.1))=H3 at s3 eb ⊢;have S3:=s2.trans s3;have ed3:=S3 _ _ ed;have el3:=S3 _ _ (s1 _ _ W.l);have tr3:=(W.t.same s1).same S3;have hbd:b≠d:=λz=>by rw [z,ed3] at eb;cases eb
   have hld:l≠d:=λz=>by rw [z,ed3] at el3;cases el3
   have tz3:∀z∈zs',H3 z.1=some (.tup (z.2.map V.int)):=λz hz=>s3 _ _ (tz z (pm.mem_iff.mp hz));have kT:∀{H':Hp},(∀b o,b≠d->H3 b=some o->H' b=some o)->∀p ys,H3 p=some (.tup ys)->H' p=some (.tup ys):=λk p ys e=>k p _ (λz=>by rw [z,ed3] at e;cases e) e;refine ⟨b,rfl,⟨_,SqL.of eb⟩,?_⟩;refine Ji (K:=K) (a:=b) (xs:=zs'.map λz=>V.ref z.1) (λi σ H'=>∃(kvs:List (Key×V))(v4 v5:Option V),σ=[some (.ref tp),some (.int root),some (.ref l),some (.ref d),v4,v5]/\(∀b o,b≠d->H3 b=some o->H' b=some o)/\H' d=some (.dK kvs)/\CntOk ts kvs ((zs'.map λz=>z.2.getD 1 0+2).take i)/\kvs.length<=2+i)
    ⟨_,none,none,rfl,λ_ _ _ e=>e,ed3,by rw [Yeo];exact Xg ts,by decide⟩ (λi σ H' _ ⟨_,_,_,_,k,_⟩=>SqL.of (k _ _ hbd eb)) ?_ ?_
   ·rintro i x σ H4 hxi ⟨kvs,v4,v5,rfl,k4,ed4,Dc,hkl⟩;rw [Yaz] at hxi;cases hz:zs'[i]? with
    | none=>rw [hz] at hxi;cases hxi
    | some z=>
     rw [hz] at hxi;cases hxi;have hzm':z∈zs':=Yax hz;have hi:i<zs'.length:=(Yao.mp hz).1;obtain ⟨k,r,e2,hr2⟩:=az z hzm';have hc:(zs'.map λz=>z.2.getD 1 0+2)[i]?=some ((k:Int)+2):=by
      rw [Yaz,hz];show some (z.2.getD 1 0+2)=_;rw [e2]
      rfl
     have n:Nd ts ((k:Int)+2) r:=⟨by lia,by rw [show ((k:Int)+2-2).toNat=k by lia];exact hr2⟩;have ez:=kT k4 _ _ (tz3 z hzm');rw [e2] at ez;obtain ⟨t,et1,et2⟩:=(tr3.keep (kT k4)).at hr2;obtain ⟨A',hA⟩:=Sts.of T (T.nd n).2.1;obtain ⟨B',hB⟩:=Sts.of T (T.nd n).2.2;have g1:=Dc.get (lo:=0) fa hc n (T.nd n).2.1 hA;have g2:=Dc.get (lo:=0) fa hc n (T.nd n).2.2 hB;have hlz:zs'.length<=900:=by have:=fa.ln;rw [Yac] at this;lia
     have el4:=k4 _ _ hld el3;refine ⟨z.1,_,rfl,SqT.of ez,rfl,_,_,rfl,_,_,rfl,rfl,?_⟩;refine ⟨_,rfl,_,rfl,_,rfl,l,_,_,_,rfl,rfl,SqL.of el4,GB et1,t,_,_,_,rfl,rfl,SqT.of et2,GB (j:=1) rfl,d,_,rfl,g1▸DGet.k (k:=.inl r.2.1) ed4,?_⟩;refine ⟨_,rfl,_,rfl,_,rfl,l,_,_,_,rfl,rfl,SqL.of el4,GB et1,t,_,_,_,rfl,rfl,SqT.of et2,GB (j:=2) rfl,d,_,rfl,g2▸DGet.k (k:=.inl r.2.2) ed4,?_⟩;refine ⟨_,_,rfl,rfl,_,rfl,_,rfl,_,_,rfl,rfl,d,_,rfl,DPut.k (k:=.inl ((k:Int)+2)) ed4 (by lia),?_⟩;have hpl:=GL kvs (Sum.inl ((k:Int)+2):Key) (.int ((A'.length:Int)+(B'.length:Int)));exact ⟨_,_,_,rfl,λb o hb e=>Gj (k4 b o hb e) hb,Ga,Dc.snoc hc n hA hB,Ybo hpl (by lia)⟩
   ·rintro σ H4 ⟨kvs,v4,v5,rfl,k4,ed4,Dc,hkl⟩;rw [Yac,Yew (by rw [Yac];exact Yad _)] at Dc;have g0:=Dc.fin (lo:=-1) fa ar hL;exact ⟨_,rfl,_,rfl,d,_,rfl,g0▸DGet.k (k:=.inl root) ed4,q H4 λb o e=>k4 b o (λz=>by rw [z,hd] at e;cases e) (S3 b o (s1 b o e))⟩
theorem Zbl:∀a b:List (List Int),PyData.eqvAll (UQ a) (UQ b)=decide (a=b)
 | [],[]=>by simp [UQ,PyData.eqvAll]
 | [],_::_=>by simp [UQ,PyData.eqvAll]
 | _::_,[]=>by simp [UQ,PyData.eqvAll]
 | x::a,y::b=>by
  have ih:=Zbl a b;have h:=VU x y;unfold UQ at ih ⊢;rw [Yaq,Yaq];simp only [PyData.eqvAll,h,ih];by_cases e1:x=y <;> by_cases e2:a=b <;> simp [e1,e2]
theorem Zcr (a b:List (List Int)):PyData.eqv (.list (UQ a)) (.list (UQ b))=decide (a=b):=by
 simp only [PyData.eqv,Zbl]
theorem Zd9 (xs:List V)(v:V):atI (xs++[v]) (-1)=some v:=by
 have h:ixN (xs++[v]).length (-1)=some xs.length:=by
  rw [Yai,Yat];unfold ixN;simp
  lia
 unfold atI;rw [h];simp
noncomputable def ZfT:Sp:=λvs H Q _=>∃(l:Addr)(zs:List (Addr×List Int)),vs=[.ref l]/\H l=some (.lst (zs.map λz=>V.ref z.1))/\Lz H zs/\zs.length<=1000 /\
 ∀(a:Addr)(ws:List (Addr×List Int))(H':Hp),Same H H'->H a=none->H' a=some (.lst (ws.map λz=>V.ref z.1))->(∀z∈ws,z∈zs)->(ws.map (·.2)).Pairwise (λa b=>GJ a b=true)->(∀z∈zs,z.2∈ws.map (·.2))->ws.length<=zs.length->Q (.ref a) H'
theorem scOnc:Gp ["sets", "rows", "one"] ["sets"] (Gf Zgr):=⟨rfl,rfl,rfl,by decide +kernel,rfl,by decide +kernel,by decide +kernel⟩
theorem ZfU {f:Addr}{fd:FuncData}(F:Fun K "_law_once" "_law_once" Zgr f fd)(mSor:mg "sorted" = none):G4 P w K mg base CX0 1 f fd ["sets"] ZfT:=by
 refine F.ok scOnc (λvs H Q E h=>?_) (λcdv A outer s H vs Q E hr h=>?_)
 ·obtain ⟨_,_,rfl,_⟩:=h
  rfl
 ·obtain ⟨l,zs,rfl,el,lz,hzl,q⟩:=h;have hu:=hr.units;have h16:=Ybf.symm;refine ⟨_,Gc (Gn (i:=1) scOnc.nd rfl (Or.inl rfl) (GH Gd))
    (Gc (JJ Ych rfl (J3 K (Gk (ZaI K hu) rfl mSor Yfh (Gb (pv 0) Gd))) (Gi (i:=2) scOnc.nd rfl (Or.inl rfl))
    (Gg (Jf (PW.pt (US (Gv (Zdp K hu) (pv 1) (GH Gd) (Gz _)) (Ut (Gv (Zec K hu) (GV (Vg K) (pv 1) (Zet Z2 Ge) (λ_ _=>rfl)) (pv 2) (Gz _))))) (Gg (Jt (Ug Ycr Ydk Ydl GY (pv 1) (Gb (pv 2) Gd)))) Gu)))
    (Gg (Gr (pv 1)))),?_⟩
  refine ⟨Yar _,λfo hfo=>?_⟩;have s1:Same H (upd H fo (.lst [])):=Same.new hfo;have ef:upd H fo (.lst []) fo=some (.lst (([]:List (Addr×List Int)).map λz=>V.ref z.1)):=Ga;generalize upd H fo (.lst [])=H1 at s1 ef ⊢;dsimp only [GX];refine ⟨_,rfl,l,zs,rfl,SqL.of (s1 _ _ el),λz hz=>SqL.of (s1 _ _ (lz z hz)),λsl zs' hsl pm so=>⟨sl,rfl,⟨_,SqL.of Ga⟩,?_⟩⟩;have s2:Same H1 (upd H1 sl (.lst (zs'.map λz=>V.ref z.1))):=Same.new hsl;have es:upd H1 sl (.lst (zs'.map λz=>V.ref z.1)) sl=some (.lst (zs'.map λz=>V.ref z.1)):=Ga;have nfs:fo≠sl:=Gh ef hsl;have ef2:=s2 _ _ ef;have lz2:Lz (upd H1 sl (.lst (zs'.map λz=>V.ref z.1))) zs':=λz hz=>s2 _ _ (s1 _ _ (lz z (pm.mem_iff.mp hz)));have nzf:∀z∈zs',z.1≠fo:=λz hz=>Gh (lz z (pm.mem_iff.mp hz)) hfo;generalize upd H1 sl (.lst (zs'.map λz=>V.ref z.1))=H2 at s2 es ef2 lz2 ⊢;have S2:=s1.trans s2;rw [Ybq] at so;refine Ji (K:=K) (a:=sl) (xs:=zs'.map λz=>V.ref z.1) (λi σ H'=>∃(ws:List (Addr×List Int))(v2:Option V),σ=[some (.ref l),some (.ref fo),v2]/\(∀b o,b≠fo->H2 b=some o->H' b=some o)/\H' fo=some (.lst (ws.map λz=>V.ref z.1))/\(∀z∈ws,z∈zs'.take i)/\(ws.map (·.2)).Pairwise (λa b=>GJ a b=true)/\(∀z∈zs'.take i,z.2∈ws.map (·.2))/\ws.length<=i)
   ⟨[],none,rfl,λ_ _ _ e=>e,ef2,λz hz=>(by cases hz),List.Pairwise.nil,λz hz=>(by rw [Yeo] at hz;cases hz),Yad _⟩ (λi σ H' _ ⟨_,_,_,k,_⟩=>SqL.of (k _ _ (Ne.symm nfs) es)) ?_ ?_
  ·rintro i x σ H3 hxi ⟨ws,v2,rfl,k3,e3,h1,h2,h3,h4⟩;rw [Yaz] at hxi;obtain ⟨z,hz,rfl⟩:=Ybu.mp hxi;obtain ⟨hi,ezi⟩:=Yao.mp hz;have tk:zs'.take (i+1)=zs'.take i++[z]:=by rw [Ybz,hz];rfl
   have hzm:z∈zs':=Yax hz;have ez:=k3 _ _ (nzf z hzm) (lz2 z hzm);have hil:i<1000:=by have:=pm.length_eq;lia
   have lw:Lz H3 ws:=λu hu=>let hm:=Yfa (h1 u hu);k3 _ _ (nzf u hm) (lz2 u hm);have grow:∀H4:Hp,Same H3 H4->(∀u∈ws,GJ u.2 z.2=true)->∃(ws':List (Addr×List Int))(v2:Option V),[some (V.ref l),some (.ref fo),some (.ref z.1)]=[some (V.ref l),some (.ref fo),v2]/\(∀b o,b≠fo->H2 b=some o->upd H4 fo (.lst ((ws.map λz=>V.ref z.1)++[.ref z.1])) b=some o)/\upd H4 fo (.lst ((ws.map λz=>V.ref z.1)++[.ref z.1])) fo=some (.lst (ws'.map λz=>V.ref z.1))/\(∀u∈ws',u∈zs'.take (i+1))/\(ws'.map (·.2)).Pairwise (λa b=>GJ a b=true)/\(∀u∈zs'.take (i+1),u.2∈ws'.map (·.2))/\ws'.length<=i+1:=λH4 s4 hlt=>by
    refine ⟨ws++[z],_,rfl,λb o hb e=>Gj (s4 _ _ (k3 b o hb e)) hb,by rw [Ga,Yap];rfl,λu hu=>?_,?_,λu hu=>?_,by rw [Yai,Yat];lia⟩
    ·rw [tk];rcases Yag.mp hu with h | h
     ·exact Ydd _ (h1 u h)
     ·exact Ycb _ h
    ·rw [Yap,Ybv];refine ⟨h2,by simp,λa ha b hb=>?_⟩;obtain ⟨u,hu,rfl⟩:=Yaj.mp ha;rw [Yah.mp hb];exact hlt u hu
    ·rw [Yap];rw [tk] at hu;rcases Yag.mp hu with h | h
     ·exact Ydd _ (h3 u h)
     ·exact Ycb _ (by rw [Yah.mp h];simp)
   dsimp only [GX];refine ⟨_,rfl,Yar _,λe he=>?_⟩;have s7:Same H3 (upd H3 e (.lst [])):=Same.new he;have nfe:fo≠e:=Gh e3 he;refine ⟨.list (UQ (ws.map (·.2))),.list (UQ []),.lst (SqL.of (s7 _ _ e3)) (OK (lw.same s7)),.lst (SqL.of Ga) .nil,JC _,JC _,_,rfl,?_⟩;rw [Zcr];have hwl:(ws.map λz=>V.ref z.1).length<sizeLine:=by rw [Yac];lia
   refine Vf (λc1=>?_) (λc1=>?_)
   ·have hw:ws=[]:=by
     by_cases hw:ws=[]
     ·exact hw
     ·simp [hw] at c1
    refine OQ ?_;refine ⟨_,rfl,.inl ⟨rfl,_,SqL.of (s7 _ _ e3)⟩,_,rfl,fo,_,_,rfl,rfl,s7 _ _ e3,hwl,?_⟩;exact grow _ s7 (λu hu=>by rw [hw] at hu;cases hu)
   ·have hw:ws≠[]:=λhw=>c1 (by simp [hw]);obtain ⟨us,w0,ew⟩:∃us w0,ws=us++[w0]:=⟨_,_,(List.dropLast_concat_getLast hw).symm⟩;have hw0:w0∈ws:=by rw [ew];simp
    have hst:∀u∈ws,GJ z.2 u.2=false:=λu hu=>by
     have hm:=h1 u hu;obtain ⟨j,hj,ej⟩:=List.mem_take_iff_getElem.mp hm;have:=Yei.mp so j i (by lia) hi (by lia);rw [ej,ezi] at this;exact this
    refine ⟨_,rfl,_,rfl,fo,_,_,.ref w0.1,rfl,rfl,SqL.of (s7 _ _ e3),?_,_,rfl,.list (w0.2.map PyData.int),.list (z.2.map PyData.int),.lst (SqL.of (s7 _ _ (lw w0 hw0))) (Jn _),.lst (SqL.of (s7 _ _ ez)) (Jn _),UZ _,UZ _,_,rfl,?_⟩
    ·rw [ew,Yap];exact Zd9 _ _
    rw [VU];refine Vf (λc2=>?_) (λc2=>?_)
    ·have hne:w0.2≠z.2:=λe=>by rw [e] at c2;simp at c2
     have hlt0:GJ w0.2 z.2=true:=by
      cases hb:GJ w0.2 z.2 with
      | true=>rfl
      | false=>exact absurd (J9 hb (hst w0 hw0)) hne
     refine ⟨_,rfl,.inl ⟨rfl,_,SqL.of (s7 _ _ e3)⟩,_,rfl,fo,_,_,rfl,rfl,s7 _ _ e3,hwl,?_⟩;refine grow _ s7 (λu hu=>?_);rw [ew] at hu;rcases Yag.mp hu with h | h
     ·rw [ew,Yap,Ybv] at h2;exact On (h2.2.2 u.2 (Yaj.mpr ⟨u,h,rfl⟩) w0.2 (by simp)) hlt0
     ·rw [Yah.mp h];exact hlt0
    ·have heq:w0.2=z.2:=by
      by_cases e:w0.2=z.2
      ·exact e
      ·exact absurd (by simp [e]) c2
     refine ⟨ws,_,rfl,λb o hb e=>s7 _ _ (k3 b o hb e),s7 _ _ e3,λu hu=>?_,h2,λu hu=>?_,by lia⟩
     ·rw [tk];exact Ydd _ (h1 u hu)
     ·rw [tk] at hu;rcases Yag.mp hu with h | h
      ·exact h3 u h
      ·rw [Yah.mp h,<-heq];exact Yaj.mpr ⟨w0,hw0,rfl⟩
  ·rintro σ H3 ⟨ws,v2,rfl,k3,e3,h1,h2,h3,h4⟩;rw [Yac,Ybp] at h1 h3;rw [Yac,pm.length_eq] at h4;exact ⟨_,rfl,q fo ws H3 (λb o e=>k3 b o (Gh e hfo) (S2 b o e)) hfo e3 (λz hz=>pm.mem_iff.mp (h1 z hz)) h2 (λz hz=>h3 z (pm.mem_iff.mpr hz)) h4⟩
theorem Xh (ns:List Int):∃ms:List Int,Uf (ns.map V.int) (some 3) (some 63)=ms.map V.int/\ms.length<=ns.length-3:=by
 refine ⟨(ns.drop (HT.sIx ns.length 0 (some 3))).take (HT.sIx ns.length ns.length (some 63)-HT.sIx ns.length 0 (some 3)),?_,?_⟩
 ·unfold Uf;rw [Yac,List.map_take,List.map_drop]
 ·rw [Ybm,Ycl,show (some (3:Int))=some ((3:Nat):Int) from rfl,HT.sIx_nat]
  lia
structure GS (low gap:Int)(s:List Int):Prop where
 up:s.Pairwise (· < ·)
 el:∀x∈s,∃k:Nat,k<13/\x=low+gap * (k:Int)
structure LG (low gap:Int):Prop where
 l0:0<=low
 g1:gap=1\/gap=2
 le:low+12 * gap<30
theorem GS.len {low gap:Int}{s:List Int}(h:GS low gap s):s.length<=13:=by
 have nd:s.Nodup:=h.up.imp λz=>Int.ne_of_lt z;have:=Ycj nd (l₂:=(List.range 13).map λk:Nat=>low+gap * (k:Int)) λx hx=>by
  obtain ⟨k,hk,e⟩:=h.el x hx;exact Yaj.mpr ⟨k,Yca.mpr hk,e.symm⟩
 simpa using this
theorem GS.rg {low gap:Int}{s:List Int}(h:GS low gap s)(g:LG low gap):∀x∈s,0<=x/\x<30:=λx hx=>by
 obtain ⟨k,hk,rfl⟩:=h.el x hx;have h1:=g.l0;have h2:=g.le;rcases g.g1 with e | e <;> rw [e] at h2 ⊢ <;> lia
noncomputable def ZfV:Sp:=λvs H Q _=>∃(n:Int)(m:Nat),vs=[.int n,.int (m:Int)]/\m<=40/\∀(rl:Addr)(rs:List Nat)(H':Hp),Same H H'->H rl=none->H' rl=some (.lst ((rs.map λk:Nat=>(k:Int)).map V.int))->rs.Pairwise (· < ·)->(∀k∈rs,k<m)->Q (.ref rl) H'
theorem scBit:Gp ["number", "many", "found", "k"] ["number", "many"] (Gf Zgn):=⟨rfl,rfl,rfl,by decide +kernel,rfl,by decide +kernel,by decide +kernel⟩
theorem ZfW {f:Addr}{fd:FuncData}(F:Fun K "_law_bits" "_law_bits" Zgn f fd)(mRange:mg "range" = none):G4 P w K mg base CX0 1 f fd ["number", "many"] ZfV:=by
 refine F.ok scBit (λvs H Q E h=>?_) (λcdv A outer s H vs Q E hr h=>?_)
 ·obtain ⟨_,_,rfl,_⟩:=h
  rfl
 ·obtain ⟨n,m,rfl,hm,q⟩:=h;have h16:=Ybf.symm;refine ⟨_,Gc (Gn (i:=2) scBit.nd rfl (Or.inl rfl) (GH Gd))
    (Gc (JJ Ych rfl (UT rfl mRange (Gb (pv 1) Gd)) (Gi (i:=3) scBit.nd rfl (Or.inl rfl))
    (Gc (Jf (Gv Xn (Gs Oe (pv 0) Ge) Ge (Gz _)) (Gg (Jt (Ug Ycr Ydk Ydl GY (pv 2) (Gb (pv 3) Gd)))) Gu)
    (Gg (Gn (i:=0) scBit.nd rfl (Or.inl rfl) (Gs JU (pv 0) Ge)))))
    (Gg (Gr (pv 2)))),?_⟩
  refine ⟨Yar _,λl hl=>?_⟩;refine ⟨_,rfl,_,rfl,by lia,by lia,?_⟩;rw [Yef];refine ZC (lo:=0) (n:=m) (λi σ H2=>∃(row:List Nat)(r:Int)(v3:Option V),σ=[some (.int r),some (.int (m:Int)),some (.ref l),v3]/\Same H H2/\H2 l=some (.lst ((row.map λk:Nat=>(k:Int)).map V.int))/\row.length<=i/\row.Pairwise (· < ·)/\∀k∈row,k<i) ⟨[],_,none,rfl,Same.new hl,Ga,Yad _,List.Pairwise.nil,λk hk=>by cases hk⟩ ?_ ?_
  ·rintro i σ H2 hi ⟨row,r,v3,rfl,s2,e2,rl,pw,lt⟩;rw [Int.zero_add];dsimp only [GX];refine Gy (λσ' H'=>∃(row:List Nat),σ'=[some (.int r),some (.int (m:Int)),some (.ref l),some (.int (i:Int))]/\Same H H'/\H' l=some (.lst ((row.map λk:Nat=>(k:Int)).map V.int))/\row.length<=i+1/\row.Pairwise (· < ·)/\∀k∈row,k<i+1) ?snd ?fst
   case fst=>
    intro hk;refine ⟨_,rfl,_,_,rfl,rfl,(by show (0:Int)<2;decide),rfl,_,rfl,Vf (λ_=>?_) (λ_=>hk _ _ ⟨row,rfl,s2,e2,by lia,pw,λk h=>by have:=lt k h;lia⟩)⟩;refine ⟨_,rfl,.inl ⟨rfl,_,SqL.of e2⟩,_,rfl,l,_,_,rfl,rfl,e2,by rw [Yac,Yac];lia,?_⟩;refine hk _ _ ⟨row++[i],rfl,s2.put hl,by rw [Ga,Yap,Yap];rfl,by rw [Yai,Yat];lia,Ybv.mpr ⟨pw,by simp,λa ha b hb=>?_⟩,λk h=>?_⟩
    ·rw [Yah.mp hb];exact lt a ha
    ·rcases Yag.mp h with h | h
     ·have:=lt k h
      lia
     ·rw [Yah.mp h]
      lia
   case snd=>
    rintro σ' H' ⟨row',rfl,s3,e3,rl3,pw3,lt3⟩;refine ⟨_,rfl,_,_,rfl,rfl,⟨by decide,OJ⟩,?_⟩;exact ⟨row',_,_,rfl,s3,e3,rl3,pw3,lt3⟩
  ·rintro σ H2 ⟨row,r,v3,rfl,s2,e2,rl,pw,lt⟩;exact ⟨_,rfl,q l row H2 s2 hl e2 pw lt⟩
noncomputable def ZfX (K:W.Frag):Sp:=λvs H Q _=>∃(a:Addr)(ns:List Int),vs=[.ref a]/\SqL K H a (ns.map V.int)/\ns.length<=63 /\
 ∀(t l:Addr)(zs:List (Addr×List Int))(low gap:Int)(H':Hp),Same H H'->H' t=some (.tup [.ref l,.int low,.int gap])->H' l=some (.lst (zs.map λz=>V.ref z.1))->Lz H' zs->zs.length<=60->LG low gap->(∀z∈zs,GS low gap z.2)->Q (.ref t) H'
theorem scSet:Gp ["script", "gap", "low", "sets", "cell"] ["script"] (Gf Zgp):=⟨rfl,rfl,rfl,by decide +kernel,rfl,by decide +kernel,by decide +kernel⟩
theorem ZfY {f fA fBt:Addr}{fd fdA fdBt:FuncData}(F:Fun K "_law_sets" "_law_sets" Zgp f fd)(FA:Fun K "_law_cell_at" "_law_cell_at" Ze7 fA fdA)(bA:Binds K fdA ["script", "k"] [])(mA:mg "_law_cell_at" = some (.ref fA))(GA:G4 P w K mg base CX0 1 fA fdA ["script", "k"] (ZdY K))(FBt:Fun K "_law_bits" "_law_bits" Zgn fBt fdBt)(bBt:Binds K fdBt ["number", "many"] [])(mBt:mg "_law_bits" = some (.ref fBt))(GBt:G4 P w K mg base CX0 1 fBt fdBt ["number", "many"] ZfV):G4 P w K mg base CX0 2 f fd ["script"] (ZfX K):=by
 refine F.ok scSet (λvs H Q E h=>?_) (λcdv A outer s H vs Q E hr h=>?_)
 ·obtain ⟨_,_,rfl,_⟩:=h
  rfl
 ·obtain ⟨a,ns,rfl,hS,hns,q⟩:=h;have h16:=Ybf.symm;refine ⟨_,Gc (Gn (i:=1) scSet.nd rfl (Or.inr rfl) (Gs Jy Ge (Gs Oe (Go GA (hr.mono (by decide)) rfl mA FA.kp bA .nil Je (Gb (pv 0) (Gb Ge Gd))) Ge)))
    (Gc (Gn (i:=2) scSet.nd rfl (Or.inr rfl) (Gs Oe (Gs JU (Go GA (hr.mono (by decide)) rfl mA FA.kp bA .nil Je (Gb (pv 0) (Gb Ge Gd))) Ge) (Gs JQ Ge (Gs ZD Ge (pv 1)))))
    (Gc (Gn (i:=3) scSet.nd rfl (Or.inl rfl) (GH Gd))
    (Gc (JJ Ych rfl (J3 K (GQ (kSl K) (pv 0) (G5 Ge) (G5 Ge))) (Gi (i:=4) scSet.nd rfl (Or.inl rfl))
    (Gg (Jt (Ug Ycr Ydk Ydl GY (pv 3) (Gb (Jl (own:=["k"]) rfl (Gw (fr:=[("gap", 1),("low", 2)]) [(".0", .local),("k", .local),("gap", .cell),("low", .cell)] rfl rfl (by decide +kernel) rfl (by decide +kernel) ⟨rfl,rfl,trivial⟩ ⟨λh=>JE h,λh=>JE h,λ_=>⟨_,rfl⟩,λ_=>⟨_,rfl⟩,trivial⟩ ⟨⟨rfl,.inl rfl,.inl rfl⟩,⟨rfl,.inl rfl,.inl rfl⟩,trivial⟩) (J3 K (Go GBt (hr.mono (by decide)) rfl mBt FBt.kp bBt .nil Je (Gb (pv 4) (Gb Ge Gd)))) (λ_ _ _ _=>Gi (i:=0) (show List.Nodup (["k", "gap", "low"]:List Str) by decide +kernel) rfl (Or.inl rfl)) (λ_ _ _ _=>JR) (λ_ _ _ _=>Gs Jy (pv 2) (Gs ZD (pv 1) (pv 0)))) Gd)))))
    (Gg (Gr (Jz (Gb (pv 3) (Gb (pv 2) (Gb (pv 1) Gd))))))))),?_⟩
  refine ⟨_,rfl,a,ns,1,rfl,hS,λz1=>⟨_,_,rfl,rfl,(by show (0:Int)<2;decide),_,_,rfl,rfl,?_⟩⟩;dsimp only [GX];refine ⟨_,rfl,a,ns,1,rfl,hS,λz2=>⟨_,_,rfl,rfl,⟨by decide,OJ⟩,_,rfl,?_⟩⟩;have hz0:0<=z1 % 2:=Ydp _ (by decide);have hz1:z1 % 2<2:=Ydq _ (by decide);refine ⟨_,_,rfl,rfl,.inl ⟨by decide,by decide⟩,_,_,rfl,rfl,_,_,rfl,rfl,(by show (0:Int)<30-12 * (1+z1 % 2);lia),?_⟩;have g:LG (z2 / 2 % (30-12 * (1+z1 % 2))) (1+z1 % 2):=by
   have h1:0<=z2 / 2 % (30-12 * (1+z1 % 2)):=Ydp _ (by lia);have h2:z2 / 2 % (30-12 * (1+z1 % 2))<30-12 * (1+z1 % 2):=Ydq _ (by lia);exact ⟨h1,by lia,by lia⟩
  dsimp only [GX];change Zeo _ _ _ [some (.ref a),some (.int (1+z1 % 2)),some (.int (z2 / 2 % (30-12 * (1+z1 % 2)))),none,none] H;generalize z2 / 2 % (30-12 * (1+z1 % 2))=low at g ⊢;generalize 1+z1 % 2=gap at g ⊢;refine ⟨Yar _,λl hl=>?_⟩;have s1:Same H (upd H l (.lst [])):=Same.new hl;have el:upd H l (.lst []) l=some (.lst (([]:List (Addr×List Int)).map λz=>V.ref z.1)):=Ga;have hS1:=s1.seq hS;generalize upd H l (.lst [])=H1 at s1 el hS1 ⊢;dsimp only [GX];refine ⟨_,rfl,_,rfl,_,rfl,a,_,rfl,hS1,λcl hcl=>?_⟩;obtain ⟨cs,ecs,hcs⟩:=Xh ns;rw [ecs];have s2:Same H1 (upd H1 cl (.lst (cs.map V.int))):=Same.new hcl;have ecl:upd H1 cl (.lst (cs.map V.int)) cl=some (.lst (cs.map V.int)):=Ga;have nlc:l≠cl:=Gh el hcl;generalize upd H1 cl (.lst (cs.map V.int))=H2 at s2 ecl ⊢;refine ⟨cl,rfl,⟨_,SqL.of ecl⟩,?_⟩;refine Ji (K:=K) (a:=cl) (xs:=cs.map V.int) (λi σ H'=>∃(zs:List (Addr×List Int))(v4:Option V),σ=[some (.ref a),some (.int gap),some (.int low),some (.ref l),v4]/\Same H H'/\H' cl=some (.lst (cs.map V.int))/\H' l=some (.lst (zs.map λz=>V.ref z.1))/\Lz H' zs/\(∀z∈zs,z.1≠l)/\zs.length=i/\∀z∈zs,GS low gap z.2)
   ⟨[],none,rfl,s1.trans s2,ecl,s2 _ _ el,(λz hz=>by cases hz),(λz hz=>by cases hz),rfl,λz hz=>by cases hz⟩ (λi σ H' _ ⟨_,_,_,_,e,_⟩=>SqL.of e) ?_ ?_
  ·rintro i x σ H3 hxi ⟨zs,v4,rfl,s3,ecl3,el3,lz,nz,hzl,gs⟩;obtain ⟨c,rfl,hc⟩:=JG hxi;have hi:i<cs.length:=(Yao.mp hc).1;dsimp only [GX];refine ⟨_,rfl,.inl ⟨rfl,_,SqL.of el3⟩,_,rfl,c,13,rfl,by decide,λrl rs H4 s4 hrl erl pw lt=>⟨rl,rfl,⟨_,SqL.of erl⟩,λD hD=>?_⟩⟩;have hrs:rs.length<=13:=by
    have:=Ycj (pw.imp λz=>Yav z) (l₂:=List.range 13) λk hk=>Yca.mpr (lt k hk);simpa using this
   refine Jm (K:=K) (a:=rl) (xs:=(rs.map λk:Nat=>(k:Int)).map V.int) (λj ys H'=>Same H4 H'/\H' D=some (.lst ys)/\ys=((rs.take j).map λk:Nat=>low+gap * (k:Int)).map V.int) ⟨Same.new hD,Ga,rfl⟩ (λj ys H' _ ⟨s,_⟩=>SqL.of (s _ _ erl)) ?_ ?_
   ·rintro j y ys H5 hyj ⟨s5,eD,rfl⟩;rw [Yaz,Yaz] at hyj;cases hk:rs[j]? with
    | none=>rw [hk] at hyj;cases hyj
    | some k=>
     rw [hk] at hyj;cases hyj;have tk:rs.take (j+1)=rs.take j++[k]:=by rw [Ybz,hk];rfl
     refine ⟨by simp [Ob,JT],?_⟩;unfold ZbC;refine OQ ?_;refine ⟨_,rfl,_,rfl,_,rfl,_,_,rfl,rfl,.inl (by rcases g.g1 with e | e <;> rw [e] <;> decide),_,_,rfl,rfl,eD,(by rw [Yac,Yac,Ybm];lia),s5.put hD,Ga,?_⟩;rw [tk,Yap,Yap]
     rfl
   ·rintro ys H5 ⟨s5,eD,rfl⟩;rw [Yac,Yac,Ybp] at eD;have S5:=s4.trans s5;refine ⟨l,_,_,rfl,rfl,S5 _ _ el3,by rw [Yac];lia,?_⟩;have nDl:D≠l:=λz=>by rw [z,s4 _ _ el3] at hD;cases hD
    have k6:∀b o,b≠l->H5 b=some o->upd H5 l (.lst ((zs.map λz=>V.ref z.1)++[.ref D])) b=some o:=λb o n e=>Gj e n;refine ⟨zs++[(D,rs.map λk:Nat=>low+gap * (k:Int))],_,rfl,(s3.trans S5).put hl,k6 _ _ (Ne.symm nlc) (S5 _ _ ecl3),by rw [Ga,Yap];rfl,λz hz=>?_,λz hz=>?_,by rw [Yai,Yat,hzl],λz hz=>?_⟩
    ·rcases Yag.mp hz with h | h
     ·exact k6 _ _ (nz z h) (S5 _ _ (lz z h))
     ·rw [Yah.mp h];exact k6 _ _ nDl eD
    ·rcases Yag.mp hz with h | h
     ·exact nz z h
     ·rw [Yah.mp h];exact nDl
    ·rcases Yag.mp hz with h | h
     ·exact gs z h
     ·rw [Yah.mp h];refine ⟨?_,λx hx=>?_⟩
      ·rw [Ybq];refine pw.imp λ{a b} hab=>?_;rcases g.g1 with e | e <;> rw [e] <;> lia
      ·obtain ⟨k,hk,rfl⟩:=Yaj.mp hx;exact ⟨k,lt k hk,rfl⟩
  ·rintro σ H3 ⟨zs,v4,rfl,s3,ecl3,el3,lz,nz,hzl,gs⟩;rw [Yac] at hzl;refine ⟨_,rfl,_,rfl,_,rfl,(by show 3<=sizeLine;decide),λt ht=>?_⟩;have s4:Same H3 (upd H3 t (.tup [.ref l,.int low,.int gap])):=Same.new ht;exact q t l zs low gap _ (s3.trans s4) Ga (s4 _ _ el3) (lz.same s4) (by lia) g gs
noncomputable abbrev RF (zs:List (Addr×List Int)):List V:=zs.map λz=>V.ref z.1
structure LLs (low gap:Int)(H:Hp)(l:Addr)(zs:List (Addr×List Int))(n:Nat):Prop where
 e:H l=some (.lst (RF zs))
 lz:Lz H zs
 gs:∀z∈zs,GS low gap z.2
 len:zs.length<=n
theorem LLs.same {low gap:Int}{H H':Hp}{l:Addr}{zs:List (Addr×List Int)}{n:Nat}(h:LLs low gap H l zs n)(s:Same H H'):LLs low gap H' l zs n:=⟨s _ _ h.e,h.lz.same s,h.gs,h.len⟩
theorem Zcs (p:Int):∀ms:List Int,inV (.int p) (ms.map V.int)=decide (p∈ms):=by
 intro ms;unfold inV
 induction ms with
 | nil=>rfl
 | cons m ms ih=>
  rw [Yaq,List.any_cons,ih];by_cases h1:p=m <;> by_cases h2:p∈ms <;> simp [eqV,h1,h2] <;> (try lia) <;> (try (intro z;exact h1 z.symm))
theorem Zbm (ms:List Int):(ms.map V.int).all VQ=true:=by
 rw [List.all_map];exact List.all_eq_true.mpr λ_ _=>rfl
noncomputable def ZfZ:Sp:=λvs H Q _=>∃(l:Addr)(way num low gap:Int)(zs:List (Addr×List Int)),vs=[.ref l,.int way,.int num,.int low,.int gap]/\LLs low gap H l zs 60/\LG low gap /\
 ∀(l':Addr)(zs':List (Addr×List Int))(H':Hp),Same H H'->LLs low gap H' l' zs' 61->Q (.ref l') H'
theorem scChg:Gp ["sets", "way", "number", "low", "gap", "others", "road", "at"] ["sets", "way", "number", "low", "gap"] (Gf Zgq):=⟨rfl,rfl,rfl,by decide +kernel,rfl,by decide +kernel,by decide +kernel⟩
theorem Zf0 {f:Addr}{fd:FuncData}(F:Fun K "_law_changed" "_law_changed" Zgq f fd)(mLen:mg "len" = none)(mMax:mg "max" = none)(mSor:mg "sorted" = none):G4 P w K mg base CX0 1 f fd ["sets", "way", "number", "low", "gap"] ZfZ:=by
 refine F.ok scChg (λvs H Q E h=>?_) (λcdv A outer s H vs Q E hr h=>?_)
 ·obtain ⟨_,_,_,_,_,_,rfl,_⟩:=h
  rfl
 ·obtain ⟨l,way,num,low,gap,zs0,rfl,L0,g,q⟩:=h;have h16:=Ybf.symm;have hu:=hr.units;refine ⟨_,Gc (Gn (i:=5) scChg.nd rfl (Or.inl rfl) (Z9 K (pv 0) Jk (Zet Z2 Ge)))
    (Gc (Gn (i:=6) scChg.nd rfl (Or.inr rfl) (Gs Jy (pv 3) (Gs ZD (pv 4) (Gs Oe (pv 2) Ge))))
    (Gc (Gn (i:=7) scChg.nd rfl (Or.inl rfl) (Gs Oe (Gs JU (pv 2) Ge) (Gk (WA rfl) rfl mMax Yx (Gb Ge (Gb (Gk (Xj K) rfl mLen Ycg (Gb (pv 5) Gd)) Gd)))))
    (Gc (Jf (PW.pt (US (Gv (Zdp K hu) (pv 5) (GH Gd) (Gz _)) (Ut (Gv Xn (pv 1) Ge (Gz _))))) (Gg (Gr (Gs Of (pv 5) (GH (Gb (GH (Gb (pv 6) Gd)) Gd))))) Gu)
    (Gc (Jf (Gv Xn (pv 1) Ge (Gz _)) (Gg (Gr (Gs Of (GQ (kSl K) (pv 5) Jk (G5 (pv 7))) (GQ (kSl K) (pv 5) (G5 (Gs Jy (pv 7) Ge)) Jk)))) Gu)
    (Gc (Jf (PW.pt (Zcy (Gv Xn (pv 1) Ge (Gz _)) (Zz (Gv (kIn K) (pv 6) (GV (Vg K) (pv 5) (pv 7) (λ_ _=>rfl)) (by with_unfolding_all rfl))))) (Gg (Gr (Gs Of (Gs Of (GQ (kSl K) (pv 5) Jk (G5 (pv 7))) (GH (Gb (Jl (own:=["one"]) rfl (Gw (fr:=[("road", 6)]) [(".0", .local),("one", .local),("road", .cell)] rfl rfl (by decide +kernel) rfl (by decide +kernel) ⟨rfl,trivial⟩ ⟨λh=>JE h,λh=>JE h,λ_=>⟨_,rfl⟩,trivial⟩ ⟨⟨rfl,.inl rfl,.inl rfl⟩,trivial⟩) (J3 K (GV (Vg K) (pv 5) (pv 7) (λ_ _=>rfl))) (λ_ _ _ _=>Gi (i:=0) (show List.Nodup (["one", "road"]:List Str) by decide +kernel) rfl (Or.inl rfl)) (λ_ _ _ _=>JS (Gv Zc8 (pv 0) (pv 1) (Gz _))) (λ_ _ _ _=>pv 0)) Gd))) (GQ (kSl K) (pv 5) (G5 (Gs Jy (pv 7) Ge)) Jk)))) Gu)
    (Gc (Jf (Gv Xn (pv 1) Ge (Gz _)) (Gg (Gr (Gs Of (Gs Of (GQ (kSl K) (pv 5) Jk (G5 (pv 7))) (GH (Gb (Gk (ZeU K) rfl mSor Yfh (Gb (Gs Of (GV (Vg K) (pv 5) (pv 7) (λ_ _=>rfl)) (GH (Gb (pv 6) Gd))) Gd)) Gd))) (GQ (kSl K) (pv 5) (G5 (Gs Jy (pv 7) Ge)) Jk)))) Gu)
    (Gg (Gr (Gs Of (pv 5) (GH (Gb (GV (Vg K) (pv 5) (pv 7) (λ_ _=>rfl)) Gd))))))))))),?_⟩
  refine ⟨_,rfl,l,_,rfl,SqL.of L0.e,.inl rfl,λo ho=>?_⟩;have s1:Same H (upd H o (.lst (Zgd none (RF zs0)))):=Same.new ho;have L1:LLs low gap (upd H o (.lst (Zgd none (RF zs0)))) o zs0.reverse 60:=by
   refine ⟨by rw [Ga,RF,RF,List.map_reverse];rfl,λz hz=>s1 _ _ (L0.lz z (List.mem_reverse.mp hz)),λz hz=>L0.gs z (List.mem_reverse.mp hz),by rw [List.length_reverse];exact L0.len⟩
  generalize upd H o (.lst (Zgd none (RF zs0)))=H1 at s1 L1 ⊢;generalize zs0.reverse=zs at L1;have hzl:=L1.len;have hr0:0<=num % 13:=Ydp _ (by decide);have hr1:num % 13<13:=Ydq _ (by decide);dsimp only [GX];refine ⟨_,rfl,_,rfl,_,rfl,_,_,rfl,rfl,(by show (0:Int)<13;decide),_,_,rfl,rfl,.inl (by rcases g.g1 with e | e <;> rw [e] <;> decide),_,_,rfl,rfl,?_⟩;have hroad:∃k:Nat,k<13/\low+gap * (num % 13)=low+gap * (k:Int):=⟨(num % 13).toNat,by lia,by rw [Int.toNat_of_nonneg hr0]⟩;dsimp only [GX];change Zeo _ _ _ [some (.ref l),some (.int way),some (.int num),some (.int low),some (.int gap),some (.ref o),some (.int (low+gap * (num % 13))),none] H1;generalize low+gap * (num % 13)=road at hroad ⊢;refine Gy (λσ' H'=>∃n:Nat,σ'=[some (.ref l),some (.int way),some (.int num),some (.int low),some (.int gap),some (.ref o),some (.int road),some (.int (n:Int))]/\H'=H1/\(zs≠[]->n<zs.length)) ?s1 ?f1
  case f1=>
   intro hk;refine ⟨_,rfl,_,_,rfl,rfl,⟨by decide,OJ⟩,_,rfl,o,_,rfl,.inl (SqL.of L1.e),_,_,rfl,_,_,rfl,rfl,?_,?_⟩
   ·show (0:Int)<if ((RF zs).length:Int) > 1 then ((RF zs).length:Int) else 1
    split <;> lia
   ·have hM:(0:Int)<if ((RF zs).length:Int) > 1 then ((RF zs).length:Int) else 1:=by split <;> lia
    have hN:zs≠[]->(if ((RF zs).length:Int) > 1 then ((RF zs).length:Int) else 1)=(zs.length:Int):=λh=>by
     have:=List.length_pos_iff.mpr h;unfold RF;rw [Yac];split <;> lia
    generalize (if ((RF zs).length:Int) > 1 then ((RF zs).length:Int) else 1)=M at hM hN ⊢;have m0:0<=num / 13 % M:=Ydp _ (by lia);have m1:num / 13 % M<M:=Ydq _ hM;refine hk _ _ ⟨(num / 13 % M).toNat,?_,rfl,λh=>by have:=hN h;lia⟩;rw [Int.toNat_of_nonneg m0]
    rfl
  rintro σ' H' ⟨n,rfl,rfl,hn⟩;have ret1:∀H2:Hp,Same H' H2->tOp Zga (Zbu 5) (Zf8 (ZM (Zf8 (ZM (Zbu 6) Zev)) Zev)) [some (V.ref l),some (V.int way),some (V.int num),some (V.int low),some (V.int gap),some (V.ref o),some (V.int road),some (V.int (n:Int))] H2 Q:=λH2 s2=>by
   have L2:=L1.same s2;refine ⟨_,rfl,_,rfl,(by show 1<=sizeLine;decide),λe he=>⟨(by show 1<=sizeLine;decide),λe2 he2=>?_⟩⟩;have s3:Same H2 (upd H2 e (.lst [.int road])):=Same.new he;have ee:upd H2 e (.lst [.int road]) e=some (.lst ([road].map V.int)):=Ga;generalize upd H2 e (.lst [.int road])=H3 at s3 ee he2 ⊢;have s4:Same H3 (upd H3 e2 (.lst [.ref e])):=Same.new he2;have ee2:upd H3 e2 (.lst [.ref e]) e2=some (.lst [.ref e]):=Ga;generalize upd H3 e2 (.lst [.ref e])=H4 at s4 ee2 ⊢;refine ⟨o,e2,_,_,rfl,rfl,s4 _ _ (s3 _ _ L2.e),ee2,by rw [RF,Yac];show _+1<=_;lia,λp hp=>?_⟩;have s5:Same H4 (upd H4 p (.lst (RF zs++[.ref e]))):=Same.new hp;have S5:=(s3.trans s4).trans s5;refine q p (zs++[(e,[road])]) _ ((s1.trans s2).trans S5) ⟨by rw [Ga,RF,RF,Yap];rfl,λz hz=>?_,λz hz=>?_,by rw [Yai,Yat];lia⟩
   ·rcases Yag.mp hz with h | h
    ·exact S5 _ _ (L2.lz z h)
    ·rw [Yah.mp h];exact s5 _ _ (s4 _ _ ee)
   ·rcases Yag.mp hz with h | h
    ·exact L2.gs z h
    ·rw [Yah.mp h];refine ⟨by simp,λx hx=>?_⟩;rw [Yah.mp hx];exact hroad
  refine Gy (λσ' H2=>σ'=[some (V.ref l),some (V.int way),some (V.int num),some (V.int low),some (V.int gap),some (V.ref o),some (V.int road),some (V.int (n:Int))]/\Same H' H2/\zs≠[]) ?s2 ?f2
  case f2=>
   intro hk;refine ⟨_,rfl,Yar _,λe he=>?_⟩;have s7:Same H' (upd H' e (.lst [])):=Same.new he;refine ⟨.list (UQ (zs.map (·.2))),.list (UQ []),.lst (SqL.of (s7 _ _ L1.e)) (OK (L1.lz.same s7)),.lst (SqL.of Ga) .nil,JC _,JC _,_,rfl,?_⟩;rw [Zcr];refine Vf (λc1=>OQ (ret1 _ s7)) (λc1=>?_);have hne:zs≠[]:=λh=>c1 (by rw [h];rfl);refine ⟨_,rfl,rfl,_,rfl,Vf (λ_=>?_) (λ_=>?_)⟩
   ·exact ret1 _ s7
   ·exact hk _ _ ⟨rfl,s7,hne⟩
  clear ret1;rintro σ' H2 ⟨rfl,s2,hne⟩;have L2:=L1.same s2;have hn:=hn hne;obtain ⟨z,hz⟩:∃z,zs[n]?=some z:=⟨_,Yau hn⟩;have hzm:=Yax hz;have hat:atI (RF zs) (n:Int)=some (.ref z.1):=GB (by rw [RF,Yaz,hz];rfl);have three:∀tX:TE,(∀(H3:Hp)(Qx:VK),Same H2 H3->(∀(y:Addr)(u:List Int)(H4:Hp),Same H3 H4->H4 y=some (.lst (u.map V.int))->GS low gap u->Qx (.ref y) H4)->tX [some (V.ref l),some (V.int way),some (V.int num),some (V.int low),some (V.int gap),some (V.ref o),some (V.int road),some (V.int (n:Int))] H3 Qx) ->
    tOp Zga (tOp Zga (tSl (Zf9 K) (Zbu 5) Ue (Zdh (Zbu 7))) (Zf8 (ZM tX Zev))) (tSl (Zf9 K) (Zbu 5) (Zdh (tOp (rI0 λi j=>V.int (i+j)) (Zbu 7) (tC (V.int 1)))) Ue) [some (V.ref l),some (V.int way),some (V.int num),some (V.int low),some (V.int gap),some (V.ref o),some (V.int road),some (V.int (n:Int))] H2 Q:=λtX hX=>by
   refine ⟨_,rfl,_,rfl,_,rfl,o,_,rfl,SqL.of L2.e,λc1 hc1=>?_⟩;rw [ZcE];have s3:Same H2 (upd H2 c1 (.lst ((RF zs).take n))):=Same.new hc1;have ec1:upd H2 c1 (.lst ((RF zs).take n)) c1=some (.lst ((RF zs).take n)):=Ga;generalize upd H2 c1 (.lst ((RF zs).take n))=H3 at s3 ec1 ⊢;refine hX _ _ s3 λy u H4 s4 ey gu=>⟨(by show 1<=sizeLine;decide),λc2 hc2=>?_⟩;have s5:Same H4 (upd H4 c2 (.lst [.ref y])):=Same.new hc2;have ec2:upd H4 c2 (.lst [.ref y]) c2=some (.lst [.ref y]):=Ga;generalize upd H4 c2 (.lst [.ref y])=H5 at s5 ec2 ⊢;have hRl:(RF zs).length=zs.length:=Yac _;refine ⟨c1,c2,_,_,rfl,rfl,s5 _ _ (s4 _ _ ec1),ec2,by rw [Ybm];show _+1<=_;lia,λc3 hc3=>?_⟩;have s6:Same H5 (upd H5 c3 (.lst ((RF zs).take n++[.ref y]))):=Same.new hc3;have ec3:upd H5 c3 (.lst ((RF zs).take n++[.ref y])) c3=some (.lst ((RF zs).take n++[.ref y])):=Ga;generalize upd H5 c3 (.lst ((RF zs).take n++[.ref y]))=H6 at s6 ec3 ⊢;have S36:=(s4.trans s5).trans s6;have S6:=s3.trans S36;refine ⟨_,rfl,_,rfl,_,_,rfl,rfl,_,rfl,?_⟩;dsimp only [Ue];refine ⟨o,_,rfl,SqL.of (S6 _ _ L2.e),λc4 hc4=>?_⟩;rw [show (n:Int)+1=((n+1:Nat):Int) from rfl,X4];have s7:Same H6 (upd H6 c4 (.lst ((RF zs).drop (n+1)))):=Same.new hc4;have ec4:upd H6 c4 (.lst ((RF zs).drop (n+1))) c4=some (.lst ((RF zs).drop (n+1))):=Ga;generalize upd H6 c4 (.lst ((RF zs).drop (n+1)))=H7 at s7 ec4 ⊢;refine ⟨c3,c4,_,_,rfl,rfl,s7 _ _ ec3,ec4,by rw [Yai,Ybm,Ycl,Yat];lia,λp hp=>?_⟩;have s8:Same H7 (upd H7 p (.lst ((RF zs).take n++[.ref y]++(RF zs).drop (n+1)))):=Same.new hp;have S8:=(S6.trans s7).trans s8;have S48:=((s5.trans s6).trans s7).trans s8;refine q p (zs.take n++[(y,u)]++zs.drop (n+1)) _ ((s1.trans s2).trans S8) ⟨by rw [Ga];simp [RF,List.map_take,List.map_drop],λz hz=>?_,λz hz=>?_,by rw [Yai,Yai,Ybm,Ycl,Yat];lia⟩
   ·rcases Yag.mp hz with h | h
    ·rcases Yag.mp h with h | h
     ·exact S8 _ _ (L2.lz z (Yfa h))
     ·rw [Yah.mp h];exact S48 _ _ ey
    ·exact S8 _ _ (L2.lz z (Ygd h))
   ·rcases Yag.mp hz with h | h
    ·rcases Yag.mp h with h | h
     ·exact L2.gs z (Yfa h)
     ·rw [Yah.mp h];exact gu
    ·exact L2.gs z (Ygd h)
  refine ⟨_,rfl,rfl,_,rfl,Vf (λ_=>?_) (λ_=>?_)⟩
  ·-- one set less
   refine ⟨_,rfl,_,rfl,_,rfl,o,_,rfl,SqL.of L2.e,λc1 hc1=>?_⟩;rw [ZcE];have s3:Same H2 (upd H2 c1 (.lst ((RF zs).take n))):=Same.new hc1;have ec1:upd H2 c1 (.lst ((RF zs).take n)) c1=some (.lst ((RF zs).take n)):=Ga;generalize upd H2 c1 (.lst ((RF zs).take n))=H3 at s3 ec1 ⊢;have hRl:(RF zs).length=zs.length:=Yac _;refine ⟨_,rfl,_,rfl,_,_,rfl,rfl,_,rfl,?_⟩;dsimp only [Ue];refine ⟨o,_,rfl,SqL.of (s3 _ _ L2.e),λc4 hc4=>?_⟩;rw [show (n:Int)+1=((n+1:Nat):Int) from rfl,X4];have s7:Same H3 (upd H3 c4 (.lst ((RF zs).drop (n+1)))):=Same.new hc4;have ec4:upd H3 c4 (.lst ((RF zs).drop (n+1))) c4=some (.lst ((RF zs).drop (n+1))):=Ga;generalize upd H3 c4 (.lst ((RF zs).drop (n+1)))=H7 at s7 ec4 ⊢;refine ⟨c1,c4,_,_,rfl,rfl,s7 _ _ ec1,ec4,by rw [Ybm,Ycl];lia,λp hp=>?_⟩;have s8:Same H7 (upd H7 p (.lst ((RF zs).take n++(RF zs).drop (n+1)))):=Same.new hp;have S8:=(s3.trans s7).trans s8;have hsub:∀z∈zs.take n++zs.drop (n+1),z∈zs:=λz hz=>(Yag.mp hz).elim Yfa Ygd;exact q p (zs.take n++zs.drop (n+1)) _ ((s1.trans s2).trans S8) ⟨by rw [Ga];simp [RF,List.map_take,List.map_drop],λz hz=>S8 _ _ (L2.lz z (hsub z hz)),λz hz=>L2.gs z (hsub z hz),by rw [Yai,Ybm,Ycl];lia⟩
  dsimp only [UC];refine Gy (λσ' H3=>σ'=[some (V.ref l),some (V.int way),some (V.int num),some (V.int low),some (V.int gap),some (V.ref o),some (V.int road),some (V.int (n:Int))]/\H3=H2/\(way=3->road ∉ z.2)) ?s3 ?f3
  case f3=>
   intro hk;refine ⟨_,rfl,rfl,_,rfl,Vf (λc1=>?_) (λc1=>?_)⟩;rotate_left
   ·refine Os ?_;exact hk _ _ ⟨rfl,rfl,λh=>absurd (Ybi (Ybc V.int h)) c1⟩
   refine ⟨_,rfl,_,rfl,_,rfl,o,_,_,_,rfl,rfl,SqL.of L2.e,hat,z.1,_,rfl,.inl (SqL.of (L2.lz z hzm)),rfl,Zbm _,_,rfl,?_⟩;rw [if_neg Yam,Zcs];by_cases hin:road∈z.2
   ·rw [Ybi hin];refine OQ (three _ λH3 Qx s3 hq=>?_);refine ⟨_,rfl,_,rfl,o,_,_,_,rfl,rfl,SqL.of (s3 _ _ L2.e),hat,z.1,rfl,⟨_,SqL.of (s3 _ _ (L2.lz z hzm))⟩,λD hD=>?_⟩;have hzlen:=(L2.gs z hzm).len;refine Jm (K:=K) (a:=z.1) (xs:=z.2.map V.int) (λj ys H'=>Same H3 H'/\H' D=some (.lst ys)/\ys=((z.2.take j).filter λx=>decide (x≠road)).map V.int) ⟨Same.new hD,Ga,rfl⟩ (λj ys H' _ ⟨s,_⟩=>SqL.of (s _ _ (s3 _ _ (L2.lz z hzm)))) ?_ ?_
    ·rintro j y ys H5 hyj ⟨s5,eD,rfl⟩;obtain ⟨x,rfl,hx⟩:=JG hyj;have tk:z.2.take (j+1)=z.2.take j++[x]:=by rw [Ybz,hx];rfl
     have hfl:((z.2.take j).filter λx=>decide (x≠road)).length<=13:=Ybo (Yes _ _) (by rw [Ybm];lia);refine ⟨by simp [Ob,JT],?_⟩;refine ⟨_,rfl,_,rfl,rfl,_,rfl,?_⟩;by_cases hx2:x=road
     ·refine Vf (λc=>absurd c (by simp [hx2])) (λ_=>⟨s5,eD,?_⟩);rw [tk,Ydt,Yfi (by simp [hx2]),Yfy,Ydw]
     ·refine Vf (λ_=>?_) (λc=>absurd (by simp [hx2]) c);refine ⟨_,rfl,eD,by rw [Yac];lia,s5.put hD,Ga,?_⟩;rw [tk,Ydt,Yet (by simp [hx2]),Yfy,Yap]
      rfl
    ·rintro ys H5 ⟨s5,eD,rfl⟩;rw [Yac,Ybp] at eD;exact hq D _ H5 s5 eD ⟨(L2.gs z hzm).up.sublist Yge,λx hx=>(L2.gs z hzm).el x (Ybt.mp hx).1⟩
   ·rw [Ybx hin];refine Os ?_;exact hk _ _ ⟨rfl,rfl,λ_=>hin⟩
  rintro σ' H3 ⟨rfl,rfl,hnin⟩;refine ⟨_,rfl,rfl,_,rfl,Vf (λc1=>?_) (λc1=>?_)⟩
  ·have hnin:=hnin (V.int.inj (Ybw c1));refine three _ λH4 Qx s4 hq=>?_;refine ⟨_,rfl,_,rfl,o,_,_,_,rfl,rfl,SqL.of (s4 _ _ L2.e),hat,_,rfl,(by show 1<=sizeLine;decide),λe he=>?_⟩;have s5:Same H4 (upd H4 e (.lst [.int road])):=Same.new he;have hzlen:=(L2.gs z hzm).len;refine ⟨z.1,e,_,_,rfl,rfl,s5 _ _ (s4 _ _ (L2.lz z hzm)),Ga,by rw [Yac];show _+1<=_;lia,λc hc=>?_⟩;have s6:Same (upd H4 e (.lst [.int road])) (upd (upd H4 e (.lst [.int road])) c (.lst (z.2.map V.int++[.int road]))):=Same.new hc;have ec:upd (upd H4 e (.lst [.int road])) c (.lst (z.2.map V.int++[.int road])) c=some (.lst ((z.2++[road]).map V.int)):=by rw [Ga,Yap];rfl
   refine ⟨c,z.2++[road],rfl,SqL.of ec,λsl ns' hsl pm so=>?_⟩;have s7:Same (upd (upd H4 e (.lst [.int road])) c (.lst (z.2.map V.int++[.int road]))) (upd (upd (upd H4 e (.lst [.int road])) c (.lst (z.2.map V.int++[.int road]))) sl (.lst (ns'.map V.int))):=Same.new hsl;refine hq sl ns' _ ((s5.trans s6).trans s7) Ga ⟨?_,λx hx=>?_⟩
   ·have nd:(z.2++[road]).Nodup:=Ycf.mpr ⟨(L2.gs z hzm).up.imp λh=>Int.ne_of_lt h,by simp,λa ha b hb=>by
     rw [Yah.mp hb];exact λh=>hnin (h▸ha)⟩
    have nd':=pm.nodup_iff.mpr nd;exact (List.Pairwise.and nd' so).imp λ{a b} ⟨h1,h2⟩=>by lia
   ·rcases Yag.mp (pm.mem_iff.mp hx) with h | h
    ·exact (L2.gs z hzm).el x h
    ·rw [Yah.mp h];exact hroad
  ·dsimp only [UC];refine ⟨_,rfl,_,rfl,_,rfl,o,_,_,_,rfl,rfl,SqL.of L2.e,hat,(by show 1<=sizeLine;decide),λe he=>?_⟩;have s5:Same H3 (upd H3 e (.lst [.ref z.1])):=Same.new he;refine ⟨o,e,_,_,rfl,rfl,s5 _ _ L2.e,Ga,by rw [RF,Yac];show _+1<=_;lia,λp hp=>?_⟩;have s6:Same (upd H3 e (.lst [.ref z.1])) (upd (upd H3 e (.lst [.ref z.1])) p (.lst (RF zs++[.ref z.1]))):=Same.new hp;have S6:=s5.trans s6;have hsub:∀y∈zs++[z],y∈zs:=λy hy=>(Yag.mp hy).elim id λh=>by rw [Yah.mp h];exact hzm
   exact q p (zs++[z]) _ ((s1.trans s2).trans S6) ⟨by rw [Ga,RF,RF,Yap];rfl,λy hy=>S6 _ _ (L2.lz y (hsub y hy)),λy hy=>L2.gs y (hsub y hy),by rw [Yai,Yat];lia⟩
noncomputable def Zf1:Sp:=λvs H Q _=>∃(tp l:Addr)(root:Int)(xs:List V)(ts:List Tri),vs=[.ref tp]/\TabAt H tp l root xs ts/\∀H':Hp,Same H H'->Q (.bl true) H'
theorem scIst:Gp ["found", "node"] ["found"] (Gf Zgo):=⟨rfl,rfl,rfl,by decide +kernel,rfl,by decide +kernel,by decide +kernel⟩
theorem Zf2 {f fWh:Addr}{fd fdWh:FuncData}(F:Fun K "_law_is_table" "_law_is_table" Zgo f fd)(FWh:Fun K "_law_whole" "_law_whole" Ze9 fWh fdWh)(bWh:Binds K fdWh ["found"] [])(mWh:mg "_law_whole" = some (.ref fWh))(GWh:G4 P w K mg base CX0 1 fWh fdWh ["found"] Zd8)(mIsi:mg "isinstance" = none)(mTup:mg "tuple" = none)(mLst:mg "list" = none)(mLen:mg "len" = none):G4 P w K mg base CX0 2 f fd ["found"] Zf1:=by
 refine F.ok scIst (λvs H Q E h=>?_) (λcdv A outer s H vs Q E hr h=>?_)
 ·obtain ⟨_,_,_,_,_,rfl,_⟩:=h
  rfl
 ·obtain ⟨tp,l,root,xs,ts,rfl,W,q⟩:=h;have hu:=hr.units;refine ⟨_,Gc (Jf (PW.pt (US (JZ (JI (Gk (Zbp K) rfl mIsi Jv (Gb (pv 0) (Gb (OA mTup Jh) Gd))))) (US (Gv Zc8 (Gk (Xj K) rfl mLen Ycg (Gb (pv 0) Gd)) Ge (Gz _)) (US (JZ (JI (Go GWh (hr.mono (by decide)) rfl mWh FWh.kp bWh .nil Je (Gb (GV (WL K) (pv 0) Ge (λ_ _=>rfl)) Gd)))) (Ut (JZ (JI (Gk (Zbp K) rfl mIsi Jv (Gb (GV (WL K) (pv 0) Ge (λ_ _=>rfl)) (Gb (OA mLst JK) Gd)))))))))) (Gg (Gr ON)) Gu)
    (Gc (JJ Ych rfl (J3 K (GV (WL K) (pv 0) Ge (λ_ _=>rfl))) (Gi (i:=1) scIst.nd rfl (Or.inl rfl))
    (Gg (Jf (PW.pt (US (JZ (JI (Gk (Zbp K) rfl mIsi Jv (Gb (pv 1) (Gb (OA mTup Jh) Gd))))) (US (Gv Zc8 (Gk (Xj K) rfl mLen Ycg (Gb (pv 1) Gd)) Ge (Gz _)) (Ut (Gv (Zec K hu) (Jl (own:=["one"]) rfl (GM (by decide +kernel) (by decide +kernel) rfl (by decide +kernel)) (Zan K (pv 1)) (λ_ _ _ _=>Gi (i:=0) (show List.Nodup (["one"]:List Str) by decide +kernel) rfl (Or.inl rfl)) (λ_ _ _ _=>JS (JZ (JI (Go GWh (hr.mono (by decide)) rfl mWh FWh.kp bWh .nil Je (Gb (pv 0) Gd))))) (λ_ _ _ _=>pv 0)) (GH Gd) (Gz _)))))) (Gg (Gr ON)) Gu)))
    (Gg (Gr ON))),?_⟩
  refine ⟨_,rfl,_,_,true,rfl,⟨_,rfl,Os ?_⟩,.inl ⟨_,.tup W.w,rfl,JD⟩⟩;refine ⟨_,rfl,tp,_,rfl,.inr (SqT.of W.w),rfl,_,rfl,Os ?_⟩;refine ⟨_,rfl,tp,_,_,_,rfl,rfl,SqT.of W.w,GB (j:=0) rfl,root,rfl,_,rfl,Os ?_⟩;refine ⟨_,rfl,tp,_,_,_,rfl,rfl,SqT.of W.w,GB (j:=1) rfl,_,_,true,rfl,⟨_,rfl,Os ?_⟩,.inl ⟨_,.lst W.l,rfl,JD⟩⟩;dsimp only [UC];refine ⟨_,rfl,tp,_,_,_,rfl,rfl,SqT.of W.w,GB (j:=1) rfl,l,rfl,⟨_,SqL.of W.l⟩,?_⟩;refine Ji (K:=K) (a:=l) (xs:=xs) (λi σ H'=>∃v1:Option V,σ=[some (.ref tp),v1]/\Same H H') ⟨none,rfl,Same.refl _⟩ (λi σ H' _ ⟨_,_,s⟩=>SqL.of (s _ _ W.l)) ?_ ?_
  ·rintro i x σ H2 hxi ⟨v1,rfl,s2⟩;obtain ⟨t,r,rfl,et,er⟩:=(W.t.same s2).get hxi;dsimp only [GX];refine ⟨_,rfl,_,_,true,rfl,⟨_,rfl,Os ?_⟩,.inl ⟨_,.tup et,rfl,JD⟩⟩;refine ⟨_,rfl,t,_,rfl,.inr (SqT.of et),rfl,_,rfl,Os ?_⟩;refine ⟨_,rfl,t,rfl,⟨_,SqT.of et⟩,λD hD=>?_⟩;refine UI (K:=K) (a:=t) (xs:=[.int r.1,.int r.2.1,.int r.2.2]) (λj ys H'=>Same H2 H'/\H' D=some (.lst ys)/\ys=[]) ⟨Same.new hD,Ga,rfl⟩ (λj ys H' _ ⟨s,_⟩=>SqT.of (s _ _ et)) ?_ ?_
   ·rintro j y ys H5 hyj ⟨s5,eD,rfl⟩;have hy:∃n:Int,y=.int n:=by
     match j,hyj with
     | 0,h=>exact ⟨_,(Ybl h).symm⟩
     | 1,h=>exact ⟨_,(Ybl h).symm⟩
     | 2,h=>exact ⟨_,(Ybl h).symm⟩
     | j+3,h=>simp at h
    obtain ⟨n,rfl⟩:=hy;refine ⟨trivial,?_⟩;exact ⟨_,rfl,n,rfl,_,rfl,Os ⟨s5,eD,rfl⟩⟩
   ·rintro ys H5 ⟨s5,eD,rfl⟩;refine ⟨Yar _,λe he=>?_⟩;have s6:Same H5 (upd H5 e (.lst [])):=Same.new he;refine ⟨.list [],.list [],.lst (SqL.of (s6 _ _ eD)) .nil,.lst (SqL.of Ga) .nil,by decide +kernel,by decide +kernel,_,rfl,?_⟩;refine Vf (λc=>absurd c (by decide +kernel)) (λ_=>?_);exact ⟨_,rfl,(s2.trans s5).trans s6⟩
  ·rintro σ H2 ⟨v1,rfl,s2⟩;exact q H2 s2
noncomputable def Zf3:Sp:=λvs H Q _=>∃(a b:Addr)(zs ws:List (Addr×List Int)),vs=[.ref a,.ref b]/\H a=some (.lst (RF zs))/\Lz H zs/\H b=some (.lst (RF ws))/\Lz H ws/\zs.map (·.2)=ws.map (·.2)/\∀H':Hp,Same H H'->Q (.bl true) H'
theorem scAre:Gp ["found", "due", "one"] ["found", "due"] (Gf Zgs):=⟨rfl,rfl,rfl,by decide +kernel,rfl,by decide +kernel,by decide +kernel⟩
theorem Zf4 {f fWh:Addr}{fd fdWh:FuncData}(F:Fun K "_law_are_sets" "_law_are_sets" Zgs f fd)(FWh:Fun K "_law_whole" "_law_whole" Ze9 fWh fdWh)(bWh:Binds K fdWh ["found"] [])(mWh:mg "_law_whole" = some (.ref fWh))(GWh:G4 P w K mg base CX0 1 fWh fdWh ["found"] Zd8)(mIsi:mg "isinstance" = none)(mLst:mg "list" = none):G4 P w K mg base CX0 2 f fd ["found", "due"] Zf3:=by
 refine F.ok scAre (λvs H Q E h=>?_) (λcdv A outer s H vs Q E hr h=>?_)
 ·obtain ⟨_,_,_,_,rfl,_⟩:=h
  rfl
 ·obtain ⟨a,b,zs,ws,rfl,ea,lz,eb,lw,heq,q⟩:=h;have hu:=hr.units;refine ⟨_,Gc (Jf (PW.pt (US (JZ (JI (Gk (Zbp K) rfl mIsi Jv (Gb (pv 0) (Gb (OA mLst JK) Gd))))) (Ut (Gv (Zec K hu) (pv 0) (pv 1) (Gz _))))) (Gg (Gr ON)) Gu)
    (Gc (JJ Ych rfl (J3 K (pv 0)) (Gi (i:=2) scAre.nd rfl (Or.inl rfl))
    (Gg (Jf (PW.pt (US (JZ (JI (Gk (Zbp K) rfl mIsi Jv (Gb (pv 2) (Gb (OA mLst JK) Gd))))) (Ut (Gv (Zec K hu) (Jl (own:=["road"]) rfl (GM (by decide +kernel) (by decide +kernel) rfl (by decide +kernel)) (J3 K (pv 2)) (λ_ _ _ _=>Gi (i:=0) (show List.Nodup (["road"]:List Str) by decide +kernel) rfl (Or.inl rfl)) (λ_ _ _ _=>JS (JZ (JI (Go GWh (hr.mono (by decide)) rfl mWh FWh.kp bWh .nil Je (Gb (pv 0) Gd))))) (λ_ _ _ _=>pv 0)) (GH Gd) (Gz _))))) (Gg (Gr ON)) Gu)))
    (Gg (Gr ON))),?_⟩
  refine ⟨_,rfl,_,_,true,rfl,⟨_,rfl,Os ?_⟩,.inl ⟨_,.lst ea,rfl,JD⟩⟩;refine ⟨_,rfl,_,rfl,.list (UQ (zs.map (·.2))),.list (UQ (ws.map (·.2))),.lst (SqL.of ea) (OK lz),.lst (SqL.of eb) (OK lw),JC _,JC _,_,rfl,?_⟩;rw [Zcr,Ybi heq];refine Os ?_;dsimp only [UC];refine ⟨_,rfl,a,rfl,⟨_,SqL.of ea⟩,?_⟩;refine Ji (K:=K) (a:=a) (xs:=RF zs) (λi σ H'=>∃v2:Option V,σ=[some (.ref a),some (.ref b),v2]/\Same H H') ⟨none,rfl,Same.refl _⟩ (λi σ H' _ ⟨_,_,s⟩=>SqL.of (s _ _ ea)) ?_ ?_
  ·rintro i x σ H2 hxi ⟨v1,rfl,s2⟩;rw [RF,Yaz] at hxi;obtain ⟨z,hz,rfl⟩:=Ybu.mp hxi;have ez:=s2 _ _ (lz z (Yax hz));dsimp only [GX];refine ⟨_,rfl,_,_,true,rfl,⟨_,rfl,Os ?_⟩,.inl ⟨_,.lst ez,rfl,JD⟩⟩;refine ⟨_,rfl,z.1,rfl,⟨_,SqL.of ez⟩,λD hD=>?_⟩;refine Jm (K:=K) (a:=z.1) (xs:=z.2.map V.int) (λj ys H'=>Same H2 H'/\H' D=some (.lst ys)/\ys=[]) ⟨Same.new hD,Ga,rfl⟩ (λj ys H' _ ⟨s,_⟩=>SqL.of (s _ _ ez)) ?_ ?_
   ·rintro j y ys H5 hyj ⟨s5,eD,rfl⟩;obtain ⟨n,rfl,_⟩:=JG hyj;refine ⟨trivial,?_⟩;exact ⟨_,rfl,n,rfl,_,rfl,Os ⟨s5,eD,rfl⟩⟩
   ·rintro ys H5 ⟨s5,eD,rfl⟩;refine ⟨Yar _,λe he=>?_⟩;have s6:Same H5 (upd H5 e (.lst [])):=Same.new he;refine ⟨.list [],.list [],.lst (SqL.of (s6 _ _ eD)) .nil,.lst (SqL.of Ga) .nil,by decide +kernel,by decide +kernel,_,rfl,?_⟩;refine Vf (λc=>absurd c (by decide +kernel)) (λ_=>?_);exact ⟨_,rfl,(s2.trans s5).trans s6⟩
  ·rintro σ H2 ⟨v1,rfl,s2⟩;exact q H2 s2
end
theorem Has.ups {ts:List Tri}(T:TabOk ts){c:Int}{s:List Int}(h:Has ts c s):∀{lo:Int},At ts c lo->s.Pairwise (· < ·)/\∀x∈s,lo<x/\x<30:=by
 induction h with
 | one=>exact λ_=>⟨List.Pairwise.nil,λx hx=>by cases hx⟩
 | low n _ ih=>
  intro lo a;obtain ⟨q,m,g⟩:=a.nd (by have:=n.1;lia);cases m.one n;obtain ⟨h1,h2⟩:=ih (T.nd n).2.1;exact ⟨h1,λx hx=>⟨by have:=(h2 x hx).1;lia,(h2 x hx).2⟩⟩
 | high n _ ih=>
  intro lo a;obtain ⟨q,m,g⟩:=a.nd (by have:=n.1;lia);cases m.one n;obtain ⟨h1,h2⟩:=ih (T.nd n).2.2;have h30:=(T.nd n).1;refine ⟨Ydc.mpr ⟨λx hx=>(h2 x hx).1,h1⟩,λx hx=>?_⟩;rcases Yas.mp hx with rfl | hx
  ·exact ⟨g,h30.2⟩
  ·exact ⟨by have:=(h2 x hx).1;lia,(h2 x hx).2⟩
theorem Zhb {F:Fam}(h:Lx F):Lx (woF F):=h.sublist Yge
theorem Zhc {F:Fam}(h:Lx F):Lx (chF F):=by
 unfold chF;refine Ybq.mpr ((h.sublist Yge).imp_of_mem λ{a b} ha hb hab=>?_);rw [take1.mp (Ybw (Ybt.mp ha).2),take1.mp (Ybw (Ybt.mp hb).2)] at hab;unfold GJ at hab;rw [if_pos rfl] at hab;exact hab
structure FO (ks:List Tri)(c lo:Int)(k:Fam):Prop where
 at_:At ks c lo
 lx:Lx k
 mem:∀s,s∈k↔Has ks c s
theorem FO.parts {ks:List Tri}(S:ShOk ks){c lo:Int}{k a b:Fam}{r:Int}(h:FO ks c lo k)(e:pfF k=.node r a b):∃c1 c2:Int,FO ks c1 r a/\FO ks c2 r b:=by
 obtain ⟨h0,h1,rfl,rfl,rfl⟩:=Jr e;have T:=S.ok;have hc:1<c:=by
  rcases h.at_ with rfl | rfl | ⟨q,n,_⟩
  ·exfalso;apply h0;cases k with
   | nil=>rfl
   | cons s k=>exact absurd ((h.mem s).mp Ybe) Has.zero
  ·exfalso;apply h1;refine Oa h.lx (by simp) λs=>?_;rw [h.mem s,Has.at1];simp
  ·have:=n.1
   lia
 obtain ⟨q,n,g⟩:=h.at_.nd hc;obtain ⟨_,a1,a2⟩:=T.nd n;obtain ⟨s0,hs0⟩:=Ua S _ q.2.2 q.1 a2 (Yad _) (S.hi q (Yax n.2));have m0:q.1::s0∈k:=(h.mem _).mpr (.high n hs0);have hf:Oz k=q.1:=by
  have l1:=Zbe m0;have nd:k.Nodup:=h.lx.imp λ{a b} z e=>by rw [e,Ja] at z;cases z
  obtain ⟨t,ht⟩:=Op nd h0 h1;rcases (Has.cons n).mp ((h.mem _).mp ht) with z | ⟨z,_⟩
  ·have:=z.gt T a1 rfl
   lia
  ·exact z
 rw [hf];refine ⟨q.2.1,q.2.2,⟨a1,Zhb h.lx,λs=>?_⟩,⟨a2,Zhc h.lx,λs=>?_⟩⟩
 ·rw [mem_wo,h.mem s,hf];cases s with
  | nil=>
   rw [Has.nil n];exact ⟨λz=>z.1,λz=>⟨z,by simp⟩⟩
  | cons x s=>
   rw [Has.cons n];constructor
   ·rintro ⟨z | ⟨rfl,z⟩,hne⟩
    ·exact z
    ·exact absurd rfl hne
   ·intro z;have:=z.gt T a1 rfl;exact ⟨.inl z,λw=>by injection w with w;lia⟩
 ·rw [mem_ch,h.mem,hf,Has.cons n];constructor
  ·rintro (z | ⟨_,z⟩)
   ·have:=z.gt T a1 rfl
    lia
   ·exact z
  ·exact λz=>.inr ⟨rfl,z⟩
theorem Zhd {ks:List Tri}(S:ShOk ks){F k:Fam}{c lo:Int}(h:FO ks c lo F)(r:Rc pfF F k):∃c' lo',FO ks c' lo' k:=by
 induction r with
 | start=>exact ⟨_,_,h⟩
 | lo _ e ih=>
  obtain ⟨c',lo',h'⟩:=ih;obtain ⟨c1,c2,h1,h2⟩:=h'.parts S e;exact ⟨c1,_,h1⟩
 | hi _ e ih=>
  obtain ⟨c',lo',h'⟩:=ih;obtain ⟨c1,c2,h1,h2⟩:=h'.parts S e;exact ⟨c2,_,h2⟩
open Classical in
noncomputable def Zea (ks:List Tri)(c:Int):Fam:=if h:∃k:Fam,Lx k/\∀s,s∈k↔Has ks c s then choose h else []
noncomputable def Zf5 (ks:List Tri):List Fam:=(List.range (ks.length+2)).map λi:Nat=>Zea ks (i:Int)
theorem Zct (ks:List Tri):(Zf5 ks).length=ks.length+2:=by unfold Zf5;rw [Yac,Yek]
theorem Zc1 {ks:List Tri}(S:ShOk ks){F k:Fam}{c lo:Int}(h:FO ks c lo F)(r:Rc pfF F k):k∈Zf5 ks:=by
 obtain ⟨c',lo',h'⟩:=Zhd S h r;have hl:=h'.at_.lt;have e:Zea ks c'=k:=by
  have hx:∃k:Fam,Lx k/\∀s,s∈k↔Has ks c' s:=⟨k,h'.lx,h'.mem⟩;unfold Zea;rw [dif_pos hx];obtain ⟨z1,z2⟩:=Classical.choose_spec hx;exact Oa z1 h'.lx λs=>(z2 s).trans (h'.mem s).symm
 refine Yaj.mpr ⟨c'.toNat,Yca.mpr (by lia),?_⟩;rw [Int.toNat_of_nonneg hl.1,e]
theorem FO.ok {ks:List Tri}(T:TabOk ks){F:Fam}{c:Int}(h:FO ks c (-1) F):FamOk F:=by
 refine ⟨h.lx.imp λ{a b} z e=>(by rw [e,Ja] at z;cases z),λs hs=>(Has.ups T ((h.mem s).mp hs) h.at_).1,λs hs x hx=>?_⟩;have:=(Has.ups T ((h.mem s).mp hs) h.at_).2 x hx
 lia
theorem Zhe {F:Fam}{n:Nat}(h:∀s∈F,s.length<=n):lF F<=n * F.length:=by
 induction F with
 | nil=>simp [lF]
 | cons s F ih=>
  have h1:=ih λu hu=>h u (Ybb _ hu);have h2:=h s (Ybe ..);unfold lF at h1 ⊢;rw [Yaq,List.sum_cons,Ybn,Nat.mul_succ]
  lia
theorem Xi {F:Fam}(h:FamOk F)(h13:∀s∈F,s.length<=13)(hl:F.length<=61):((OM (wF F) F).filter ndB).length<=793/\(OM (wF F) F).length<=2000:=by
 have h1:=nodes_le h;have h2:=Zhe h13;have h3:=XR (wF F) F
 lia
theorem YG (F:Fam):ndB F=UN (pfF F):=by
 unfold ndB UN;cases pfF F <;> rfl
theorem Ww {F:Fam}(nd:F.Nodup)(s:List Int):Zr pfF F s↔s∈F:=Zd6 (wF F) F (Yad _) nd s
theorem OL {F:Fam}(h:FamOk F):Abv pfF F (-1):=λr a b e=>by
 have:=((Wt h).nd _ _ _ _ .start e).1.1
 lia
theorem Zcu {F G:Fam}(hF:FamOk F)(lF:Lx F)(hG:FamOk G)(lG:Lx G){a0 b0 r1 r2:Int}{us ts vs ks:List Tri}{fs gs:List Int}(L:LeT pfF F a0 us ts r1 fs)(M:LeT pfF G b0 vs ks r2 gs):(a0=b0/\us=vs)↔F=G:=by
 constructor
 ·rintro ⟨rfl,rfl⟩;refine Oa lF lG λs=>?_;rw [<-Ww hF.nd,<-Ww hG.nd,<-L.has (OL hF),<-M.has (OL hG)]
 ·rintro rfl;obtain ⟨h1,h2⟩:=L.one (OL hF) M (OL hF) λ_=>Iff.rfl;exact ⟨h2,h1⟩
theorem Zq {n:Nat}{a0:Int}{us ks:List Tri}{root:Int}{fs:List Int}(D:Dr n a0 us ks root fs){F:Fam}(hF:FO ks root (-1) F){b0 r1:Int}{vs ts:List Tri}{gs:List Int}(L:LeT pfF F b0 vs ts r1 gs):us=vs/\a0=b0:=by
 have ok:=hF.ok D.sh.ok;exact L.same (OL ok) D.sh D.ar D.rch D.fin D.said D.len D.a0 λx=>(hF.mem x).symm.trans (Ww ok.nd x).symm
theorem Dr.tab {n:Nat}{a0:Int}{us ks:List Tri}{root:Int}{fs:List Int}(D:Dr n a0 us ks root fs):TabOk us:=D.said.tab D.sh.ok D.len
theorem Dr.at_ {n:Nat}{a0:Int}{us ks:List Tri}{root:Int}{fs:List Int}(D:Dr n a0 us ks root fs):At us a0 (-1):=D.said.at D.ar D.a0
theorem Dr.has {n:Nat}{a0:Int}{us ks:List Tri}{root:Int}{fs:List Int}(D:Dr n a0 us ks root fs)(x:List Int):Has us a0 x↔Has ks root x:=⟨λh=>Xd D.sh.ok D.said h D.ar D.a0,λh=>Zba D.said h D.a0⟩
theorem YH {us:List Tri}{a0:Int}{L G:Fam}(T:TabOk us)(hL:Sts us a0 L)(pm:G.Perm L)(so:Srt G):Lx G/\∀s,s∈G↔Has us a0 s:=
 ⟨VJ (pm.nodup_iff.mpr (hL.nodup T)) so,λs=>by rw [pm.mem_iff,hL.has s]⟩
end M
namespace M
open PySem L2
theorem LamSt.other {P P':Addr}{line col:Nat}{qual:Str}{H H':Hp}{ps:Array Value}(h:LamSt P line col qual H)(sl:SameL P' H H')(e:H P'=some (.tbl ps))(n:P≠P'):LamSt P line col qual H':=by
 rcases h with h | ⟨c,h1,oc,h2,h3⟩
 ·exact .inl (sl _ _ n h)
 ·exact .inr ⟨c,sl _ _ n h1,oc,sl _ _ (λz=>by rw [z,e] at h2;cases h2) h2,h3⟩
structure Env2 (tD tF:Addr)(H:Hp):Prop where
 ld:LD tD H
 ls:LS tF H
 ne:tD≠tF
structure Kp (K:W.Frag)(H H':Hp):Prop where
 lst:∀a xs,H a=some (.lst xs)->H' a=some (.lst xs)
 tup:∀a xs,H a=some (.tup xs)->H' a=some (.tup xs)
 sq:∀a xs,SqL K H a xs->SqL K H' a xs
section
variable {K:W.Frag}{H H' H'':Hp}{tD tF:Addr}
theorem Kp.same (s:Same H H'):Kp K H H':=⟨λa xs e=>s _ _ e,λa xs e=>s _ _ e,λa xs h=>s.seq h⟩
theorem Kp.trans (k:Kp K H H')(k':Kp K H' H''):Kp K H H'':=⟨λa xs e=>k'.lst _ _ (k.lst _ _ e),λa xs e=>k'.tup _ _ (k.tup _ _ e),λa xs h=>k'.sq _ _ (k.sq _ _ h)⟩
theorem Kp.of {P:Addr}{ps:Array Value}(sl:SameL P H H')(e:H P=some (.tbl ps)):Kp K H H':=by
 refine ⟨λa xs h=>sl.lst e h,λa xs h=>sl.tup e h,λa xs h=>?_⟩;rcases h with (h | ⟨o,h⟩) | h
 ·exact .inl (.inl (sl.lst e h))
 ·exact .inl (.inr ⟨o,sl _ _ (λz=>by rw [z,e] at h;cases h) h⟩)
 ·exact .inr h
theorem Env2.same (E:Env2 tD tF H)(s:Same H H'):Env2 tD tF H':=⟨E.ld.same s,E.ls.same s,E.ne⟩
theorem Env2.stepD (E:Env2 tD tF H)(sl:SameL tD H H')(ld:LD tD H'):Env2 tD tF H'/\Kp K H H':=by
 obtain ⟨ps,e⟩:=E.ld.tbl;exact ⟨⟨ld,LamSt.other E.ls sl e (Ne.symm E.ne),E.ne⟩,Kp.of sl e⟩
theorem Env2.stepF (E:Env2 tD tF H)(sl:SameL tF H H')(ls:LS tF H'):Env2 tD tF H'/\Kp K H H':=by
 obtain ⟨ps,e⟩:=E.ls.tbl;exact ⟨⟨LamSt.other E.ld sl e E.ne,ls,E.ne⟩,Kp.of sl e⟩
theorem TabAt.kp {tp l:Addr}{root:Int}{xs:List V}{ts:List Tri}(W:TabAt H tp l root xs ts)(k:Kp K H H'):TabAt H' tp l root xs ts:=⟨k.tup _ _ W.w,k.lst _ _ W.l,W.t.keep k.tup⟩
theorem Lz.kp {zs:List (Addr×List Int)}(h:Lz H zs)(k:Kp K H H'):Lz H' zs:=λz hz=>k.lst _ _ (h z hz)
theorem LLs.kp {low gap:Int}{l:Addr}{zs:List (Addr×List Int)}{n:Nat}(h:LLs low gap H l zs n)(k:Kp K H H'):LLs low gap H' l zs n:=⟨k.lst _ _ h.e,h.lz.kp k,h.gs,h.len⟩
theorem TabAt.dat {tp l:Addr}{root:Int}{xs:List V}{ts:List Tri}(W:TabAt H tp l root xs ts):DatV K H (.ref tp) (.tuple [.int root,.list (ts.map trD)]):=.tup (SqT.of W.w) (.cons (.int _) (.cons (.lst (SqL.of W.l) W.t.dats) .nil))
end
section
variable {P:Program}{w:World}{K:W.Frag}{mg:Str->Option Value}{base:Heap}
theorem Zcv {low gap:Int}(g:LG low gap){zs ws:List (Addr×List Int)}(gs:∀z∈zs,GS low gap z.2)(hz:zs.length<=61)(sub:∀z∈ws,z∈zs)(so:Lx (ws.map (·.2)))(al:∀z∈zs,z.2∈ws.map (·.2)) :
  FamOk (ws.map (·.2))/\(∀s,s∈ws.map (·.2)↔s∈zs.map (·.2))/\(ws.map (·.2)).length<=61/\∀s∈ws.map (·.2),s.length<=13:=by
 have G:∀s∈ws.map (·.2),GS low gap s:=λs hs=>by
  obtain ⟨z,hz,rfl⟩:=Yaj.mp hs;exact gs z (sub z hz)
 have nd:(ws.map (·.2)).Nodup:=so.imp λ{a b} z e=>by rw [e,Ja] at z;cases z
 have mem:∀s,s∈ws.map (·.2)↔s∈zs.map (·.2):=λs=>⟨λhs=>by
   obtain ⟨z,hz,rfl⟩:=Yaj.mp hs;exact Yaj.mpr ⟨z,sub z hz,rfl⟩,λhs=>by
   obtain ⟨z,hz,rfl⟩:=Yaj.mp hs;exact al z hz⟩
 refine ⟨⟨nd,λs hs=>(G s hs).up,λs hs=>(G s hs).rg g⟩,mem,?_,λs hs=>(G s hs).len⟩;have:=Ycj nd (l₂:=zs.map (·.2)) λs hs=>(mem s).mp hs;rw [Yac] at this ⊢;rw [Yac] at this
 lia
theorem Zc2 (s:List Int):∀G:Fam,Lx G->∃G':Fam,Lx G'/\∀x,x∈G'↔x=s\/x∈G
 | [],_=>⟨[s],by simp,λx=>by simp⟩
 | a::G,h=>by
  obtain ⟨h1,h2⟩:=Ydc.mp h;by_cases e:s=a
  ·subst e;exact ⟨s::G,h,λx=>by simp⟩
  cases hs:GJ s a with
  | true=>
   refine ⟨s::a::G,Ydc.mpr ⟨λx hx=>?_,h⟩,λx=>by simp⟩;rcases Yas.mp hx with rfl | hx
   ·exact hs
   ·exact On hs (h1 x hx)
  | false=>
   obtain ⟨G',g1,g2⟩:=Zc2 s G h2;have ha:GJ a s=true:=by
    cases ha:GJ a s with
    | true=>rfl
    | false=>exact absurd (J9 hs ha) e
   refine ⟨a::G',Ydc.mpr ⟨λx hx=>?_,g1⟩,λx=>?_⟩
   ·rcases (g2 x).mp hx with rfl | hx
    ·exact ha
    ·exact h1 x hx
   ·rw [Yas,Yas,g2 x];constructor
    ·rintro (z | z | z)
     ·exact .inr (.inl z)
     ·exact .inl z
     ·exact .inr (.inr z)
    ·rintro (z | z | z)
     ·exact .inr (.inl z)
     ·exact .inl z
     ·exact .inr (.inr z)
theorem Zbn:∀L:Fam,∃G:Fam,Lx G/\∀s,s∈G↔s∈L
 | []=>⟨[],List.Pairwise.nil,λs=>Iff.rfl⟩
 | s::L=>by
  obtain ⟨G,h1,h2⟩:=Zbn L;obtain ⟨G',g1,g2⟩:=Zc2 s G h1;exact ⟨G',g1,λx=>by rw [g2 x,h2 x,Yas]⟩
noncomputable def Zcw (K:W.Frag)(tD tF:Addr):Sp:=λvs H Q _=>∃(a:Addr)(ns:List Int),vs=[.ref a]/\SqL K H a (ns.map V.int)/\ns.length<=63/\H tD=some (.tbl #[])/\H tF=some (.tbl #[])/\tD≠tF/\∀H',Q (.bl true) H'
theorem scLaw:Gp ["script", "table", "again", "sets", "low", "gap", "rows", "found", "changed", "other"] ["script"] (Gf Zch):=⟨rfl,rfl,rfl,by decide +kernel,rfl,by decide +kernel,by decide +kernel⟩
theorem Zf6 {f fA fW fMy fTo fSo fIt fSe fOn fAs fCg fP TM tD tF:Addr}{fd fdA fdW fdMy fdTo fdSo fdIt fdSe fdOn fdAs fdCg:FuncData}(F:Fun K "law" "law" Zch f fd)(FA:Fun K "_law_cell_at" "_law_cell_at" Ze7 fA fdA)(bA:Binds K fdA ["script", "k"] [])(mA:mg "_law_cell_at" = some (.ref fA))(GA:G4 P w K mg base CX0 1 fA fdA ["script", "k"] (ZdY K))(FW:Fun K "_law_drawn" "_law_drawn" Zgm fW fdW)(bW:Binds K fdW ["cells", "first"] [])(mW:mg "_law_drawn" = some (.ref fW))(GW:G4 P w K mg base CX0 3 fW fdW ["cells", "first"] Zfs)(FMy:Fun K "_law_many" "_law_many" Zfa fMy fdMy)(bMy:Binds K fdMy ["table"] [])(mMy:mg "_law_many" = some (.ref fMy))(GMy:G4 P w K mg base CX0 1 fMy fdMy ["table"] ZfR)(FTo:Fun K "table_of" "table_of" Zgi fTo fdTo)(bTo:Binds K fdTo ["sets"] [])(mTo:mg "table_of" = some (.ref fTo))(GTo:G4 P w K mg base (CXr P w) 5 fTo fdTo ["sets"] (ZfG fP TM tD))(FSo:Fun K "sets_of" "sets_of" Zgk fSo fdSo)(bSo:Binds K fdSo ["table"] [])(mSo:mg "sets_of" = some (.ref fSo))(GSo:G4 P w K mg base (CXr P w) 33 fSo fdSo ["table"] (ZfN tF TM))(FIt:Fun K "_law_is_table" "_law_is_table" Zgo fIt fdIt)(bIt:Binds K fdIt ["found"] [])(mIt:mg "_law_is_table" = some (.ref fIt))(GIt:G4 P w K mg base CX0 2 fIt fdIt ["found"] Zf1)(FSe:Fun K "_law_sets" "_law_sets" Zgp fSe fdSe)(bSe:Binds K fdSe ["script"] [])(mSe:mg "_law_sets" = some (.ref fSe))(GSe:G4 P w K mg base CX0 2 fSe fdSe ["script"] (ZfX K))(FOn:Fun K "_law_once" "_law_once" Zgr fOn fdOn)(bOn:Binds K fdOn ["sets"] [])(mOn:mg "_law_once" = some (.ref fOn))(GOn:G4 P w K mg base CX0 1 fOn fdOn ["sets"] ZfT)(FAs:Fun K "_law_are_sets" "_law_are_sets" Zgs fAs fdAs)(bAs:Binds K fdAs ["found", "due"] [])(mAs:mg "_law_are_sets" = some (.ref fAs))(GAs:G4 P w K mg base CX0 2 fAs fdAs ["found", "due"] Zf3)(FCg:Fun K "_law_changed" "_law_changed" Zgq fCg fdCg)(bCg:Binds K fdCg ["sets", "way", "number", "low", "gap"] [])(mCg:mg "_law_changed" = some (.ref fCg))(GCg:G4 P w K mg base CX0 1 fCg fdCg ["sets", "way", "number", "low", "gap"] ZfZ)(mLst:mg "list" = none):G4 P w K mg base CX0 34 f fd ["script"] (Zcw K tD tF):=by
 refine F.ok scLaw (λvs H Q E h=>?_) (λcdv A outer s H vs Q E hr h=>?_)
 ·obtain ⟨_,_,rfl,_⟩:=h
  rfl
 ·obtain ⟨a,ns,rfl,hS,hns,hD0,hF0,hne,q⟩:=h;have h16:=Ybf.symm;have hu:=hr.units;have E0':Env2 tD tF H:=⟨.inl hD0,.inl hF0,hne⟩;refine ⟨_,Gc (Gn (i:=1) scLaw.nd rfl (Or.inl rfl) (Go GW (hr.mono (by decide)) rfl mW FW.kp bW .nil Je (Gb (GQ (kSl K) (pv 0) (G5 Ge) (G5 Ge)) (Gb (Go GA (hr.mono (by decide)) rfl mA FA.kp bA .nil Je (Gb (pv 0) (Gb Ge Gd))) Gd))))
    (Gc (Jf (Gv ZgB (Go GMy (hr.mono (by decide)) rfl mMy FMy.kp bMy .nil Je (Gb (pv 1) Gd)) Ge (Gz _)) (Gc (Gn (i:=2) scLaw.nd rfl (Or.inl rfl) (Go GTo (hr.mono (by decide)) rfl mTo FTo.kp bTo .nil Z0 (Gb (Go GSo (hr.mono (by decide)) rfl mSo FSo.kp bSo .nil Z0 (Gb (Jz (Gb (GV (WL K) (pv 1) Ge (λ_ _=>rfl)) (Gb (Jj (VT K) rfl mLst JK (Gb (GV (WL K) (pv 1) Ge (λ_ _=>rfl)) Gd)) Gd))) Gd)) Gd)))
    (Gg (Jf (PW.pt (US (JZ (JI (Go GIt (hr.mono (by decide)) rfl mIt FIt.kp bIt .nil Je (Gb (pv 2) Gd)))) (Ut (Gv (Zec K hu) (pv 2) (pv 1) (Gz _))))) (Gg (Gr ON)) Gu))) Gu)
    (Gc (Vl (Go GSe (hr.mono (by decide)) rfl mSe FSe.kp bSe .nil Je (Gb (pv 0) Gd)) (Zbq K (n:=3) rfl (Gq (Gi (i:=3) scLaw.nd rfl (Or.inl rfl)) (Gq (Gi (i:=4) scLaw.nd rfl (Or.inl rfl)) (Gq (Gi (i:=5) scLaw.nd rfl (Or.inl rfl)) JX)))))
    (Gc (Gn (i:=6) scLaw.nd rfl (Or.inl rfl) (Go GOn (hr.mono (by decide)) rfl mOn FOn.kp bOn .nil Je (Gb (pv 3) Gd)))
    (Gc (Gn (i:=7) scLaw.nd rfl (Or.inl rfl) (Go GTo (hr.mono (by decide)) rfl mTo FTo.kp bTo .nil Z0 (Gb (Jl (own:=["one"]) rfl (GM (by decide +kernel) (by decide +kernel) rfl (by decide +kernel)) (J3 K (pv 3)) (λ_ _ _ _=>Gi (i:=0) (show List.Nodup (["one"]:List Str) by decide +kernel) rfl (Or.inl rfl)) (λ_ _ _ _=>JR) (λ_ _ _ _=>Jj (VT K) rfl mLst JK (Gb (pv 0) Gd))) Gd)))
    (Gc (Jf (PW.pt (US (JZ (JI (Go GIt (hr.mono (by decide)) rfl mIt FIt.kp bIt .nil Je (Gb (pv 7) Gd)))) (Ut (JZ (JI (Go GAs (hr.mono (by decide)) rfl mAs FAs.kp bAs .nil Je (Gb (Go GSo (hr.mono (by decide)) rfl mSo FSo.kp bSo .nil Z0 (Gb (Jz (Gb (GV (WL K) (pv 7) Ge (λ_ _=>rfl)) (Gb (Jj (VT K) rfl mLst JK (Gb (GV (WL K) (pv 7) Ge (λ_ _=>rfl)) Gd)) Gd))) Gd)) (Gb (pv 6) Gd)))))))) (Gg (Gr ON)) Gu)
    (Gc (Gn (i:=8) scLaw.nd rfl (Or.inl rfl) (Go GCg (hr.mono (by decide)) rfl mCg FCg.kp bCg .nil Je (Gb (pv 3) (Gb (Gs Oe (Go GA (hr.mono (by decide)) rfl mA FA.kp bA .nil Je (Gb (pv 0) (Gb Ge Gd))) Ge) (Gb (Gs JU (Go GA (hr.mono (by decide)) rfl mA FA.kp bA .nil Je (Gb (pv 0) (Gb Ge Gd))) Ge) (Gb (pv 4) (Gb (pv 5) Gd)))))))
    (Gc (Gn (i:=9) scLaw.nd rfl (Or.inl rfl) (Go GTo (hr.mono (by decide)) rfl mTo FTo.kp bTo .nil Z0 (Gb (Jl (own:=["one"]) rfl (GM (by decide +kernel) (by decide +kernel) rfl (by decide +kernel)) (J3 K (pv 8)) (λ_ _ _ _=>Gi (i:=0) (show List.Nodup (["one"]:List Str) by decide +kernel) rfl (Or.inl rfl)) (λ_ _ _ _=>JR) (λ_ _ _ _=>Jj (VT K) rfl mLst JK (Gb (pv 0) Gd))) Gd)))
    (Gc (Jf (JZ (JI (Go GIt (hr.mono (by decide)) rfl mIt FIt.kp bIt .nil Je (Gb (pv 9) Gd)))) (Gg (Gr ON)) Gu)
    (Gg (Gr (Xo Xn (Xo (Zdp K hu) (pv 9) (pv 7) (Gz _)) (Xo (Zdp K hu) (Go GOn (hr.mono (by decide)) rfl mOn FOn.kp bOn .nil Je (Gb (pv 8) Gd)) (pv 6) (Gz _)) (Gz _)))))))))))),?_⟩
  refine ⟨_,rfl,_,rfl,_,rfl,a,_,rfl,hS,λcl hcl=>?_⟩;obtain ⟨cs,ecs,hcs⟩:=Xh ns;rw [ecs];have s1:Same H (upd H cl (.lst (cs.map V.int))):=Same.new hcl;have ecl:upd H cl (.lst (cs.map V.int)) cl=some (.lst (cs.map V.int)):=Ga;generalize upd H cl (.lst (cs.map V.int))=H1 at s1 ecl ⊢;refine ⟨_,rfl,a,ns,0,rfl,s1.seq hS,λz0=>⟨cl,cs,z0,rfl,ecl,by lia,λtp l a0 xs us H2 s2 _ _ W ⟨ks,root,fs,Dw⟩=>?_⟩⟩;have S2:=s1.trans s2;have E2:=E0'.same S2;have hS2:=S2.seq hS;clear s1 s2 S2 ecl hcl E0' hD0 hF0;dsimp only [GX];refine Gy (λσ' H'=>∃v2:Option V,σ'=[some (.ref a),some (.ref tp),v2,none,none,none,none,none,none,none]/\Env2 tD tF H'/\Kp K H2 H') ?s1 ?f1
  case f1=>
   intro hk;have T:=Dw.tab;have ar:=Dw.at_;obtain ⟨L,hL⟩:=Sts.of T ar;have hul:us.length<=60:=by have:=Dw.len;have:=Dw.le;have:=Dw.kn;lia
   refine ⟨_,rfl,tp,l,a0,xs,us,L,rfl,W,T,ar,by lia,hL,λH3 s3=>⟨_,_,rfl,rfl,_,rfl,Vf (λc1=>?_) (λ_=>hk _ _ ⟨none,rfl,E2.same s3,Kp.same s3⟩)⟩⟩;have c1':(L.length:Int)<=300:=Ybw c1;have W3:=W.same s3;have E3:=E2.same s3;refine ⟨_,rfl,tp,_,_,_,rfl,rfl,SqT.of W3.w,GB (j:=0) rfl,_,rfl,tp,_,_,_,rfl,rfl,SqT.of W3.w,GB (j:=1) rfl,l,xs,rfl,.inl (SqL.of W3.l),λl2 hl2=>⟨UA,λhd hhd=>?_⟩⟩;have s4:Same H3 (upd H3 l2 (.lst xs)):=Same.new hl2;have e4:upd H3 l2 (.lst xs) l2=some (.lst xs):=Ga;generalize upd H3 l2 (.lst xs)=H4 at s4 e4 hhd ⊢;have s5:Same H4 (upd H4 hd (.tup [.int a0,.ref l2])):=Same.new hhd;have e5:upd H4 hd (.tup [.int a0,.ref l2]) hd=some (.tup [.int a0,.ref l2]):=Ga;generalize upd H4 hd (.tup [.int a0,.ref l2])=H5 at s5 e5 ⊢;have S5:=s4.trans s5;have E5:=E3.same S5;have W5:=W3.same S5;refine ⟨hd,l2,a0,xs,us,L,rfl,⟨e5,s5 _ _ e4,W5.t⟩,T,ar,by lia,E5.ls,hL,λz=>absurd z (by lia),λ_ al zs H6 sl6 ls6 _ eal lz _ pm so=>?_⟩;obtain ⟨E6,k6⟩:=E5.stepF (K:=K) sl6 ls6;obtain ⟨hLx,hmem⟩:=YH T hL pm so;have hFO:FO ks root (-1) (zs.map (·.2)):=⟨Dw.ar,hLx,λs=>(hmem s).trans (Dw.has s)⟩;have hzl:zs.length<=300:=by have:=pm.length_eq;rw [Yac] at this;lia
   have hcl:=Zct ks;have hkn:=Dw.kn;refine ⟨al,zs,zs.map (·.2),Zf5 ks,Zf5 ks,rfl,eal,lz,by lia,hLx,λs=>Iff.rfl,hFO.ok Dw.sh.ok,λk r=>Zc1 Dw.sh hFO r,λk r _=>Zc1 Dw.sh hFO r,by lia,by lia,E6.ld,λp l3 b0 r1 ys vs ts gs H7 sl7 ld7 _ _ W7 L7 _=>?_,λts H7 _ _ _ h1 h2=>(by lia:False).elim⟩;obtain ⟨E7,k7⟩:=E6.stepD (K:=K) sl7 ld7;obtain ⟨hu1,ha1⟩:=Zq Dw hFO L7;have W7b:=(W5.kp k6).kp k7;dsimp only [GX];refine ⟨_,rfl,p,l3,b0,ys,vs,rfl,W7,λH8 s8=>⟨_,rfl,Os ?_⟩⟩;refine ⟨_,rfl,_,rfl,_,_,(W7.same s8).dat,(W7b.same s8).dat,Ov _ _,Ov _ _,_,rfl,?_⟩;rw [Zam,Ybi ha1.symm,Ybi hu1.symm];refine Os ?_;exact hk _ _ ⟨_,rfl,E7.same s8,((((Kp.same s3).trans (Kp.same S5)).trans k6).trans k7).trans (Kp.same s8)⟩
  rintro σ' H3 ⟨v2,rfl,E3,k3⟩;have hS3:=k3.sq _ _ hS2;clear W Dw hS2 k3 E2;refine ⟨_,rfl,a,ns,rfl,hS3,hns,λt l zs low gap H4 s4 et el lz hzl g gs=>⟨t,_,rfl,SqT.of et,rfl,_,_,rfl,_,_,rfl,_,_,rfl,rfl,?_⟩⟩;have E4:=E3.same s4;have hS4:=s4.seq hS3;have LL4:LLs low gap H4 l zs 60:=⟨el,lz,gs,hzl⟩;dsimp only [GX];refine ⟨_,rfl,l,zs,rfl,el,lz,by lia,λrw_ ws H5 s5 _ erw sub so al _=>?_⟩;have lw5:Lz H5 ws:=λz hz=>s5 _ _ (lz z (sub z hz));have E5:=E4.same s5;have hS5:=s5.seq hS4;have LL5:=LL4.same s5;obtain ⟨fo,fm,fl,f13⟩:=Zcv g gs (by lia) sub so al;obtain ⟨n1,n2⟩:=Xi fo f13 fl;dsimp only [GX];refine ⟨_,rfl,l,rfl,⟨_,SqL.of LL5.e⟩,λD hD=>?_⟩;refine Jm (K:=K) (a:=l) (xs:=RF zs) (λj ys H'=>∃cs:List (Addr×List Int),ys=RF cs/\Same H5 H'/\H' D=some (.lst ys)/\Lz H' cs/\(∀z∈cs,z.1≠D)/\cs.map (·.2)=(zs.map (·.2)).take j) ⟨[],rfl,Same.new hD,Ga,(λz hz=>by cases hz),(λz hz=>by cases hz),rfl⟩ (λj ys H' _ ⟨_,_,s,_⟩=>SqL.of (s _ _ LL5.e)) ?_ ?_
  ·rintro j y ys H8 hyj ⟨cs,rfl,s8,eD,lc,nc,ec⟩;rw [RF,Yaz] at hyj;obtain ⟨z,hz,rfl⟩:=Ybu.mp hyj;have hzm:=Yax hz;have hj:j<zs.length:=(Yao.mp hz).1;have tk:(zs.map (·.2)).take (j+1)=(zs.map (·.2)).take j++[z.2]:=by rw [Ybz,Yaz,hz];rfl
   have hcl:=Ybc List.length ec;rw [Yac,Ybm,Yac] at hcl;refine ⟨trivial,?_⟩;unfold ZbC;refine OQ ?_;refine ⟨_,rfl,z.1,_,rfl,.inl (SqL.of (s8 _ _ (LL5.lz z hzm))),λp hp=>?_⟩;have s9:Same H8 (upd H8 p (.lst (z.2.map V.int))):=Same.new hp;have npD:p≠D:=Ne.symm (Gh eD hp);refine ⟨s9 _ _ eD,by rw [RF,Yac];lia,cs++[(p,z.2)],by rw [RF,RF,Yap];rfl,(s8.trans s9).put hD,Ga,λy hy=>?_,λy hy=>?_,by rw [Yap,ec,tk];rfl⟩
   ·rcases Yag.mp hy with h | h
    ·exact Gj (s9 _ _ (lc y h)) (nc y h)
    ·rw [Yah.mp h];exact Gj Ga npD
   ·rcases Yag.mp hy with h | h
    ·exact nc y h
    ·rw [Yah.mp h];exact npD
  rintro ys H8 ⟨cs,rfl,s8,eD,lc,nc,ec⟩;rw [RF,Yac,<-Yac (f:=λz:Addr×List Int=>z.2),Ybp] at ec;have hcl:cs.length=zs.length:=by have:=Ybc List.length ec;rwa [Yac,Yac] at this
  have E8:=E5.same s8;refine ⟨D,cs,ws.map (·.2),OM (wF (ws.map (·.2))) (ws.map (·.2)),(OM (wF (ws.map (·.2))) (ws.map (·.2))).filter ndB,rfl,eD,lc,by lia,so,λs=>by rw [fm s,ec],fo,λk r=>YE fo r,λk r hn=>Ybt.mpr ⟨YE fo r,by rw [YG];exact hn⟩,by lia,by lia,E8.ld,λp pl a0 r1 ys us ts gs1 H9 sl9 ld9 _ _ W9 L9 hL9=>?_,λts H9 _ _ _ h1 h2=>(by lia:False).elim⟩;obtain ⟨E9,k9⟩:=E8.stepD (K:=K) sl9 ld9;have K9:Kp K H5 H9:=(Kp.same s8).trans k9;have LL9:=LL5.kp K9;have er9:=K9.lst _ _ erw;have lw9:=lw5.kp K9;have hS9:=K9.sq _ _ hS5;clear k9 E8 eD lc nc ec hcl s8 LL5 lw5 hS5 E5 LL4 hS4 E4 E3 hS3 el lz erw et s4 s5 hD sl9 ld9;have T9:=L9.tab;have ar9:=L9.at_ (OL fo);obtain ⟨L,hL⟩:=Sts.of T9 ar9;have hLF:L.Perm (ws.map (·.2)):=(List.perm_ext_iff_of_nodup (hL.nodup T9) fo.nd).mpr λs=>by rw [hL.has s,L9.has (OL fo),Ww fo.nd]
  have hus:us.length<=900:=by
   have:=L9.len;have:=L9.le
   lia
  dsimp only [GX];refine Gy (λσ' H'=>σ'=[some (.ref a),some (.ref tp),v2,some (.ref l),some (.int low),some (.int gap),some (.ref rw_),some (.ref p),none,none]/\Env2 tD tF H'/\Kp K H9 H') ?s2 ?f2
  case f2=>
   intro hk;refine ⟨_,rfl,p,pl,a0,ys,us,rfl,W9,λH3 s3=>⟨_,rfl,Os ?_⟩⟩;have W3:=W9.same s3;have E3:=E9.same s3;refine ⟨_,rfl,p,_,_,_,rfl,rfl,SqT.of W3.w,GB (j:=0) rfl,_,rfl,p,_,_,_,rfl,rfl,SqT.of W3.w,GB (j:=1) rfl,pl,ys,rfl,.inl (SqL.of W3.l),λl2 hl2=>⟨UA,λhd hhd=>?_⟩⟩;have s4:Same H3 (upd H3 l2 (.lst ys)):=Same.new hl2;have e4:upd H3 l2 (.lst ys) l2=some (.lst ys):=Ga;generalize upd H3 l2 (.lst ys)=H4 at s4 e4 hhd ⊢;have s5:Same H4 (upd H4 hd (.tup [.int a0,.ref l2])):=Same.new hhd;have e5:upd H4 hd (.tup [.int a0,.ref l2]) hd=some (.tup [.int a0,.ref l2]):=Ga;generalize upd H4 hd (.tup [.int a0,.ref l2])=H5 at s5 e5 ⊢;have S5:=s4.trans s5;have E5:=E3.same S5;have W5:=W3.same S5;have hLl:L.length<=61:=by rw [hLF.length_eq];exact fl
   refine ⟨hd,l2,a0,ys,us,L,rfl,⟨e5,s5 _ _ e4,W5.t⟩,T9,ar9,hus,E5.ls,hL,λz=>absurd z (by lia),λ_ al2 zs2 H6 sl6 ls6 _ eal lz2 _ pm so2=>?_⟩;obtain ⟨E6,k6⟩:=E5.stepF (K:=K) sl6 ls6;obtain ⟨hLx,hmem⟩:=YH T9 hL pm so2;have K6:Kp K H9 H6:=((Kp.same s3).trans (Kp.same S5)).trans k6;have heq:zs2.map (·.2)=ws.map (·.2):=Oa hLx so λs=>by rw [hmem s,<-hL.has s,hLF.mem_iff]
   refine ⟨_,rfl,al2,rw_,zs2,ws,rfl,eal,lz2,K6.lst _ _ er9,lw9.kp K6,heq,λH7 s7=>⟨_,rfl,Os ?_⟩⟩;exact hk _ _ ⟨rfl,E6.same s7,K6.trans (Kp.same s7)⟩
  rintro σ' H10 ⟨rfl,E10,K10⟩;have LL10:=LL9.kp K10;have W10:=W9.kp K10;have er10:=K10.lst _ _ er9;have lw10:=lw9.kp K10;have hS10:=K10.sq _ _ hS9;clear K10 LL9 W9 er9 lw9 hS9 E9 hL hLF L T9 ar9 hus;refine ⟨_,rfl,_,rfl,a,ns,2,rfl,hS10,λz1=>⟨_,_,rfl,rfl,(by show (0:Int)<4;decide),_,rfl,a,ns,2,rfl,hS10,λz2=>⟨_,_,rfl,rfl,⟨by decide,OJ⟩,_,rfl,_,rfl,?_⟩⟩⟩;refine ⟨l,_,_,low,gap,zs,rfl,LL10,g,λcl czs H11 s11 LL11=>?_⟩;have W11:=W10.same s11;have er11:=s11 _ _ er10;have lw11:=lw10.same s11;have E11:=E10.same s11;clear LL10 W10 er10 lw10 hS10 E10 s11;dsimp only [GX];obtain ⟨G,gLx,gmem⟩:=Zbn (czs.map (·.2));have gok:FamOk G/\G.length<=61/\∀s∈G,s.length<=13:=by
   have gg:∀s∈G,GS low gap s:=λs hs=>by
    obtain ⟨z,hz,rfl⟩:=Yaj.mp ((gmem s).mp hs);exact LL11.gs z hz
   have nd:G.Nodup:=gLx.imp λ{a b} z e=>by rw [e,Ja] at z;cases z
   refine ⟨⟨nd,λs hs=>(gg s hs).up,λs hs=>(gg s hs).rg g⟩,?_,λs hs=>(gg s hs).len⟩;have h1:=Ycj nd (l₂:=czs.map (·.2)) λs hs=>(gmem s).mp hs;have h2:=LL11.len;rw [Yac] at h1
   lia
  obtain ⟨go,gl,g13⟩:=gok;obtain ⟨m1,m2⟩:=Xi go g13 gl;have hczl:=LL11.len;refine ⟨_,rfl,cl,rfl,⟨_,SqL.of LL11.e⟩,λD hD=>?_⟩;refine Jm (K:=K) (a:=cl) (xs:=RF czs) (λj ys H'=>∃cs:List (Addr×List Int),ys=RF cs/\Same H11 H'/\H' D=some (.lst ys)/\Lz H' cs/\(∀z∈cs,z.1≠D)/\cs.map (·.2)=(czs.map (·.2)).take j) ⟨[],rfl,Same.new hD,Ga,(λz hz=>by cases hz),(λz hz=>by cases hz),rfl⟩ (λj ys H' _ ⟨_,_,s,_⟩=>SqL.of (s _ _ LL11.e)) ?_ ?_
  ·rintro j y ys H8 hyj ⟨cs,rfl,s8,eD,lc,nc,ec⟩;rw [RF,Yaz] at hyj;obtain ⟨z,hz,rfl⟩:=Ybu.mp hyj;have hzm:=Yax hz;have hj:j<czs.length:=(Yao.mp hz).1;have tk:(czs.map (·.2)).take (j+1)=(czs.map (·.2)).take j++[z.2]:=by rw [Ybz,Yaz,hz];rfl
   have hcl:=Ybc List.length ec;rw [Yac,Ybm,Yac] at hcl;refine ⟨trivial,?_⟩;unfold ZbC;refine OQ ?_;refine ⟨_,rfl,z.1,_,rfl,.inl (SqL.of (s8 _ _ (LL11.lz z hzm))),λp hp=>?_⟩;have s9:Same H8 (upd H8 p (.lst (z.2.map V.int))):=Same.new hp;have npD:p≠D:=Ne.symm (Gh eD hp);refine ⟨s9 _ _ eD,by rw [RF,Yac];lia,cs++[(p,z.2)],by rw [RF,RF,Yap];rfl,(s8.trans s9).put hD,Ga,λy hy=>?_,λy hy=>?_,by rw [Yap,ec,tk];rfl⟩
   ·rcases Yag.mp hy with h | h
    ·exact Gj (s9 _ _ (lc y h)) (nc y h)
    ·rw [Yah.mp h];exact Gj Ga npD
   ·rcases Yag.mp hy with h | h
    ·exact nc y h
    ·rw [Yah.mp h];exact npD
  rintro ys H8 ⟨cs,rfl,s8,eD,lc,nc,ec⟩;rw [RF,Yac,<-Yac (f:=λz:Addr×List Int=>z.2),Ybp] at ec;have hcl:cs.length=czs.length:=by have:=Ybc List.length ec;rwa [Yac,Yac] at this
  have E12:=E11.same s8;refine ⟨D,cs,G,OM (wF G) G,(OM (wF G) G).filter ndB,rfl,eD,lc,by lia,gLx,λs=>by rw [gmem s,ec],go,λk r=>YE go r,λk r hn=>Ybt.mpr ⟨YE go r,by rw [YG];exact hn⟩,by lia,by lia,E12.ld,λp2 pl2 b0 r2 ys2 vs2 ts2 gs2 H13 sl13 ld13 _ _ W13 L13 _=>?_,λts H9 _ _ _ h1 h2=>(by lia:False).elim⟩;obtain ⟨E13,k13⟩:=E12.stepD (K:=K) sl13 ld13;have K13:Kp K H11 H13:=(Kp.same s8).trans k13;have LL13:=LL11.kp K13;have er13:=K13.lst _ _ er11;have lw13:=lw11.kp K13;have W13b:=W11.kp K13;clear K13 k13 E12 eD lc nc ec hcl s8 LL11 lw11 er11 W11 E11 hD sl13 ld13;dsimp only [GX];refine ⟨_,rfl,p2,pl2,b0,ys2,vs2,rfl,W13,λH14 s14=>⟨_,rfl,Os ?_⟩⟩;dsimp only [UC];have LL14:=LL13.same s14;refine ⟨_,rfl,_,rfl,_,_,(W13.same s14).dat,(W13b.same s14).dat,Ov _ _,Ov _ _,?_⟩;refine ⟨_,rfl,cl,czs,rfl,LL14.e,LL14.lz,by lia,λrw2 ws2 H15 s15 _ erw2 sub2 so2 al2 _=>?_⟩;have lw2:Lz H15 ws2:=λz hz=>s15 _ _ (LL14.lz z (sub2 z hz));have eG:ws2.map (·.2)=G:=Oa so2 gLx λs=>by
   rw [gmem s];exact ⟨λhs=>by
    obtain ⟨z,hz,rfl⟩:=Yaj.mp hs;exact Yaj.mpr ⟨z,sub2 z hz,rfl⟩,λhs=>by
    obtain ⟨z,hz,rfl⟩:=Yaj.mp hs;exact al2 z hz⟩
  refine ⟨_,rfl,.list (UQ (ws2.map (·.2))),.list (UQ (ws.map (·.2))),.lst (SqL.of erw2) (OK lw2),.lst (SqL.of (s15 _ _ (s14 _ _ er13))) (OK ((lw13.same s14).same s15)),JC _,JC _,?_⟩;rw [Zcr,Zam,eG];have hiff:=Zcu go gLx fo so L13 L9;have hb:(false != (decide (b0=a0) && decide (vs2=us)))=(false != decide (G=ws.map (·.2))):=by
   by_cases hG:G=ws.map (·.2)
   ·obtain ⟨h1,h2⟩:=hiff.mpr hG;rw [Ybi h1,Ybi h2,Ybi hG]
    rfl
   ·rw [Ybx hG];by_cases h1:b0=a0
    ·by_cases h2:vs2=us
     ·exact absurd (hiff.mp ⟨h1,h2⟩) hG
     ·rw [Ybx h2,Bool.and_false]
    ·rw [Ybx h1,Bool.false_and]
  refine ⟨rfl,?_⟩;rw [hb,Ybi rfl];exact q _
end
end M
section
open PySem PySem.W PyProof.Rows
noncomputable def M.rowP:Program:=PySem.Challenge.rw_onceways_k29_whole_there_and_back.prog
noncomputable def M.seenP:Program:={ M.rowP with main:={ M.rowP.main with body:=[1,2,4,5,6,7,8,9,10,12,13,14,16,17,18,19,20,22,23,24,25,26,27,28,29,30,31,32,33,34,35].filterMap (λi=>M.rowP.main.body[i]?) } }
noncomputable def M.loosely:List Str:=[]
noncomputable def M.hookX (s:Shared):Bool:=xlAt M.seenP [] s && recOk (RowW.records (OpenRow.toRowW PySem.Challenge.rw_onceways_k29_whole_there_and_back.row)) s
noncomputable def M.atBoot (w:World)(os:OsState):Shared:=⟨boot_heap w.params,Array.mk [],boot_drawn,boot_toks,os⟩
noncomputable def M.topOf (p:Program)(N:Nat)(w:World)(os:OsState):Option Shared:=topRun treeTable p w (M.atBoot w os).heap.objs.size ((M.atBoot w os).heap.nsMap mainGlobals "__annotations__") N (M.atBoot w os) (topStub p)
theorem M.top_run {p:Program}{N:Nat}{w:World}{os:OsState}{s:Shared}(h:topFrom treeTable p w N (M.atBoot w os)=some s):M.topOf p N w os=some s:=by
 unfold topFrom at h;split at h
 ·obtain ⟨s1,h1,h2⟩:=Option.bind_eq_some_iff.mp h;split at h2
  ·cases h2;exact h1
  ·cases h2
 ·cases h
theorem M.left_boot {p q:Program}{loose:List Str}{Xt:Shared->Bool}{α:Type}{Yf:Shared->α}{Ya:World->α}{N:Nat}(e:opening p=plainProg p.main.scope.names)(hN:Nat.ble 600 N=true)(f:∀s,fenceModules? p s=some s)(hc:∀(w:World)(os:OsState),(topFrom treeTable p w N (M.atBoot w os)).isSome=true)(ha:∀(w:World)(os:OsState),(M.topOf p N w os).map (openSeen q loose (importedModules p.main.body) Xt true)=some (openGood q loose))(hb:∀(w:World)(os:OsState),(M.topOf p N w os).map Yf=some (Ya w)) :
  LeftO p q loose Xt Yf Ya N:=λw=>by
 obtain ⟨⟨a,b,c,d,os⟩,e1,e2⟩:=Ybu.mp (boot_open e hN f w);obtain ⟨rfl,rfl,rfl,rfl⟩:a=boot_heap w.params/\b=Array.mk []/\c=boot_drawn/\d=boot_toks:=by simpa using e2
 obtain ⟨s,hs⟩:=Yee.mp (hc w os);have h1:=ha w os;have h2:=hb w os;rw [M.top_run hs] at h1 h2;unfold openEnds;rw [e1];show (topFrom treeTable p w N (M.atBoot w os)).map _=_;rw [hs];simp only [Option.map_some,Option.some.injEq] at h1 h2 ⊢;rw [h1,h2]
set_option maxHeartbeats 0 in
theorem M.topA (w:World)(os:OsState):(M.topOf M.rowP 3094 w os).map (openSeen M.seenP M.loosely (importedModules M.rowP.main.body) M.hookX true)=some (openGood M.seenP M.loosely):=by
 unfold M.topOf;rw [W.Fast.te14082659384304107361,W.Fast.te14364793385576792824,W.Fast.te4187177175401517315];kernel_rfl
set_option maxHeartbeats 0 in
theorem M.topC (w:World)(os:OsState):(topFrom treeTable M.rowP w 3094 (M.atBoot w os)).isSome=true:=by
 unfold topFrom;rw [W.Fast.te14082659384304107361,W.Fast.te14364793385576792824];kernel_rfl
end
namespace M
open PySem L2
theorem ZhV {α:Type}{l:List α}(h:l.length=0):l=[]:=List.length_eq_zero_iff.mp h
theorem Zeb {α:Type}{l:List α}{n:Nat}(h:l.length=n+1):∃a t,l=a::t/\t.length=n:=by
 cases l with
 | nil=>cases h
 | cons a t=>exact ⟨a,t,rfl,by simpa using h⟩
theorem Zs {α:Type}{l:List α}(h:l.length=1):∃a,l=[a]:=by
 obtain ⟨a,t,rfl,k⟩:=Zeb h;exact ⟨a,by rw [ZhV k]⟩
theorem Zt {α:Type}{l:List α}(h:l.length=2):∃x0 x1,l=[x0,x1]:=by
 obtain ⟨a,t,rfl,k⟩:=Zeb h;obtain ⟨x1,rfl⟩:=Zs k;exact ⟨a,x1,rfl⟩
theorem Zhf {α:Type}{l:List α}(h:l.length=3):∃x0 x1 x2,l=[x0,x1,x2]:=by
 obtain ⟨a,t,rfl,k⟩:=Zeb h;obtain ⟨x1,x2,rfl⟩:=Zt k;exact ⟨a,x1,x2,rfl⟩
theorem Zhw {α:Type}{l:List α}(h:l.length=4):∃x0 x1 x2 x3,l=[x0,x1,x2,x3]:=by
 obtain ⟨a,t,rfl,k⟩:=Zeb h;obtain ⟨x1,x2,x3,rfl⟩:=Zhf k;exact ⟨a,x1,x2,x3,rfl⟩
theorem Zhx {α:Type}{l:List α}(h:l.length=5):∃x0 x1 x2 x3 x4,l=[x0,x1,x2,x3,x4]:=by
 obtain ⟨a,t,rfl,k⟩:=Zeb h;obtain ⟨x1,x2,x3,x4,rfl⟩:=Zhw k;exact ⟨a,x1,x2,x3,x4,rfl⟩
theorem ZhW {α:Type}{l:List α}(h:l.length=6):∃x0 x1 x2 x3 x4 x5,l=[x0,x1,x2,x3,x4,x5]:=by
 obtain ⟨a,t,rfl,k⟩:=Zeb h;obtain ⟨x1,x2,x3,x4,x5,rfl⟩:=Zhx k;exact ⟨a,x1,x2,x3,x4,x5,rfl⟩
theorem ZhY {α:Type}{l:List α}(h:l.length=7):∃x0 x1 x2 x3 x4 x5 x6,l=[x0,x1,x2,x3,x4,x5,x6]:=by
 obtain ⟨a,t,rfl,k⟩:=Zeb h;obtain ⟨x1,x2,x3,x4,x5,x6,rfl⟩:=ZhW k;exact ⟨a,x1,x2,x3,x4,x5,x6,rfl⟩
structure DefIs (K:W.Frag)(x:Str)(st:Stmt)(f:Addr)(cd:Value):Prop where
 a:W.nsIn K mainGlobals x=some (some (.ref f))
 l:∃(oc:Value)(od:Option Addr)(kV dc pm:Value)(an:Option Addr)(ct:Value)(sl:Array (Option Value)),K.lookup f=some ⟨oc,od,.func (W.fnOf x x (Ju st) (G0 st) (Gf st) .none kV dc pm an cd ct),sl⟩
 c:W.codeIn K cd x=true
 k:W.keepIn K (.ref f)=true
theorem DefIs.fn {K:W.Frag}{x:Str}{st:Stmt}{f:Addr}{cd:Value}(d:DefIs K x st f cd):∃fd,Fun K x x st f fd/\fd.code=cd:=by
 obtain ⟨_,_,_,_,_,_,_,_,hl⟩:=d.l;exact ⟨_,ZW (st:=st) hl d.c d.k,rfl⟩
theorem all_mk {l:W.OpenLaw}{w:World}{K:W.Frag}{h:Heap}{mg:Str->Option Value}{fa f1 f2 f3 f4 f5 f6 f7 f8 f9 f10 f11 f12 f13 f14 f15 f16 f17 f18 f19 f20 f21 f22 f23 f24 f25 fL no C fI fU dT cD tD cT tT:Addr}{ocI kVI dcI pmI cdI ctI ocU kVU dcU pmU cdU ctU dtc ocL kVL dcL pmL cdL ctL g1 g3 g4 g5 g7 g8 g9 g10 g11 g12 g13 g14 g15 g16 g17 g18 g19 g20 g21 g22 g23 g24 g25:Value}{odI anI odU anU dtd odL anL:Option Addr}{slI slU dts slL:Array (Option Value)}{dtn:Nat}{tM tN:Tok}{occD:Value}{odcD:Option Addr}{vsD:Array Value}{slcD:Array (Option Value)}{occT:Value}{odcT:Option Addr}{vsT:Array Value}{slcT:Array (Option Value)}(X:K.In h)(G:h.Ns mainGlobals mg)(hfa:mg "law" = some (.ref fa))(d1:DefIs K "parts_below" Ze2 f1 g1)(d2:DefIs K "laid_down" Zed f2 (.ref cD))(d3:DefIs K "found_from" Ze3 f3 g3)(d4:DefIs K "numbered" Ze4 f4 g4)(d5:DefIs K "least_table" Ze5 f5 g5)(d6:DefIs K "from_below" Zgg f6 (.ref cT))(d7:DefIs K "sizes_of" Ze6 f7 g7)(d8:DefIs K "size_of" sSz f8 g8)(d9:DefIs K "family_parts" Zgh f9 g9)(d10:DefIs K "table_of" Zgi f10 g10)(d11:DefIs K "sets_below" Zgj f11 g11)(d12:DefIs K "sets_of" Zgk f12 g12)(d13:DefIs K "_law_cell_at" Ze7 f13 g13)(d14:DefIs K "_law_raw" Zgl f14 g14)(d15:DefIs K "_law_in_order" Zee f15 g15)(d16:DefIs K "_law_table" Ze8 f16 g16)(d17:DefIs K "_law_drawn" Zgm f17 g17)(d18:DefIs K "_law_whole" Ze9 f18 g18)(d19:DefIs K "_law_many" Zfa f19 g19)(d20:DefIs K "_law_bits" Zgn f20 g20)(d21:DefIs K "_law_is_table" Zgo f21 g21)(d22:DefIs K "_law_sets" Zgp f22 g22)(d23:DefIs K "_law_changed" Zgq f23 g23)(d24:DefIs K "_law_once" Zgr f24 g24)(d25:DefIs K "_law_are_sets" Zgs f25 g25)(aL:W.nsIn K mainGlobals "law" = some (some (.ref fL)))(lL:K.lookup fL=some ⟨ocL,odL,.func (W.fnOf "law" "law" (Ju Zch) (G0 Zch) (Gf Zch) .none kVL dcL pmL anL cdL ctL),slL⟩)(cL:W.codeIn K cdL "law" = true)(kL:W.keepIn K (.ref fL)=true)(gno:W.nsIn K mainGlobals "TooMany" = some (some (.ref no)))(xex:ExcC K no)(kit:W.kitOne K (.type "int") (.type "tuple")=some false)(kit2:W.kitOne K (.type "tuple") (.type "int")=some false)(kib:W.kitOne K (.type "int") (.type "bool")=some false)(gMS:W.nsIn K mainGlobals "MOST_SETS" = some (some (.int 300 tM)))(gMN:W.nsIn K mainGlobals "MOST_NODES" = some (some (.int 800 tN)))(aC:W.nsIn K mainGlobals "Shelf" = some (some (.ref C)))(aI:W.findIn K (.ref C) "__init__" = some (some (.ref fI)))(iI:W.isFn K (.ref fI)=true)(lI:K.lookup fI=some ⟨ocI,odI,.func (W.fnOf "__init__" "Shelf.__init__" (Ju Zci) (G0 Zci) (Gf Zci) (.ref dT) kVI dcI pmI anI cdI ctI),slI⟩)(cI:W.codeIn K cdI "Shelf.__init__" = true)(kI:W.keepIn K (.ref fI)=true)(aU:W.findIn K (.ref C) "put" = some (some (.ref fU)))(iU:W.isFn K (.ref fU)=true)(lU:K.lookup fU=some ⟨ocU,odU,.func (W.fnOf "put" "Shelf.put" (Ju ZdU) (G0 ZdU) (Gf ZdU) .none kVU dcU pmU anU cdU ctU),slU⟩)(cU:W.codeIn K cdU "Shelf.put" = true)(kU:W.keepIn K (.ref fU)=true)(dTl:K.lookup dT=some ⟨dtc,dtd,.seq #[.none] dtn,dts⟩)(pg:W.plainGet K C Str.empty=true)(hd:W.hasDictIn K C=true)(po:W.plainOver K C=true)(sa:W.findIn K (.ref C) "__setattr__" = some (some (.builtin "object.__setattr__")))(mk:W.makesIn K C=true)(kc:W.keepIn K (.ref C)=true)(nM:W.findIn K (.ref C) "most" = some none)(nN:W.findIn K (.ref C) "nodes" = some none)(nP:W.findIn K (.ref C) "places" = some none)(lcD:K.lookup cD=some ⟨occD,odcD,.fields vsD,slcD⟩)(v11D:(vsD[11]?:Option Value)=some (.ref tD))(nTabD:K.lookup tD=none)(lcT:K.lookup cT=some ⟨occT,odcT,.fields vsT,slcT⟩)(v11T:(vsT[11]?:Option Value)=some (.ref tT))(nTabT:K.lookup tT=none)(nDT:tD≠tT)(nrange:W.nsIn K mainGlobals "range" = some none)(nlist:W.nsIn K mainGlobals "list" = some none)(nlen:W.nsIn K mainGlobals "len" = some none)(nint:W.nsIn K mainGlobals "int" = some none)(nmax:W.nsIn K mainGlobals "max" = some none)(nmin:W.nsIn K mainGlobals "min" = some none)(nsorted:W.nsIn K mainGlobals "sorted" = some none)(nbool:W.nsIn K mainGlobals "bool" = some none)(ntuple:W.nsIn K mainGlobals "tuple" = some none)(nisinstance:W.nsIn K mainGlobals "isinstance" = some none)(nset:W.nsIn K mainGlobals "set" = some none)(nenumerate:W.nsIn K mainGlobals "enumerate" = some none)
  : ∃(fd:FuncData)(c P c2 P2:Addr),W.tabIn K "laid_down" = some (c,P)/\K.lookup P=none/\W.tabIn K "from_below" = some (c2,P2)/\K.lookup P2=none/\P≠P2/\(∀(s:Shared)(v:Value),BindsTo s fd ⟨[v],[]⟩ [("script", v)])/\∀base:Heap,K.In base->base.Ns mainGlobals mg->W.CodeHd base c P->base.BuiltinsAt mg P->W.CodeHd base c2 P2->base.BuiltinsAt mg P2->G4 l.prog w K mg base CX0 34 fa fd ["script"] (Zcw K P P2):=by
 have e:=hfa.symm.trans (Ybj X G aL);cases e;obtain ⟨_,FPb,_⟩:=d1.fn;have bPb:=FPb.binds (ps:=["start", "parts"]) λ_ _ _ _ _ _ us hl=>by obtain ⟨_,_,rfl⟩:=Zt hl;rfl
 have mPb:=Ybj X G d1.a;obtain ⟨_,FLd,cLd⟩:=d2.fn;have bLd:=FLd.binds (ps:=["start", "parts", "shelf"]) λ_ _ _ _ _ _ us hl=>by obtain ⟨_,_,_,rfl⟩:=Zhf hl;rfl
 have mLd:=Ybj X G d2.a;obtain ⟨_,FF,_⟩:=d3.fn;have bF:=FF.binds (ps:=["root", "nodes"]) λ_ _ _ _ _ _ us hl=>by obtain ⟨_,_,rfl⟩:=Zt hl;rfl
 have mF:=Ybj X G d3.a;obtain ⟨_,FNu,_⟩:=d4.fn;have bNu:=FNu.binds (ps:=["root", "nodes"]) λ_ _ _ _ _ _ us hl=>by obtain ⟨_,_,rfl⟩:=Zt hl;rfl
 have mNu:=Ybj X G d4.a;obtain ⟨_,FLt,_⟩:=d5.fn;have bLt:=FLt.binds (ps:=["start", "parts", "most"]) λ_ _ _ _ _ _ us hl=>by obtain ⟨_,_,_,rfl⟩:=Zhf hl;rfl
 have mLt:=Ybj X G d5.a;obtain ⟨_,FFb,cFb⟩:=d6.fn;have bFb:=FFb.binds (ps:=["nodes"]) λ_ _ _ _ _ _ us hl=>by obtain ⟨_,rfl⟩:=Zs hl;rfl
 have mFb:=Ybj X G d6.a;obtain ⟨_,FZs,_⟩:=d7.fn;have bZs:=FZs.binds (ps:=["nodes"]) λ_ _ _ _ _ _ us hl=>by obtain ⟨_,rfl⟩:=Zs hl;rfl
 have mZs:=Ybj X G d7.a;obtain ⟨_,FZ,_⟩:=d8.fn;have bZ:=FZ.binds (ps:=["table"]) λ_ _ _ _ _ _ us hl=>by obtain ⟨_,rfl⟩:=Zs hl;rfl
 have mZ:=Ybj X G d8.a;obtain ⟨_,FFm,_⟩:=d9.fn;have bFm:=FFm.binds (ps:=["sets"]) λ_ _ _ _ _ _ us hl=>by obtain ⟨_,rfl⟩:=Zs hl;rfl
 have mFm:=Ybj X G d9.a;obtain ⟨_,FTo,_⟩:=d10.fn;have bTo:=FTo.binds (ps:=["sets"]) λ_ _ _ _ _ _ us hl=>by obtain ⟨_,rfl⟩:=Zs hl;rfl
 have mTo:=Ybj X G d10.a;obtain ⟨_,FSb,_⟩:=d11.fn;have bSb:=FSb.binds (ps:=["nodes", "number"]) λ_ _ _ _ _ _ us hl=>by obtain ⟨_,_,rfl⟩:=Zt hl;rfl
 have mSb:=Ybj X G d11.a;obtain ⟨_,FSo,_⟩:=d12.fn;have bSo:=FSo.binds (ps:=["table"]) λ_ _ _ _ _ _ us hl=>by obtain ⟨_,rfl⟩:=Zs hl;rfl
 have mSo:=Ybj X G d12.a;obtain ⟨_,FA,_⟩:=d13.fn;have bA:=FA.binds (ps:=["script", "k"]) λ_ _ _ _ _ _ us hl=>by obtain ⟨_,_,rfl⟩:=Zt hl;rfl
 have mA:=Ybj X G d13.a;obtain ⟨_,FR,_⟩:=d14.fn;have bR:=FR.binds (ps:=["cells", "road"]) λ_ _ _ _ _ _ us hl=>by obtain ⟨_,_,rfl⟩:=Zt hl;rfl
 have mR:=Ybj X G d14.a;obtain ⟨_,FO,_⟩:=d15.fn;have bO:=FO.binds (ps:=["root", "nodes"]) λ_ _ _ _ _ _ us hl=>by obtain ⟨_,_,rfl⟩:=Zt hl;rfl
 have mO:=Ybj X G d15.a;obtain ⟨_,FT,_⟩:=d16.fn;have bT:=FT.binds (ps:=["root", "nodes"]) λ_ _ _ _ _ _ us hl=>by obtain ⟨_,_,rfl⟩:=Zt hl;rfl
 have mT:=Ybj X G d16.a;obtain ⟨_,FW,_⟩:=d17.fn;have bW:=FW.binds (ps:=["cells", "first"]) λ_ _ _ _ _ _ us hl=>by obtain ⟨_,_,rfl⟩:=Zt hl;rfl
 have mW:=Ybj X G d17.a;obtain ⟨_,FWh,_⟩:=d18.fn;have bWh:=FWh.binds (ps:=["found"]) λ_ _ _ _ _ _ us hl=>by obtain ⟨_,rfl⟩:=Zs hl;rfl
 have mWh:=Ybj X G d18.a;obtain ⟨_,FMy,_⟩:=d19.fn;have bMy:=FMy.binds (ps:=["table"]) λ_ _ _ _ _ _ us hl=>by obtain ⟨_,rfl⟩:=Zs hl;rfl
 have mMy:=Ybj X G d19.a;obtain ⟨_,FBt,_⟩:=d20.fn;have bBt:=FBt.binds (ps:=["number", "many"]) λ_ _ _ _ _ _ us hl=>by obtain ⟨_,_,rfl⟩:=Zt hl;rfl
 have mBt:=Ybj X G d20.a;obtain ⟨_,FIt,_⟩:=d21.fn;have bIt:=FIt.binds (ps:=["found"]) λ_ _ _ _ _ _ us hl=>by obtain ⟨_,rfl⟩:=Zs hl;rfl
 have mIt:=Ybj X G d21.a;obtain ⟨_,FSe,_⟩:=d22.fn;have bSe:=FSe.binds (ps:=["script"]) λ_ _ _ _ _ _ us hl=>by obtain ⟨_,rfl⟩:=Zs hl;rfl
 have mSe:=Ybj X G d22.a;obtain ⟨_,FCg,_⟩:=d23.fn;have bCg:=FCg.binds (ps:=["sets", "way", "number", "low", "gap"]) λ_ _ _ _ _ _ us hl=>by obtain ⟨_,_,_,_,_,rfl⟩:=Zhx hl;rfl
 have mCg:=Ybj X G d23.a;obtain ⟨_,FOn,_⟩:=d24.fn;have bOn:=FOn.binds (ps:=["sets"]) λ_ _ _ _ _ _ us hl=>by obtain ⟨_,rfl⟩:=Zs hl;rfl
 have mOn:=Ybj X G d24.a;obtain ⟨_,FAs,_⟩:=d25.fn;have bAs:=FAs.binds (ps:=["found", "due"]) λ_ _ _ _ _ _ us hl=>by obtain ⟨_,_,rfl⟩:=Zt hl;rfl
 have mAs:=Ybj X G d25.a;have FL:=ZW (st:=Zch) lL cL kL;have tTabD:W.tabIn K "laid_down" = some (cD,tD):=by
  obtain ⟨_,_,_,_,_,_,_,_,hl⟩:=d2.l;unfold W.tabIn;simp only [d2.a,hl,W.fnOf,lcD,v11D]
 have tTabT:W.tabIn K "from_below" = some (cT,tT):=by
  obtain ⟨_,_,_,_,_,_,_,_,hl⟩:=d6.l;unfold W.tabIn;simp only [d6.a,hl,W.fnOf,lcT,v11T]
 refine ⟨W.fnOf "law" "law" (Ju Zch) (G0 Zch) (Gf Zch) .none kVL dcL pmL anL cdL ctL,cD,tD,cT,tT,tTabD,nTabD,tTabT,nTabT,nDT,λs v=>.of_eq rfl,λbase _ _ hCD hBlD hC hBl=>?_⟩;have TS:Zfb K mg C no:=⟨⟨pg,hd,po,sa⟩,nM,nN,nP,(Ybj X G aC)⟩;have FI:=Zdu (st:=Zci) lI cI kI;have bI:Binds K _ ["self", "most"] []:=λs us X' hl=>match us,hl with | [_,_],_=>W.binds_K (fd:=W.fnOf "__init__" "Shelf.__init__" (Ju Zci) (G0 Zci) (Gf Zci) (.ref dT) kVI dcI pmI anI cdI ctI) X' rfl dTl rfl rfl rfl
 have FU:=ZW (st:=ZdU) lU cU kU;have bU:=FU.binds (ps:=["self", "road", "low", "high"]) λ_ _ _ _ _ _ us hl=>by obtain ⟨_,_,_,_,rfl⟩:=Zhw hl;rfl
 have GI:=Zfd (P:=l.prog) (w:=w) (base:=base) FI TS;have GU:=Zff (P:=l.prog) (w:=w) (base:=base) FU TS (Ybj X G gno) xex (Yba X G nlen);have GFm:=ZfF (P:=l.prog) (w:=w) (base:=base) FFm (Yba X G nmin) (Yba X G ntuple);have GPb:=Zfh (P:=l.prog) (w:=w) (base:=base) (G:=gkF l.prog w) (pf:=pfF) (Dom:=DmF) FPb FFm bFm GFm (λs k r d=>ZfE r d) kit (Yba X G nisinstance) (Yba X G ntuple);have GLd:=Zfk (P:=l.prog) (w:=w) (base:=base) FLd cLd hCD hBlD FPb bPb mPb GPb Zd5 TS ⟨aU,iU,kU⟩ bU GU kit kit2 (Yba X G nisinstance) (Yba X G ntuple) (Yba X G nint) (Yba X G nsorted);have GF:=Zfv (mg:=mg) (P:=l.prog) (w:=w) (base:=base) FF;have GNu:=Zfx (P:=l.prog) (w:=w) (base:=base) FNu FF bF mF GF (Yba X G nenumerate);have GLt:=Zfz (P:=l.prog) (w:=w) (base:=base) FLt TS ⟨mk,aI,iI,kc⟩ bI GI FLd bLd mLd GLd FNu bNu mNu GNu;have GTo:=ZfH (P:=l.prog) (w:=w) (base:=base) FTo mFm (Ybj X G gMN) FLt bLt mLt GLt (Yba X G ntuple) (Yba X G nsorted) (Yba X G nset);have GFb:=ZfJ (P:=l.prog) (w:=w) (base:=base) FFb cFb hC hBl (Yba X G nsorted) (Yba X G nrange) (Yba X G nlen);have GZs:=ZfL (P:=l.prog) (w:=w) (base:=base) FZs FFb bFb mFb GFb;have GZ:=Zg8 (P:=l.prog) (w:=w) (base:=base) FZ FZs bZs mZs GZs;have GSo:=ZfO (P:=l.prog) (w:=w) (base:=base) FSo FZ bZ mZ GZ FSb bSb mSb (Ybj X G gMS) (Ybj X G gno) xex (Yba X G nsorted);have GA:=Zfl (P:=l.prog) (w:=w) (base:=base) FA (Yba X G nlen);have GW:=Zft (P:=l.prog) (w:=w) (base:=base) FW FR bR mR FT bT mT FO bO mO (Yba X G nrange) (Yba X G nlen) (Yba X G nmax);have GMy:=ZfS (P:=l.prog) (w:=w) (base:=base) FMy (Yba X G nsorted) (Yba X G nrange) (Yba X G nlen);have GWh:=ZfP (P:=l.prog) (w:=w) (base:=base) FWh kib (Yba X G nisinstance) (Yba X G nint) (Yba X G nbool);have GBt:=ZfW (P:=l.prog) (w:=w) (base:=base) FBt (Yba X G nrange);have GIt:=Zf2 (P:=l.prog) (w:=w) (base:=base) FIt FWh bWh mWh GWh (Yba X G nisinstance) (Yba X G ntuple) (Yba X G nlist) (Yba X G nlen);have GSe:=ZfY (P:=l.prog) (w:=w) (base:=base) FSe FA bA mA GA FBt bBt mBt GBt;have GOn:=ZfU (P:=l.prog) (w:=w) (base:=base) FOn (Yba X G nsorted);have GAs:=Zf4 (P:=l.prog) (w:=w) (base:=base) FAs FWh bWh mWh GWh (Yba X G nisinstance) (Yba X G nlist);have GCg:=Zf0 (P:=l.prog) (w:=w) (base:=base) FCg (Yba X G nlen) (Yba X G nmax) (Yba X G nsorted);exact Zf6 FL FA bA mA GA FW bW mW GW FMy bMy mMy GMy FTo bTo mTo GTo FSo bSo mSo GSo FIt bIt mIt GIt FSe bSe mSe GSe FOn bOn mOn GOn FAs bAs mAs GAs FCg bCg mCg GCg (Yba X G nlist)
theorem walk {l:W.OpenLaw}{q:Program}{loose:List Str}{XP:(Str->Option Value)->Heap->Prop}{YP:World->Heap->Prop}{d dd de:DefRec}{K:Params->W.Frag}(hn:l.most=some 63)(hdf:d.params.defaults=[])(hY:∀(w:World)(h:Heap),YP w h->(K w.params).In h)(hrec:(PyProof.Rows.recsOf q).find? (λe=>e.name == Str.ofString "laid_down")=some dd)(hrec2:(PyProof.Rows.recsOf q).find? (λe=>e.name == Str.ofString "from_below")=some de)(F:∀(w:World)(mg:Str->Option Value)(fa:Addr)(h:Heap),(K w.params).In h->h.Ns mainGlobals mg->mg d.name=some (.ref fa)->∃(fd:FuncData)(c P c2 P2:Addr),W.tabIn (K w.params) "laid_down" = some (c,P)/\(K w.params).lookup P=none/\W.tabIn (K w.params) "from_below" = some (c2,P2)/\(K w.params).lookup P2=none/\P≠P2/\(∀(s:Shared)(v:Value),BindsTo s fd ⟨[v],[]⟩ [("script", v)])/\∀base:Heap,(K w.params).In base->base.Ns mainGlobals mg->W.CodeHd base c P->base.BuiltinsAt mg P->W.CodeHd base c2 P2->base.BuiltinsAt mg P2->G4 l.prog w (K w.params) mg base CX0 34 fa fd ["script"] (Zcw (K w.params) P P2)) :
  W.WalkO q loose XP YP l.row.toRowW d [] (λf vs=>PySem.call f vs):=
 L2.walk_of2 (n:=63) (k:=34) (x := "script") (tn:=Str.ofString "laid_down") (tm:=Str.ofString "from_below") (CX:=λ_=>CX0) (sp:=λw P P2=>Zcw (K w.params) P P2) hn (by decide) hdf ⟨rfl,by decide,by decide⟩ hY hrec hrec2 F (λ_ P P2 _ a ns hl hP hP2 hne hS=>⟨a,ns,rfl,hS,hl,hP,hP2,hne,λ_=>rfl⟩) λ_ _ _ _ _ z=>z
end M
open PySem PySem.W PyProof.Rows
local macro_rules
 | `(tactic| o_head $H)=>`(tactic| (
  refine @holds_open _ M.seenP M.loosely M.hookX (XL M.seenP []) _ (Hook.obs $H) (Hook.val $H) (Hook.says $H) _ _ 3094
   (@M.left_boot M.rowP M.seenP M.loosely M.hookX _ (Hook.obs $H) (Hook.val $H) 3094 ?b1 ?b2 ?b3 M.topC M.topA ?hl)
   (Hook.of $H) (Hook.keeps $H) ?h1 XL.keeps (by rfl) (by rfl) (by rfl) ?h5 ?h6 ?h7 ?h8 ?h9 ?hw ?hc
  (case h1=>exact λs e=>xl_of s (Bool.and_eq_true_iff.mp e).1)
  (case h5=>exact λs e=>recFacts_of (Bool.and_eq_true_iff.mp e).2)
  (case h6=>rfl)
  (case h7=>first | assumption | decide +kernel)
  (case h8=>decide +kernel)
  (case h9=>exact ⟨rfl,rfl,rfl,rfl,rfl,by decide +kernel⟩)
  (case b1=>kernel_rfl)
  (case b2=>decide)
  (case b3=>(intro s;kernel_rfl))
  (case hl=>(intro w os;unfold M.topOf;rw [W.Fast.te14082659384304107361,W.Fast.te14364793385576792824];kernel_rfl))))
set_option maxRecDepth 100000 in
set_option maxHeartbeats 0 in
theorem PySem.Challenge.cw_onceways_k29_whole_there_and_back_holds : PySem.Challenge.rw_onceways_k29_whole_there_and_back.Holds := by
 w_on;o_law;k_head;(case hw=>w_witness2)
 k_fill
 refine M.walk (l:=PySem.Challenge.rw_onceways_k29_whole_there_and_back) rfl rfl (λw h Y=>W.km_in_of Y) (by rfl) (by rfl) ?F
 case F=>
  intro w mg fa h KX G hmg
  refine' M.all_mk KX G hmg ?d1 ?d2 ?d3 ?d4 ?d5 ?d6 ?d7 ?d8 ?d9 ?d10 ?d11 ?d12 ?d13 ?d14 ?d15 ?d16 ?d17 ?d18 ?d19 ?d20 ?d21 ?d22 ?d23 ?d24 ?d25 ?aL ?lL ?cL ?kL ?gno ?xex ?kit ?kit2 ?kib ?gMS ?gMN ?aC ?aI ?iI ?lI ?cI ?kI ?aU ?iU ?lU ?cU ?kU ?dTl ?pg ?hd ?po ?sa ?mk ?kc ?nM ?nN ?nP ?lcD ?v11D ?nTabD ?lcT ?v11T ?nTabT ?nDT ?nrange ?nlist ?nlen ?nint ?nmax ?nmin ?nsorted ?nbool ?ntuple ?nisinstance ?nset ?nenumerate
  (case d1 | d2 | d3 | d4 | d5 | d6 | d7 | d8 | d9 | d10 | d11 | d12 | d13 | d14 | d15 | d16 | d17 | d18 | d19 | d20 | d21 | d22 | d23 | d24 | d25=>exact ⟨by k_is,⟨_,_,_,_,_,_,_,_,by k_is⟩,by k_is,by k_is⟩)
  (case aL | lL | cL | kL | gno=>k_is)
  (case xex=>(unfold L2.ExcC;k_exc))
  (case kit | kit2 | kib=>kit_is)
  (case gMS | gMN | aC | aI | iI | lI | cI | kI | aU | iU | lU | cU | kU | dTl | pg | hd | po | sa | mk | kc | nM | nN | nP | lcD=>k_is)
  (case v11D=>exact rfl)
  (case nTabD=>kernel_rfl)
  (case lcT=>k_is)
  (case v11T=>exact rfl)
  (case nTabT=>kernel_rfl)
  (case nDT=>decide)
  (case nrange | nlist | nlen | nint | nmax | nmin | nsorted | nbool | ntuple | nisinstance | nset | nenumerate=>k_is)
#print axioms PySem.Challenge.cw_onceways_k29_whole_there_and_back_holds
