import PyProof.Rows.All
import Wide.All
import OpenK.AllK
import Wide.FinOn
import Lean
import PyProof.EqAt
import PyProof.EqKinds
import PyProof.TupleCall
import PyProof.SumAny
import PySem.Challenge.RW_onceways_k57_papers_looked_at
set_option Elab.async false
set_option linter.all false
set_option maxRecDepth 100000
set_option maxHeartbeats 4000000
abbrev EX:=PySem.Value->PySem.Shared->Prop
section
open PySem PySem.Spec PyProof.Rows
theorem Yaa:type_of% @wpAny_bind:=@wpAny_bind
theorem Yab:type_of% @wpAny_pure:=@wpAny_pure
theorem Yac:type_of% @wpS_bind:=@wpS_bind
theorem Yad:type_of% @List.length_map:=@List.length_map
theorem Yae:type_of% @Nat.le_refl:=@Nat.le_refl
theorem Yaf:type_of% @wpS_pure:=@wpS_pure
theorem Yag:type_of% @Heap.get?_push_of_some:=@Heap.get?_push_of_some
theorem Yah:type_of% @Heap.lt_size:=@Heap.lt_size
theorem Yai:type_of% @Array.length_toList:=@Array.length_toList
theorem Yaj:type_of% @Bool.false_ne_true:=@Bool.false_ne_true
theorem Yak:type_of% @List.length_append:=@List.length_append
theorem Yal:type_of% @List.mem_append:=@List.mem_append
theorem Yam:type_of% @Nat.ne_of_lt:=@Nat.ne_of_lt
theorem Yan:type_of% @List.size_toArray:=@List.size_toArray
theorem Yao:type_of% @Nat.zero_le:=@Nat.zero_le
theorem Yap:type_of% @List.map_cons:=@List.map_cons
theorem Yaq:type_of% @Array.getElem?_toList:=@Array.getElem?_toList
theorem Yar:type_of% @List.mem_map:=@List.mem_map
theorem Yas:type_of% @List.map_append:=@List.map_append
theorem Yat:type_of% @List.mem_cons:=@List.mem_cons
theorem Yau:type_of% @List.getElem?_eq_some_iff:=@List.getElem?_eq_some_iff
theorem Yav:type_of% @Array.getElem?_eq_getElem:=@Array.getElem?_eq_getElem
theorem Yaw:type_of% @List.mem_singleton:=@List.mem_singleton
theorem Yax:type_of% @W.mg_none_of:=@W.mg_none_of
theorem Yay:type_of% @Heap.get?_push_size:=@Heap.get?_push_size
theorem Yaz:type_of% @beq_iff_eq:=@beq_iff_eq
theorem Yba:type_of% @decide_eq_true:=@decide_eq_true
theorem Ybb:type_of% @List.mem_cons_of_mem:=@List.mem_cons_of_mem
theorem Ybc:type_of% @List.length_singleton:=@List.length_singleton
theorem Ybd:type_of% @List.getElem?_eq_getElem:=@List.getElem?_eq_getElem
theorem Ybe:type_of% @List.mem_cons_self:=@List.mem_cons_self
theorem Ybf:type_of% @congrArg:=@congrArg
theorem Ybg:type_of% @List.mem_of_getElem?:=@List.mem_of_getElem?
theorem Ybh:type_of% @sizeLine_eq:=@sizeLine_eq
theorem Ybi:type_of% @Nat.lt_of_lt_of_le:=@Nat.lt_of_lt_of_le
theorem Ybj:type_of% @decide_eq_false:=@decide_eq_false
theorem Ybk:type_of% @List.getElem?_map:=@List.getElem?_map
theorem Ybl:type_of% @Option.some.inj:=@Option.some.inj
theorem Ybm:type_of% @wpAny_mono:=@wpAny_mono
theorem Ybn:type_of% @List.length_cons:=@List.length_cons
theorem Ybo:type_of% @W.mg_of:=@W.mg_of
theorem Ybp:type_of% @wpAny_holding:=@wpAny_holding
theorem Ybq:type_of% @List.append_assoc:=@List.append_assoc
theorem Ybr:type_of% @Nat.le_trans:=@Nat.le_trans
theorem Ybs:type_of% @List.length_take:=@List.length_take
theorem Ybt:type_of% @Option.map_eq_some_iff:=@Option.map_eq_some_iff
theorem Ybu:type_of% @List.pairwise_append:=@List.pairwise_append
theorem Ybv:type_of% @of_decide_eq_true:=@of_decide_eq_true
theorem Ybw:type_of% @PySem.boot_len:=@PySem.boot_len
theorem Ybx:type_of% @Heap.size_push:=@Heap.size_push
theorem Yby:type_of% @List.pairwise_map:=@List.pairwise_map
theorem Ybz:type_of% @wpS_forRange:=@wpS_forRange
theorem Yca:type_of% @List.mem_filter:=@List.mem_filter
theorem Ycb:type_of% @Nat.lt_irrefl:=@Nat.lt_irrefl
theorem Ycc:type_of% @List.mem_append_right:=@List.mem_append_right
theorem Ycd:type_of% @Int.emod_nonneg:=@Int.emod_nonneg
theorem Yce:type_of% @Int.emod_lt_of_pos:=@Int.emod_lt_of_pos
theorem Ycf:type_of% @listItems_at:=@listItems_at
theorem Ycg:type_of% @Bool.and_eq_true:=@Bool.and_eq_true
theorem Ych:type_of% @Array.size_push:=@Array.size_push
theorem Yci:type_of% @wpS_modify:=@wpS_modify
theorem Ycj:type_of% @Paired.length:=@Paired.length
theorem Yck:type_of% @Int.toNat_natCast:=@Int.toNat_natCast
theorem Ycl:type_of% @wpAny_call_entry:=@wpAny_call_entry
theorem Ycm:type_of% @Heap.get?_update_other:=@Heap.get?_update_other
theorem Ycn:type_of% @List.nodup_append:=@List.nodup_append
theorem Yco:type_of% @Array.toList_append:=@Array.toList_append
theorem Ycp:type_of% @List.take_add_one:=@List.take_add_one
theorem Ycq:type_of% @List.take_length:=@List.take_length
theorem Ycr:type_of% @List.mem_range:=@List.mem_range
theorem Ycs:type_of% @W.kia_one:=@W.kia_one
theorem Yct:type_of% @List.mem_filterMap:=@List.mem_filterMap
theorem Ycu:type_of% @codeAny_builtin:=@codeAny_builtin
theorem Ycv:type_of% @List.find?_cons:=@List.find?_cons
theorem Ycw:type_of% @Nat.zero_add:=@Nat.zero_add
theorem Ycx:type_of% @Nat.add_sub_cancel':=@Nat.add_sub_cancel'
theorem Ycy:type_of% @wpAny_rule:=@wpAny_rule
theorem Ycz:type_of% @Array.toList_reverse:=@Array.toList_reverse
theorem Yda:type_of% @Nat.le_succ:=@Nat.le_succ
theorem Ydb:type_of% @PySem.mem_of_lookup:=@PySem.mem_of_lookup
theorem Ydc:type_of% @List.getElem?_append_left:=@List.getElem?_append_left
theorem Ydd:type_of% @List.getElem_of_mem:=@List.getElem_of_mem
theorem Yde:type_of% @List.Nodup.length_le_of_subset:=@List.Nodup.length_le_of_subset
theorem Ydf:type_of% @List.take_append_drop:=@List.take_append_drop
theorem Ydg:type_of% @Nat.lt_succ_of_lt:=@Nat.lt_succ_of_lt
theorem Ydh:type_of% @listUpdate_at:=@listUpdate_at
theorem Ydi:type_of% @PySem.F.plainAttrs_list:=@PySem.F.plainAttrs_list
theorem Ydj:type_of% @PassesOwn.never:=@PassesOwn.never
theorem Ydk:type_of% @beq_eq_false_iff_ne:=@beq_eq_false_iff_ne
theorem Ydl:type_of% @wpAny_truthy_bool:=@wpAny_truthy_bool
theorem Ydm:type_of% @Nat.ne_of_gt:=@Nat.ne_of_gt
theorem Ydn:type_of% @List.getElem?_append_right:=@List.getElem?_append_right
theorem Ydo:type_of% @wpAny_typeOf:=@wpAny_typeOf
theorem Ydp:type_of% @wpAny_newObj_type:=@wpAny_newObj_type
theorem Ydq:type_of% @wpAny_attempt:=@wpAny_attempt
theorem Ydr:type_of% @Around.in1_units:=@Around.in1_units
theorem Yds:type_of% @Nat.not_lt_zero:=@Nat.not_lt_zero
theorem Ydt:type_of% @List.map_map:=@List.map_map
theorem Ydu:type_of% @List.mem_append_left:=@List.mem_append_left
theorem Ydv:type_of% @List.append_nil:=@List.append_nil
theorem Ydw:type_of% @wpAny_Call_Name_kw:=@wpAny_Call_Name_kw
theorem Ydx:type_of% @List.length_drop:=@List.length_drop
theorem Ydy:type_of% @Bool.false_eq_true:=@Bool.false_eq_true
theorem Ydz:type_of% @List.getD_eq_getElem?_getD:=@List.getD_eq_getElem?_getD
theorem Yea:type_of% @List.nodup_nil:=@List.nodup_nil
theorem Yeb:type_of% @List.pairwise_cons:=@List.pairwise_cons
theorem Yec:type_of% @plainId_quiet:=@plainId_quiet
theorem Yed:type_of% @Around.under_plainId:=@Around.under_plainId
theorem Yee:type_of% @Array.toList_push:=@Array.toList_push
theorem Yef:type_of% @wpAny_setState_of:=@wpAny_setState_of
theorem Yeg:type_of% @List.filter_append:=@List.filter_append
theorem Yeh:type_of% @wpAny_passesOwn:=@wpAny_passesOwn
theorem Yei:type_of% @Heap.get?_update_self:=@Heap.get?_update_self
theorem Yej:type_of% @List.replicate_succ:=@List.replicate_succ
theorem Yek:type_of% @Bool.eq_false_iff:=@Bool.eq_false_iff
theorem Yel:type_of% @Array.getD_eq_getD_getElem?:=@Array.getD_eq_getD_getElem?
theorem Yem:type_of% @List.getElem?_take:=@List.getElem?_take
theorem Yen:type_of% @List.getElem?_drop:=@List.getElem?_drop
theorem Yeo:type_of% @Heap.SameBut.update:=@Heap.SameBut.update
theorem Yep:type_of% @F.plain_min_loop:=@F.plain_min_loop
theorem Yeq:type_of% @getElem?_mirror_all:=@getElem?_mirror_all
theorem Yer:type_of% @wpAny_newList:=@wpAny_newList
theorem Yes:type_of% @PySem.F.slot_list_append:=@PySem.F.slot_list_append
theorem Yet:type_of% @PySem.F.type_list_append:=@PySem.F.type_list_append
theorem Yeu:type_of% @List.length_filter_le:=@List.length_filter_le
theorem Yev:type_of% @List.filter_cons_of_pos:=@List.filter_cons_of_pos
theorem Yew:type_of% @wpAny_callSpecial?_slot:=@wpAny_callSpecial?_slot
theorem Yex:type_of% @beq_self_eq_true:=@beq_self_eq_true
theorem Yey:type_of% @List.getElem?_cons_succ:=@List.getElem?_cons_succ
theorem Yez:type_of% @wpAny_isInstance:=@wpAny_isInstance
theorem Yfa:type_of% @Option.map_eq_none_iff:=@Option.map_eq_none_iff
theorem Yfb:type_of% @Nat.min_eq_left:=@Nat.min_eq_left
theorem Yfc:type_of% @Array.toList_extract:=@Array.toList_extract
theorem Yfd:type_of% @List.extract_eq_take_drop:=@List.extract_eq_take_drop
theorem Yfe:type_of% @Array.size_extract:=@Array.size_extract
theorem Yff:type_of% @of_decide_eq_false:=@of_decide_eq_false
theorem Yfg:type_of% @List.filter_cons_of_neg:=@List.filter_cons_of_neg
theorem Yfh:type_of% @List.Perm.append_left:=@List.Perm.append_left
theorem Yfi:type_of% @Array.getElem?_eq_none:=@Array.getElem?_eq_none
theorem Yfj:type_of% @List.drop_of_length_le:=@List.drop_of_length_le
theorem Yfk:type_of% @PyProof.Rows.callWith_type1:=@PyProof.Rows.callWith_type1
theorem Yfl:type_of% @PyProof.Rows.slot_tuple_getitem:=@PyProof.Rows.slot_tuple_getitem
theorem Yfm:type_of% @wpAny_typeNameOfWhole_keyiter:=@wpAny_typeNameOfWhole_keyiter
theorem Yfn:type_of% @F.slot_dict_keyiterator_next:=@F.slot_dict_keyiterator_next
end
namespace L2
open PySem PySem.Spec PyProof.Rows
noncomputable abbrev Key:=Sum Int Str
noncomputable def X1:Key->Value->Bool
 | .inl k,v=>Value.isInt k v
 | .inr x,v=>Value.isStrOf x v
noncomputable def Zgv (w:World):Key->Int
 | .inl k=>hashInt k
 | .inr x=>hashStr w x
theorem GJ:∀{k:Key}{v:Value},X1 k v=true->(∃i t,k=Sum.inl i/\v=Value.int i t)\/(∃x t,k=Sum.inr x/\v=Value.str x t)
 | .inl i,v,h=>by
  obtain ⟨t,e⟩:=Value.isInt_shape (k:=i) (v:=v) h;exact .inl ⟨i,t,rfl,e⟩
 | .inr x,v,h=>by
  obtain ⟨t,e⟩:=Value.isStrOf_shape (x:=x) (v:=v) h;exact .inr ⟨x,t,rfl,e⟩
theorem YR (i:Int)(t:Tok):X1 (.inl i) (.int i t)=true:=by simp [X1,Value.isInt]
theorem YS (x:Str)(t:Tok):X1 (.inr x) (.str x t)=true:=by simp [X1,Value.isStrOf]
theorem Zdo (a b:Int):decide ((Sum.inl a:Key)=Sum.inl b)=(a == b):=by
 by_cases e:a=b
 ·subst e;simp
 ·have h:¬ (Sum.inl a:Key)=Sum.inl b:=λq=>e (Sum.inl.inj q);rw [Ybj h];exact (Ydk.mpr e).symm
theorem Zdp (a b:Str):decide ((Sum.inr a:Key)=Sum.inr b)=decide (a=b):=by
 by_cases e:a=b
 ·subst e;simp
 ·have h:¬ (Sum.inr a:Key)=Sum.inr b:=λq=>e (Sum.inr.inj q);rw [Ybj h,Ybj e]
theorem Zdq (a:Int)(b:Str):decide ((Sum.inl a:Key)=Sum.inr b)=false:=Ybj (λq=>nomatch q)
theorem Zdr (a:Str)(b:Int):decide ((Sum.inr a:Key)=Sum.inl b)=false:=Ybj (λq=>nomatch q)
noncomputable def GY (prog:Program)(w:World):PySem.KeyKind prog w Key where
 is:=X1
 hash:=Zgv w
 inj:=λv a b ha hb=>by
  rcases GJ ha with ⟨i,t,rfl,rfl⟩ | ⟨x,t,rfl,rfl⟩
  ·rcases GJ hb with ⟨j,u,rfl,e⟩ | ⟨y,u,rfl,e⟩
   ·injection e with e1 _;rw [e1]
   ·exact nomatch e
  ·rcases GJ hb with ⟨j,u,rfl,e⟩ | ⟨y,u,rfl,e⟩
   ·exact nomatch e
   ·injection e with e1 _;rw [e1]
 byValue:=λk v h=>by
  rcases GJ h with ⟨i,t,rfl,rfl⟩ | ⟨x,t,rfl,rfl⟩ <;> rfl
 pyHash:=λhv h=>by
  rcases GJ hv with ⟨i,t,rfl,rfl⟩ | ⟨x,t,rfl,rfl⟩
  ·exact wpAny_pyHash_int h
  ·exact wpAny_pyHash_str h
 eqBool:=λhu hv h=>by
  rcases GJ hu with ⟨i,t,rfl,rfl⟩ | ⟨x,t,rfl,rfl⟩
  ·rcases GJ hv with ⟨j,u,rfl,rfl⟩ | ⟨y,u,rfl,rfl⟩
   ·rw [Zdo] at h;exact wpAny_eqBool_int h
   ·rw [Zdq] at h;exact SeqAt.EqAt.int_str i t y u _ _ _ _ h
  ·rcases GJ hv with ⟨j,u,rfl,rfl⟩ | ⟨y,u,rfl,rfl⟩
   ·rw [Zdr] at h;exact SeqAt.EqAt.str_int x t j u _ _ _ _ h
   ·rw [Zdp] at h;exact wpAny_eqBool_str h
 «strs»:=λk x t v h=>by
  rcases GJ h with ⟨i,u,rfl,e⟩ | ⟨y,u,rfl,e⟩
  ·exact nomatch e
  ·injection e with e1 _
   subst e1;cases v <;> rfl
theorem WC (prog:Program)(w:World)(i:Int)(t:Tok):(GY prog w).is (.inl i) (.int i t)=true:=YR i t
theorem WD (prog:Program)(w:World)(x:Str)(t:Tok):(GY prog w).is (.inr x) (.str x t)=true:=YS x t
inductive V where
 | non | bl (b:Bool) | int (i:Int) | str (x:Str) | byt (b:Array UInt8) | flt (b:UInt64) | ref (a:Addr) | ty (n:String)
 deriving DecidableEq
noncomputable def RelV:V->Value->Prop
 | .non,u=>u=Value.none
 | .bl b,u=>u=Value.bool b
 | .int i,u=>∃t,u=Value.int i t
 | .str x,u=>∃t,u=Value.str x t
 | .byt b,u=>∃t,u=Value.bytes b t
 | .flt b,u=>∃t,u=Value.float b t
 | .ref a,u=>u=Value.ref a
 | .ty n,u=>u=Value.type n
noncomputable abbrev Vals:List V->List Value->Prop:=Paired RelV
theorem Vals.length {xs:List V}{us:List Value}(r:Vals xs us):xs.length=us.length:=Ycj r
theorem Vals.get:∀{xs:List V}{us:List Value}{i:Nat}{x:V},Vals xs us->xs[i]?=some x->∃u,us[i]?=some u/\RelV x u
 | _,_,_,_,.nil,e=>by simp at e
 | _,_,0,_,.cons r _,e=>by simp at e;subst e;exact ⟨_,rfl,r⟩
 | _,_,i+1,x,.cons _ t,e=>by
  obtain ⟨u,h1,h2⟩:=Vals.get (i:=i) (x:=x) t (by simpa using e);exact ⟨u,by simpa using h1,h2⟩
theorem Vals.set {x:V}{u:Value}(r:RelV x u):∀{xs:List V}{us:List Value}(i:Nat),Vals xs us->Vals (xs.set i x) (us.set i u)
 | _,_,_,.nil=>.nil
 | _,_,0,.cons _ t=>.cons r t
 | _,_,i+1,.cons q t=>.cons q (Vals.set r i t)
theorem Vals.append:∀{xs ys:List V}{us ws:List Value},Vals xs us->Vals ys ws->Vals (xs++ys) (us++ws)
 | _,_,_,_,.nil,s=>s
 | _,_,_,_,.cons r t,s=>.cons r (Vals.append t s)
theorem Vals.take:∀{xs:List V}{us:List Value}(n:Nat),Vals xs us->Vals (xs.take n) (us.take n)
 | _,_,0,_=>.nil
 | _,_,_+1,.nil=>.nil
 | _,_,n+1,.cons r t=>.cons r (Vals.take n t)
theorem Vals.drop:∀{xs:List V}{us:List Value}(n:Nat),Vals xs us->Vals (xs.drop n) (us.drop n)
 | _,_,0,r=>r
 | _,_,_+1,.nil=>.nil
 | _,_,n+1,.cons _ t=>Vals.drop n t
noncomputable def RelO:Option V->Option Value->Prop
 | some v,some u=>RelV v u
 | none,none=>True
 | _,_=>False
noncomputable def KV {κ:Type}:List (κ×V)->List (κ×Value)->Prop:=Paired λ(p:κ×V) (q:κ×Value)=>p.1=q.1/\RelV p.2 q.2
noncomputable def kV:Key->V
 | .inl i=>.int i
 | .inr x=>.str x
inductive HO where
  | lst (xs:List V)
  | tup (xs:List V)
  | dK (kvs:List (Key×V)) | dT (kvs:List (List Key×V))
  | set (S:Int->Bool) (n:Nat)
  | ins (C dx:Addr) (fs:List (Str×V))
  | own (x:Addr)
  | xd (fs:List (Str×V))
  | met (f x:Addr)
  | rng (lo hi:Int)
  | frz (o:Obj) (u:HO)
  | tbl (ps:Array Value)
  | ext (φ:Heap->Prop)
noncomputable abbrev Hp:=Addr->Option HO
noncomputable def upd (H:Hp)(a:Addr)(o:HO):Hp:=λb=>if b=a then some o else H b
theorem Gb {H:Hp}{a:Addr}{o:HO}:upd H a o a=some o:=by unfold upd;rw [if_pos rfl]
theorem Gi {H:Hp}{a b:Addr}{o:HO}(h:b≠a):upd H a o b=H b:=by unfold upd;rw [if_neg h]
theorem GP {H:Hp}{a b:Addr}{o u:HO}(h:H a=some o)(h':H b=some u)(d:o≠u):a≠b:=by
 intro e;subst e;rw [h] at h';exact d (Ybl h')
theorem Gf {H:Hp}{a b:Addr}{o:HO}(h:H a=some o)(h':H b=none):a≠b:=by
 intro e;subst e;rw [h] at h';cases h'
section
variable (P:Program)(w:World)
noncomputable def ObjOk (H:Hp)(h:Heap)(a:Addr):HO->Prop
 | .lst xs=>xs.length<=sizeLine/\∃(its:List Value)(n:Nat),Vals xs its/\h.get? a=some { cls:=.type "list", data:=.seq its.toArray n }
 | .tup xs=>xs.length<=sizeLine/\∃its:List Value,Vals xs its/\IsTup h a its.toArray
 | .dK kvs=>kvs.length<=sizeLine/\(a == sysModules)=false/\∃vs,KV kvs vs/\h.DictOf (GY P w) a vs
 | .dT kvs=>kvs.length<=sizeLine/\(a == sysModules)=false/\∃xs:List (List Key×Addr×Value),
   Paired (λ(p:List Key×V) (q:List Key×Addr×Value)=>p.1=q.1/\H q.2.1=some (.tup (p.1.map kV))/\RelV p.2 q.2.2) kvs xs /\
   ∃o es ep,h.get? a=some o/\o.ExactDict/\o.data=.dict es ep/\es.toList=xs.map (entryOfKey (tupleKind (GY P w)))/\(xs.map (·.1)).Nodup
 | .set S n=>h.SetOf (intKind P w) a S n
 | .ins C dx fs=>H dx=some (.own a)/\fs.length<=1000/\dx≠a/\h.get? a=some (W.instObj C dx) /\
   ∃mA,h.Ns1 dx mA/\(∀f,RelO (fs.lookup f) (mA f))/\PySem.Within mA (fs.map (·.1))
 | .own _=>∃o,h.get? a=some o
 | .xd fs=>∃mA,h.Ns1 a mA/\∀f,RelO (fs.lookup f) (mA f)
 | .rng lo hi=>∃t u v,h.get? a=some { cls:=.type "range", data:=.fields #[.int lo t,.int hi u,.int 1 v] }
 | .frz o u=>h.get? a=some o/\ObjOk H h a u
 | .tbl ps=>h.get? a=some { cls:=.none,data:=.fields ps }
 | .met f x=>h.get? a=some (W.methodObj (.ref f) (.ref x))
 | .ext φ=>φ h/\(∃o,h.get? a=some o)/\∀h1 h2:Heap,φ h1->(∀o,h1.get? a=some o->h2.get? a=some o)->φ h2
noncomputable def HOk (H:Hp)(h:Heap):Prop:=∀a o,H a=some o->ObjOk P w H h a o
end
section
variable {P:Program}{w:World}{H H':Hp}{h h':Heap}{a:Addr}{o:HO}
theorem ObjOk.lt (x:ObjOk P w H h a o):a<h.objs.size:=by
 cases o with
 | lst xs=>obtain ⟨_,_,_,_,e⟩:=x;exact Yah e
 | tup xs=>obtain ⟨_,_,_,p⟩:=x;exact p.lt
 | dK kvs=>obtain ⟨_,_,_,_,o,_,_,e,_⟩:=x;exact Yah e
 | dT kvs=>obtain ⟨_,_,_,_,o,_,_,e,_⟩:=x;exact Yah e
 | set S n=>obtain ⟨o,_,_,_,e,_⟩:=x;exact Yah e
 | ins C dx fs=>obtain ⟨_,_,_,e,_⟩:=x;exact Yah e
 | own y=>obtain ⟨_,e⟩:=x;exact Yah e
 | xd fs=>obtain ⟨_,⟨_,_,_,e,_⟩,_⟩:=x;exact Yah e
 | rng lo hi=>obtain ⟨_,_,_,e⟩:=x;exact Yah e
 | frz ob u=>obtain ⟨e,_⟩:=x;exact Yah e
 | tbl ps=>exact Yah (show h.get? a=some _ from x)
 | met f y=>exact Yah (show h.get? a=some _ from x)
 | ext φ=>obtain ⟨_,⟨_,e⟩,_⟩:=x;exact Yah e
theorem Paired.mapP {α β:Type}{F G:α->β->Prop}:∀{l₁:List α}{l₂:List β},Paired F l₁ l₂->(∀a b,F a b->G a b)->Paired G l₁ l₂
 | _,_,.nil,_=>.nil
 | _,_,.cons r t,f=>.cons (f _ _ r) (Paired.mapP t f)
theorem ObjOk.stay (x:ObjOk P w H h a o)(k:∀b u,(b=a\/H b=some (.own a))->h.get? b=some u->h'.get? b=some u)(ho:∀b,H b=some (.own a)->H' b=some (.own a))(ht:∀b xs,H b=some (.tup xs)->H' b=some (.tup xs)):ObjOk P w H' h' a o:=by
 induction o with
 | lst xs=>obtain ⟨z,its,n,r,e⟩:=x;exact ⟨z,its,n,r,k _ _ (.inl rfl) e⟩
 | tup xs=>obtain ⟨z,its,r,ob,e,c⟩:=x;exact ⟨z,its,r,ob,k _ _ (.inl rfl) e,c⟩
 | dK kvs=>obtain ⟨z,y,vs,r,ob,es,ep,e,c⟩:=x;exact ⟨z,y,vs,r,ob,es,ep,k _ _ (.inl rfl) e,c⟩
 | dT kvs=>
  obtain ⟨z,y,xs,r,ob,es,ep,e,c⟩:=x;exact ⟨z,y,xs,Paired.mapP r λp q z=>⟨z.1,ht _ _ z.2.1,z.2.2⟩,ob,es,ep,k _ _ (.inl rfl) e,c⟩
 | set S n=>obtain ⟨ob,es,ep,t,e,c⟩:=x;exact ⟨ob,es,ep,t,k _ _ (.inl rfl) e,c⟩
 | ins C dx fs=>
  obtain ⟨d,z,ne,e,mA,⟨od,es,ep,e2,c⟩,r⟩:=x;exact ⟨ho _ d,z,ne,k _ _ (.inl rfl) e,mA,⟨od,es,ep,k _ _ (.inr d) e2,c⟩,r⟩
 | own y=>obtain ⟨ob,e⟩:=x;exact ⟨ob,k _ _ (.inl rfl) e⟩
 | xd fs=>obtain ⟨mA,⟨od,es,ep,e,c⟩,r⟩:=x;exact ⟨mA,⟨od,es,ep,k _ _ (.inl rfl) e,c⟩,r⟩
 | rng lo hi=>obtain ⟨t,u,v,e⟩:=x;exact ⟨t,u,v,k _ _ (.inl rfl) e⟩
 | frz ob u ih=>obtain ⟨e,q⟩:=x;exact ⟨k _ _ (.inl rfl) e,ih q⟩
 | tbl ps=>
  have e:h.get? a=some { cls:=.none,data:=.fields ps }:=x;show h'.get? a=some { cls:=.none,data:=.fields ps };exact k a _ (.inl rfl) e
 | met f y=>
  have e:h.get? a=some (W.methodObj (.ref f) (.ref y)):=x;show h'.get? a=some (W.methodObj (.ref f) (.ref y));exact k a _ (.inl rfl) e
 | ext φ=>obtain ⟨p,⟨o,e⟩,st⟩:=x;exact ⟨st _ _ p λo q=>k _ _ (.inl rfl) q,⟨o,k _ _ (.inl rfl) e⟩,st⟩
theorem HOk.lt (x:HOk P w H h)(e:H a=some o):a<h.objs.size:=(x a o e).lt
theorem HOk.fresh (x:HOk P w H h)(e:h.objs.size<=a):H a=none:=by
 cases q:H a with
 | none=>rfl
 | some u=>exact absurd (Ybi (x.lt q) e) (Ycb _)
theorem HOk.kept (x:HOk P w H h)(k:∀b u,h.get? b=some u->h'.get? b=some u):HOk P w H h':=λa o e=>
 (x a o e).stay (λb u _ q=>k b u q) (λ_ q=>q) λ_ _ q=>q
theorem HOk.laid (x:HOk P w H h)(k:∀b u,h.get? b=some u->h'.get? b=some u)(hp:h.objs.size<=a)(new:ObjOk P w (upd H a o) h' a o):HOk P w (upd H a o) h':=λb u e=>by
 have hn:=x.fresh hp;by_cases hb:b=a
 ·subst hb;rw [Gb] at e;cases e;exact new
 ·rw [Gi hb] at e;exact (x b u e).stay (λc v _ q=>k c v q) (λc q=>by rw [Gi (Gf q hn)];exact q) λc xs q=>by rw [Gi (Gf q hn)];exact q
end
noncomputable def Rd (H:Hp)(a:Addr)(u:HO):Prop:=H a=some u\/∃o,H a=some (.frz o u)
theorem Rd.ok {P:Program}{w:World}{H:Hp}{h:Heap}{a:Addr}{u:HO}(r:Rd H a u)(x:HOk P w H h):ObjOk P w H h a u:=by
 rcases r with r | ⟨o,r⟩
 ·exact x a u r
 ·obtain ⟨_,q⟩:=x a _ r;exact q
noncomputable def Mut:Option HO->Prop
 | some (.lst _)=>True
 | some (.dK _)=>True
 | some (.dT _)=>True
 | some (.set _ _)=>True
 | some (.ins _ _ _)=>True
 | some (.ext _)=>True
 | _=>False
section
variable {P:Program}{w:World}{H:Hp}{h h':Heap}{x e:Addr}{o':HO}
theorem HOk.write (ok:HOk P w H h)(mu:Mut (H x))(he:e=x\/H e=some (.own x))(k:∀b u,b≠e->h.get? b=some u->h'.get? b=some u)(heo:∃u,h'.get? e=some u)(new:ObjOk P w (upd H x o') h' x o'):HOk P w (upd H x o') h':=λb u q=>by
 have nown:∀c y,H c=some (.own y)->c≠x:=λc y r z=>by subst z;rw [r] at mu;exact mu
 have ntup:∀c xs,H c=some (.tup xs)->c≠x:=λc xs r z=>by subst z;rw [r] at mu;exact mu
 by_cases hb:b=x
 ·subst hb;rw [Gb] at q;cases q;exact new
 ·rw [Gi hb] at q;by_cases hbe:b=e
  ·have q':H b=some (.own x):=by
    rcases he with z | z
    ·exact absurd (hbe.trans z) hb
    ·rw [hbe];exact z
   rw [q] at q';cases q';obtain ⟨v,hv⟩:=heo;exact ⟨v,by rw [hbe];exact hv⟩
  ·refine (ok b u q).stay (λc v hc r=>k c v ?_ r) (λc r=>by rw [Gi (nown c b r)];exact r) λc xs r=>by rw [Gi (ntup c xs r)];exact r
   rcases hc with rfl | hc
   ·exact hbe
   ·rintro rfl;rcases he with z | z
    ·exact nown c b hc z
    ·rw [hc] at z;cases z;exact hb rfl
end
structure Un (fs ex:List Addr)(H H':Hp)(h h':Heap):Prop where
 keep:∀b o,h.get? b=some o->H b=none->b ∉ fs->b ∉ ex->h'.get? b=some o
 slot:∀b o,h.get? b=some o->H b=none->b∈fs->b ∉ ex->∃sl,h'.get? b=some { o with slots:=sl }
 free:∀b o,h.get? b=some o->H b=none->b ∉ ex->H' b=none
 there:∀b o,h.get? b=some o->b ∉ ex->∃o',h'.get? b=some o'
 tups:∀b xs,H b=some (.tup xs)->H' b=some (.tup xs)
 frzs:∀b o u,H b=some (.frz o u)->H' b=some (.frz o u)
 tbls:∀b ps,H b=some (.tbl ps)->∃more,H' b=some (.tbl (ps++more))
section
variable {fs fs' ex ex':List Addr}{H H1 H2:Hp}{h h1 h2 h':Heap}{a x e:Addr}{o:HO}
theorem Un.any (u:Un fs ex H H1 h h1){b:Addr}{ob:Obj}(q:h.get? b=some ob)(n:H b=none)(hx:b ∉ ex):∃sl,h1.get? b=some { ob with slots:=sl }:=by
 by_cases hb:b∈fs
 ·exact u.slot b ob q n hb hx
 ·exact ⟨ob.slots,u.keep b ob q n hb hx⟩
theorem Un.trans (a:Un fs ex H H1 h h1)(b:Un fs ex H1 H2 h1 h2):Un fs ex H H2 h h2 where
 keep:=λc ob q n hc hx=>b.keep c ob (a.keep c ob q n hc hx) (a.free c ob q n hx) hc hx
 slot:=λc ob q n hc hx=>by
  obtain ⟨sl,e1⟩:=a.slot c ob q n hc hx;obtain ⟨sl',e2⟩:=b.slot c _ e1 (a.free c ob q n hx) hc hx;exact ⟨sl',e2⟩
 free:=λc ob q n hx=>by
  obtain ⟨o',e1⟩:=a.there c ob q hx;exact b.free c o' e1 (a.free c ob q n hx) hx
 there:=λc ob q hx=>by
  obtain ⟨o',e1⟩:=a.there c ob q hx;exact b.there c o' e1 hx
 tups:=λc xs q=>b.tups c xs (a.tups c xs q)
 frzs:=λc ob xs q=>b.frzs c ob xs (a.frzs c ob xs q)
 tbls:=λc ps q=>by
  obtain ⟨m1,e1⟩:=a.tbls c ps q;obtain ⟨m2,e2⟩:=b.tbls c _ e1;exact ⟨m1++m2,by rw [e2,Array.append_assoc]⟩
theorem Un.kept (k:∀b u,h.get? b=some u->h'.get? b=some u):Un fs ex H H h h':=
 ⟨λb ob q _ _ _=>k b ob q,λb ob q _ _ _=>⟨ob.slots,k b ob q⟩,λ_ _ _ n _=>n,λb ob q _=>⟨ob,k b ob q⟩,λ_ _ q=>q,λ_ _ _ q=>q,λ_ ps q=>⟨#[],by rw [q];simp⟩⟩
theorem Un.refl:Un fs ex H H h h:=Un.kept λ_ _ q=>q
theorem Un.laid (k:∀b u,h.get? b=some u->h'.get? b=some u)(hp:h.objs.size<=a)(hn:H a=none):Un fs ex H (upd H a o) h h' where
 keep:=λb u q _ _ _=>k b u q
 slot:=λb u q _ _ _=>⟨u.slots,k b u q⟩
 free:=λb u q n _=>by rw [Gi (Yam (Ybi (Yah q) hp))];exact n
 there:=λb u q _=>⟨u,k b u q⟩
 tups:=λb xs q=>by rw [Gi (Gf q hn)];exact q
 frzs:=λb u xs q=>by rw [Gi (Gf q hn)];exact q
 tbls:=λb ps q=>⟨#[],by rw [Gi (Gf q hn),q];simp⟩
theorem Un.write (mu:Mut (H x))(he:e=x\/H e=some (.own x))(k:∀b u,b≠e->h.get? b=some u->h'.get? b=some u)(heo:∃u,h'.get? e=some u):Un fs ex H (upd H x o) h h':=by
 have hx:∀b,H b=none->b≠x:=λb n z=>by subst z;rw [n] at mu;exact mu
 have hb:∀b,H b=none->b≠e:=λb n z=>by
  subst z;rcases he with r | r
  ·exact hx b n r
  ·rw [n] at r;cases r
 have hm:∀b u,H b=some u->¬ Mut (some u)->b≠x:=λb u q nm z=>by subst z;rw [q] at mu;exact nm mu
 refine ⟨λb u q n _ _=>k b u (hb b n) q,λb u q n _ _=>⟨u.slots,k b u (hb b n) q⟩,λb u q n _=>by rw [Gi (hx b n)];exact n,λb u q _=>?_,
  λb xs q=>by rw [Gi (hm b _ q λz=>z)];exact q,λb u xs q=>by rw [Gi (hm b _ q λz=>z)];exact q,λb ps q=>⟨#[],by rw [Gi (hm b _ q λz=>z),q];simp⟩⟩
 by_cases hbe:b=e
 ·subst hbe;exact heo
 ·exact ⟨u,k b u hbe q⟩
theorem Un.mono (u:Un fs ex H H1 h h1)(hs:∀b∈fs,b∈fs')(hx:∀b∈ex,b∈ex'):Un fs' ex' H H1 h h1:=
 ⟨λb ob q n hb he=>u.keep b ob q n (λz=>hb (hs b z)) λz=>he (hx b z),λ_ _ q n _ he=>u.any q n λz=>he (hx _ z),λb ob q n he=>u.free b ob q n λz=>he (hx b z),λb ob q he=>u.there b ob q λz=>he (hx b z),u.tups,u.frzs,u.tbls⟩
end
noncomputable def trk (h:Heap)(H:Hp):List Addr:=(List.range h.objs.size).filter λa=>(H a).isSome
noncomputable def YT (h:Heap)(H:Hp):Heap:=W.hideAll h (trk h H)
theorem YU (h:Heap)(H:Hp):(YT h H).objs.size=h.objs.size:=W.hideAll_size _ _
theorem ZaI {h:Heap}{H:Hp}{b:Addr}{o:Obj}(e:h.get? b=some o)(n:H b=none):(YT h H).get? b=some o:=
 W.hideAll_get _ e λhm=>by
  have q:(H b).isSome=true:=(Yca.mp hm).2;rw [n] at q;simp at q
theorem Zck {h:Heap}{H:Hp}{b:Addr}{o:Obj}(e:(YT h H).get? b=some o):h.get? b=some o/\H b=none:=by
 have e':h.get? b=some o:=W.of_hideAll (trk h H) e;refine ⟨e',?_⟩;cases q:H b with
 | none=>rfl
 | some x=>
  have hm:b∈trk h H:=Yca.mpr ⟨Ycr.mpr (Yah e'),by simp [q]⟩;have z:(YT h H).get? b=none:=W.hideAll_none (trk h H) hm;rw [z] at e;cases e
structure Mod (K:W.Frag)(mg:Str->Option Value)(base:Heap):Prop where
 kin:K.In base
 glob:base.Ns mainGlobals mg
 blt:∃mb,base.Ns builtinsNs mb/\∀x:Str,x ≠ "__name__" -> mb x=bootBuiltins x
 nolimit:base.NoLimit
structure Cx where
 prog:Program
 w:World
 K:W.Frag
 mg:Str->Option Value
 base:Heap
 A:Around
 N:List Str
 s₀:Shared
 H₀:Hp
 env:Env
 outer:List Env
 stack:List Env
 ex:List Addr
 fn:Str->Bool
 calm:Bool
 pn:List (Addr×Obj)
 xe:EX
noncomputable def frs (l:List Env):List Addr:=l.filterMap (·.frame)
noncomputable abbrev Cx.fs (X:Cx):List Addr:=frs X.outer
noncomputable def Vis (sc:Scope)(x:Str):Prop:=sc.names.lookup x=some .local\/sc.names.lookup x=some .cell\/sc.names.lookup x=some .free
noncomputable def Loc (sc:Scope)(x:Str):Prop:=sc.names.lookup x=some .local\/sc.names.lookup x=some .cell
noncomputable def Zgw (env:Env)(h:Heap)(m:Str->Option Value)(x:Str)(u:Value):Prop:=
 (env.kindOf x=some .local/\m x=some u)\/((env.kindOf x=some .cell\/env.kindOf x=some .free)/\∃c,env.cells.lookup x=some c/\h.IsCell c (some u))
structure Cx.Ok (X:Cx):Prop where
 mod:Mod X.K X.mg X.base
 kind:X.env.scope.kind=.function
 glob:X.env.globals=mainGlobals
 blt:X.env.builtins=builtinsNs
 above:X.s₀.heap.objs.size<=X.env.locals
 inj:∀x y c,X.env.cells.lookup x=some c->X.env.cells.lookup y=some c->x=y
 has:∀x,(X.env.kindOf x=some .cell\/X.env.kindOf x=some .free)->∃c,X.env.cells.lookup x=some c
 cab:∀x c,X.fn x=true->X.env.cells.lookup x=some c->X.s₀.heap.objs.size<=c
 hd:X.calm=true->X.A.handled=none
 frames:X.A.frames=some X.stack
 stk:X.stack=X.outer\/(X.stack=X.env::X.outer/\X.env.frame=some X.env.locals)
 exf:∀b∈X.ex,b≠X.env.locals/\∀x c,X.env.cells.lookup x=some c->c≠b
 bs:∀b o,X.base.get? b=some o->X.s₀.heap.get? b=some o/\X.H₀ b=none
 bsz:X.base.objs.size<=X.s₀.heap.objs.size
 noex:∀b o,X.base.get? b=some o->b ∉ X.ex
 exfs:∀b∈X.ex,b ∉ X.fs
 funs:X.s₀.heap.FunFrames X.base X.outer
 frf:∀b∈X.fs,X.H₀ b=none
structure Inv (X:Cx)(qQ:List (Addr×Obj))(σ:List (Option V))(H:Hp)(s:Shared):Prop where
 ok:X.Ok
 os:s.os=X.s₀.os
 bare:AllBare s.gens
 base:Un X.fs X.ex X.H₀ H X.s₀.heap s.heap
 loc:∃m,s.heap.Ns X.env.locals m/\∀(i:Nat)(x:Str)(v:V),X.N[i]?=some x->σ[i]?=some (some v)->Vis X.env.scope x->∃u,RelV v u/\Zgw X.env s.heap m x u
 cell:∀x c,X.env.cells.lookup x=some c->∃v,s.heap.IsCell c v
 free:H X.env.locals=none
 freeC:∀x c,X.env.cells.lookup x=some c->H c=none
 pin:∀p∈X.pn++qQ,s.heap.get? p.1=some p.2/\H p.1=none/\p.1≠X.env.locals/\p.1 ∉ X.fs/\∀v,p.2.data≠.cell v
 hok:HOk X.prog X.w H s.heap
 len:σ.length=X.N.length
section
variable {X:Cx}{qQ:List (Addr×Obj)}{σ:List (Option V)}{H H':Hp}{s:Shared}{h':Heap}
theorem Cx.Ok.nofr (ok:X.Ok){b:Addr}{o:Obj}(e:X.base.get? b=some o):b ∉ X.fs:=λhb=>by
 have:=(ok.funs.mem hb).1;rw [e] at this;cases this
theorem Inv.bs (I:Inv X qQ σ H s):∀b o,X.base.get? b=some o->s.heap.get? b=some o/\H b=none:=λb o e=>
 ⟨I.base.keep b o (I.ok.bs b o e).1 (I.ok.bs b o e).2 (I.ok.nofr e) (I.ok.noex b o e),I.base.free b o (I.ok.bs b o e).1 (I.ok.bs b o e).2 (I.ok.noex b o e)⟩
theorem Inv.bk (I:Inv X qQ σ H s):∀b o,X.base.get? b=some o->s.heap.get? b=some o:=λb o e=>(I.bs b o e).1
theorem Inv.mod (I:Inv X qQ σ H s):Mod X.K X.mg X.base:=I.ok.mod
theorem Inv.kIn (I:Inv X qQ σ H s):X.K.In s.heap:=I.ok.mod.kin.keeps I.bk
theorem Inv.lt (I:Inv X qQ σ H s):X.env.locals<s.heap.objs.size:=let ⟨_,hn,_⟩:=I.loc;hn.lt
theorem Inv.sz (I:Inv X qQ σ H s):X.s₀.heap.objs.size<=s.heap.objs.size:=Ybr I.ok.above (Nat.le_of_lt I.lt)
theorem Inv.nofs (I:Inv X qQ σ H s){a:Addr}(h:s.heap.objs.size<=a):a ∉ X.fs:=λhb=>by
 obtain ⟨_,o,ho,_⟩:=I.ok.funs.mem hb;exact absurd (Ybi (Yah ho) (Ybr I.sz h)) (Ycb _)
theorem Inv.cne (I:Inv X qQ σ H s):∀x c,X.env.cells.lookup x=some c->c≠X.env.locals:=λx c e z=>by
 obtain ⟨v,o,ho,hd⟩:=I.cell x c e;obtain ⟨m,⟨o',es,ep,ho',hd',_⟩,_⟩:=I.loc;rw [z,ho'] at ho;cases ho;rw [hd'] at hd;cases hd
theorem Inv.funs (I:Inv X qQ σ H s):s.heap.FunFrames X.base X.outer:=by
 have all:∀(l:List Env),(∀b∈frs l,b∈X.fs)->X.s₀.heap.FunFrames X.base l->s.heap.FunFrames X.base l:=by
  intro l
  induction l with
  | nil=>intro _ _;trivial
  | cons env r ih=>
   intro hs hl;obtain ⟨hk,⟨L,o,hf,hn,ho,hd⟩,hr⟩:=hl;have hL:L∈X.fs:=hs L (by unfold frs;rw [List.filterMap_cons,hf];exact Ybe);obtain ⟨sl,e⟩:=I.base.slot L o ho (I.ok.frf L hL) hL λz=>I.ok.exfs L z hL;exact ⟨hk,⟨L,_,hf,hn,e,hd⟩,ih (λb hb=>hs b (by unfold frs;rw [List.filterMap_cons,hf];exact Ybb _ hb)) hr⟩
 exact all X.outer (λ_ hb=>hb) I.ok.funs
theorem Inv.stack (I:Inv X qQ σ H s):s.heap.FunFrames X.base X.stack:=by
 rcases I.ok.stk with e | ⟨e,hf⟩
 ·rw [e];exact I.funs
 ·rw [e];obtain ⟨m,hn,_⟩:=I.loc;refine .cons (by rw [I.ok.kind];decide) hf hn ?_ I.funs;exact Heap.get?_none_of_le (Ybr I.ok.bsz I.ok.above)
theorem Inv.stkSub (I:Inv X qQ σ H s):∀b∈frs X.stack,b∈X.env.locals::X.fs:=λb hb=>by
 rcases I.ok.stk with e | ⟨e,hf⟩
 ·rw [e] at hb;exact Ybb _ hb
 ·rw [e] at hb;unfold frs at hb;rw [List.filterMap_cons,hf] at hb;exact hb
theorem Inv.stkFree (I:Inv X qQ σ H s):∀b∈frs X.stack,H b=none:=λb hb=>by
 rcases Yat.mp (I.stkSub b hb) with e | hb
 ·rw [e];exact I.free
 ·obtain ⟨_,o,ho,_⟩:=I.ok.funs.mem hb;exact I.base.free b o ho (I.ok.frf b hb) λz=>I.ok.exfs b z hb
theorem Inv.step {g':Array GenState}{t':Nat}{d':Drawn}{ch:List Addr}(I:Inv X qQ σ H s)(hch:∀b∈ch,(b∈X.ex\/X.s₀.heap.objs.size<=b)/\b≠X.env.locals/\(∀x c,X.env.cells.lookup x=some c->c≠b)/\∀p∈X.pn++qQ,p.1≠b)(keep:∀b o,b≠X.env.locals->b ∉ X.fs->b ∉ ch->s.heap.get? b=some o->H b=none->h'.get? b=some o)(slot:∀b o,b≠X.env.locals->b∈X.fs->b ∉ ch->s.heap.get? b=some o->H b=none->∃sl,h'.get? b=some { o with slots:=sl })(free:∀b o,b ∉ ch->s.heap.get? b=some o->H b=none->H' b=none)(there:∀b o,b ∉ ch->s.heap.get? b=some o->∃o',h'.get? b=some o')(tups:∀b xs,H b=some (.tup xs)->H' b=some (.tup xs))(frzs:∀b o u,H b=some (.frz o u)->H' b=some (.frz o u))(tbls:∀b ps,H b=some (.tbl ps)->∃more,H' b=some (.tbl (ps++more)))(ns:∀m,s.heap.Ns X.env.locals m->h'.Ns X.env.locals m)(hok:HOk X.prog X.w H' h')(hg:AllBare g') :
  Inv X qQ σ H' { s with heap:=h',gens:=g',drawn:=d',toks:=t' }:=by
 have neL:∀b o,X.s₀.heap.get? b=some o->b≠X.env.locals:=λb o e=>Yam (Ybi (Yah e) I.ok.above);have neC:∀b o,X.s₀.heap.get? b=some o->b ∉ X.ex->b ∉ ch:=λb o e hx hb=>by
  rcases (hch b hb).1 with z | z
  ·exact hx z
  ·exact absurd (Ybi (Yah e) z) (Ycb _)
 have cellK:∀x c,X.env.cells.lookup x=some c->∀v,s.heap.IsCell c v->h'.IsCell c v:=λx c e v ⟨o,ho,hd⟩=>by
  have nch:c ∉ ch:=λz=>(hch c z).2.2.1 x c e rfl;by_cases hc:c∈X.fs
  ·obtain ⟨sl,q⟩:=slot c o (I.cne x c e) hc nch ho (I.freeC x c e);exact ⟨_,q,hd⟩
  ·exact ⟨o,keep c o (I.cne x c e) hc nch ho (I.freeC x c e),hd⟩
 refine ⟨I.ok,I.os,hg,⟨λb o e n hb hx=>?_,λb o e n hb hx=>?_,λb o e n hx=>?_,λb o e hx=>?_,λb xs e=>tups b xs (I.base.tups b xs e),λb o xs e=>frzs b o xs (I.base.frzs b o xs e),λb ps e=>?_⟩,?_,λx c e=>?_,?_,λx c e=>?_,λp hp=>?_,hok,I.len⟩
 ·exact keep b o (neL b o e) hb (neC b o e hx) (I.base.keep b o e n hb hx) (I.base.free b o e n hx)
 ·obtain ⟨sl,e1⟩:=I.base.slot b o e n hb hx;obtain ⟨sl',e2⟩:=slot b _ (neL b o e) hb (neC b o e hx) e1 (I.base.free b o e n hx);exact ⟨sl',e2⟩
 ·obtain ⟨o',e1⟩:=I.base.there b o e hx;exact free b o' (neC b o e hx) e1 (I.base.free b o e n hx)
 ·obtain ⟨o',e1⟩:=I.base.there b o e hx;exact there b o' (neC b o e hx) e1
 ·obtain ⟨m1,e1⟩:=I.base.tbls b ps e;obtain ⟨m2,e2⟩:=tbls b _ e1;exact ⟨m1++m2,by rw [e2,Array.append_assoc]⟩
 ·obtain ⟨m,hn,hl⟩:=I.loc;refine ⟨m,ns m hn,λi x v e1 e2 e3=>?_⟩;obtain ⟨u,r,l⟩:=hl i x v e1 e2 e3;refine ⟨u,r,?_⟩;rcases l with l | ⟨k,c,e,z⟩
  ·exact .inl l
  ·exact .inr ⟨k,c,e,cellK x c e _ z⟩
 ·obtain ⟨v,z⟩:=I.cell x c e;exact ⟨v,cellK x c e v z⟩
 ·obtain ⟨m,⟨o,_,_,ho,_⟩,_⟩:=I.loc;exact free _ o (λz=>(hch _ z).2.1 rfl) ho I.free
 ·obtain ⟨v,o,ho,hd⟩:=I.cell x c e;exact free c o (λz=>(hch c z).2.2.1 x c e rfl) ho (I.freeC x c e)
 ·obtain ⟨e,n,ne,nf,d⟩:=I.pin p hp;have nch:p.1 ∉ ch:=λz=>(hch p.1 z).2.2.2 p hp rfl;exact ⟨keep p.1 p.2 ne nf nch e n,free p.1 p.2 nch e n,ne,nf,d⟩
theorem Inv.un {t':Nat}(I:Inv X qQ σ H s)(u:Un X.fs [] H H' s.heap h')(hok:HOk X.prog X.w H' h'):Inv X qQ σ H' { s with heap:=h',toks:=t' }:=by
 obtain ⟨m,⟨o,es,ep,ho,r⟩,_⟩:=id I.loc;obtain ⟨sl,hL⟩:=u.any ho I.free (by simp);exact I.step (g':=s.gens) (d':=s.drawn) (ch:=[]) (λ_ z=>nomatch z) (λb o _ hb _ e n=>u.keep b o e n hb (by simp)) (λb o _ hb _ e n=>u.slot b o e n hb (by simp)) (λb o _ e n=>u.free b o e n (by simp)) (λb o _ e=>u.there b o e (by simp)) u.tups u.frzs u.tbls (λm' hm=>by
  obtain ⟨o',es',ep',ho',r'⟩:=hm;rw [ho] at ho';cases ho';exact ⟨_,es',ep',hL,r'⟩) hok I.bare
theorem Inv.call {g':Array GenState}{t':Nat}{d':Drawn}{ch:List Addr}(I:Inv X qQ σ H s)(u:Un (frs X.stack) ch H H' s.heap h')(hok:HOk X.prog X.w H' h')(hg:AllBare g')(hch:∀b∈ch,(b∈X.ex\/X.s₀.heap.objs.size<=b)/\b≠X.env.locals/\(∀x c,X.env.cells.lookup x=some c->c≠b)/\∀p∈X.pn++qQ,p.1≠b) :
  Inv X qQ σ H' { s with heap:=h',gens:=g',drawn:=d',toks:=t' }:=by
 obtain ⟨m,⟨o,es,ep,ho,r⟩,_⟩:=id I.loc;obtain ⟨sl,hL⟩:=u.any ho I.free λz=>(hch _ z).2.1 rfl;exact I.step (ch:=ch) hch (λb o hL hb hc e n=>u.keep b o e n (λz=>(Yat.mp (I.stkSub b z)).elim hL hb) hc) (λb o _ _ hc e n=>u.any e n hc) (λb o hc e n=>u.free b o e n hc) (λb o hc e=>u.there b o e hc) u.tups u.frzs u.tbls (λm' hm=>by
  obtain ⟨o',es',ep',ho',r'⟩:=hm;rw [ho] at ho';cases ho';exact ⟨_,es',ep',hL,r'⟩) hok hg
theorem Inv.turned {t':Nat}{it:Addr}(I:Inv X qQ σ H s)(k:∀b o,b≠it->s.heap.get? b=some o->h'.get? b=some o)(hn:H it=none)(hL:it≠X.env.locals)(h1:it∈X.ex\/X.s₀.heap.objs.size<=it)(h2:∀x c,X.env.cells.lookup x=some c->c≠it)(h3:∀p∈X.pn++qQ,p.1≠it):Inv X qQ σ H { s with heap:=h',toks:=t' }:=by
 have nit:∀b u,H b=some u->b≠it:=λb u e z=>by rw [z,hn] at e;cases e
 refine I.step (g':=s.gens) (d':=s.drawn) (ch:=[it]) (λb hb=>?_) (λb o _ _ hc e _=>k b o (λz=>hc (by simp [z])) e) (λb o _ _ hc e _=>⟨o.slots,k b o (λz=>hc (by simp [z])) e⟩) (λ_ _ _ _ n=>n)
  (λb o hc e=>⟨o,k b o (λz=>hc (by simp [z])) e⟩) (λ_ _ e=>e) (λ_ _ _ e=>e) (λb ps e=>⟨#[],by rw [e];simp⟩) (λm hm=>?_) (λb u e=>?_) I.bare
 ·have e:b=it:=by simpa using hb
  subst e;exact ⟨h1,hL,h2,h3⟩
 ·obtain ⟨o,es,ep,ho,r⟩:=hm;exact ⟨o,es,ep,k _ o (Ne.symm hL) ho,r⟩
 ·refine (I.hok b u e).stay (λc v hc q=>k c v ?_ q) (λ_ q=>q) λ_ _ q=>q;rcases hc with z | z
  ·rw [z];exact nit b u e
  ·exact nit c _ z
theorem Inv.tok (I:Inv X qQ σ H s)(t:Nat):Inv X qQ σ H { s with toks:=t }:=I.un (h':=s.heap) (t':=t) Un.refl I.hok
theorem Inv.kept {t':Nat}(I:Inv X qQ σ H s)(k:∀b u,s.heap.get? b=some u->h'.get? b=some u):Inv X qQ σ H { s with heap:=h',toks:=t' }:=I.un (Un.kept k) (I.hok.kept k)
theorem Inv.laid {a:Addr}{o:HO}{t':Nat}(I:Inv X qQ σ H s)(k:∀b u,s.heap.get? b=some u->h'.get? b=some u)(hp:s.heap.objs.size<=a)(new:ObjOk X.prog X.w (upd H a o) h' a o) :
  Inv X qQ σ (upd H a o) { s with heap:=h',toks:=t' }:=I.un (Un.laid k hp (I.hok.fresh hp)) (I.hok.laid k hp new)
theorem Inv.write {x e:Addr}{o:HO}{t':Nat}(I:Inv X qQ σ H s)(mu:Mut (H x))(he:e=x\/H e=some (.own x))(k:∀b u,b≠e->s.heap.get? b=some u->h'.get? b=some u)(heo:∃u,h'.get? e=some u)(new:ObjOk X.prog X.w (upd H x o) h' x o):Inv X qQ σ (upd H x o) { s with heap:=h',toks:=t' }:=I.un (Un.write mu he k heo) (I.hok.write mu he k heo new)
theorem Inv.weak {σ':List (Option V)}(I:Inv X qQ σ H s)(hl:σ'.length=σ.length)(w:∀(i:Nat) v,σ'[i]?=some (some v)->σ[i]?=some (some v)):Inv X qQ σ' H s:=
 ⟨I.ok,I.os,I.bare,I.base,let ⟨m,hn,hl'⟩:=I.loc;⟨m,hn,λi x v e1 e2 e3=>hl' i x v e1 (w i v e2) e3⟩,I.cell,I.free,I.freeC,I.pin,I.hok,hl.trans I.len⟩
theorem Inv.pins_of {pins':List (Addr×Obj)}(I:Inv X qQ σ H s)(h:∀p∈pins',s.heap.get? p.1=some p.2/\H p.1=none/\p.1≠X.env.locals/\p.1 ∉ X.fs/\∀v,p.2.data≠.cell v):Inv X pins' σ H s:=
 ⟨I.ok,I.os,I.bare,I.base,I.loc,I.cell,I.free,I.freeC,λp hp=>(Yal.mp hp).elim (λz=>I.pin p (Ydu _ z)) (h p),I.hok,I.len⟩
theorem Xb {N:List Str}(hN:N.Nodup){i j:Nat}{x:Str}(a:N[i]?=some x)(b:N[j]?=some x):i=j:=by
 obtain ⟨h1,e1⟩:=Yau.mp a;obtain ⟨h2,e2⟩:=Yau.mp b;exact (List.getElem_inj hN).mp (e1.trans e2.symm)
theorem VU {M:Model}{A:Around}{E:EX}{i:Nat}{x:Str}{v:V}{u:Value}{Q:Unit->Shared->Prop}(I:Inv X qQ σ H s)(hN:X.N.Nodup)(hi:X.N[i]?=some x)(hx:Loc X.env.scope x)(r:RelV v u)(h:∀s',Inv X qQ (σ.set i (some v)) H s'->(∃a,Heap.SameBut a s.heap s'.heap/\(a=X.env.locals\/X.env.cells.lookup x=some a))->Q () s')(hf:X.fn x=true\/X.env.scope.names.lookup x=some .local:=by first | exact .inl rfl | exact .inr rfl | assumption):wpAny M A (storeName X.env x u) Q E s:=by
 obtain ⟨m,hn,hl⟩:=id I.loc;have hcls:(X.env.scope.kind == .class || (X.env.scope.kind == .module && X.env.locals != X.env.globals))=false:=by rw [I.ok.kind];rfl
 have hiσ:i<σ.length:=by rw [I.len];exact (Yau.mp hi).1
 have cne:=I.cne;have tracked:∀{a:Addr}{h':Heap},(∃o,s.heap.get? a=some o/\H a=none)->Heap.SameBut a s.heap h'->HOk X.prog X.w H h':=λ{a h'} ha hs b ob e=>by
  obtain ⟨_,_,hfree⟩:=ha;refine (I.hok b ob e).stay (λc w' hc q=>(hs.2 c ?_).trans q) (λ_ q=>q) λ_ _ q=>q;rintro rfl;rcases hc with rfl | hc
  ·rw [hfree] at e;cases e
  ·rw [hfree] at hc;cases hc
 rcases hx with hk | hk
 ·refine wpAny_storeName_local hk hn (λh' hn' hs=>?_) hcls;obtain ⟨oL,_,_,hoL,_⟩:=id hn;refine h _ ⟨I.ok,I.os,I.bare,⟨λb o e n hb hx=>?_,λb o e n hb hx=>?_,I.base.free,λb o e hx=>?_,I.base.tups,I.base.frzs,I.base.tbls⟩,⟨_,hn',λj y v' e1 e2 e3=>?_⟩,λy c e=>?_,I.free,I.freeC,λp hp=>?_,tracked ⟨oL,hoL,I.free⟩ hs,by simpa using I.len⟩ ⟨_,hs,.inl rfl⟩
  ·exact (hs.2 b (Yam (Ybi (Yah e) I.ok.above))).trans (I.base.keep b o e n hb hx)
  ·obtain ⟨sl,e1⟩:=I.base.slot b o e n hb hx;exact ⟨sl,(hs.2 b (Yam (Ybi (Yah e) I.ok.above))).trans e1⟩
  ·obtain ⟨o',e1⟩:=I.base.there b o e hx;exact ⟨o',(hs.2 b (Yam (Ybi (Yah e) I.ok.above))).trans e1⟩
  ·by_cases hj:j=i
   ·subst hj;rw [hi] at e1;cases e1;rw [List.getElem?_set_self hiσ] at e2;cases e2;exact ⟨u,r,.inl ⟨hk,by simp⟩⟩
   ·rw [List.getElem?_set_ne (Ne.symm hj)] at e2;obtain ⟨u',r',q⟩:=hl j y v' e1 e2 e3;refine ⟨u',r',?_⟩;rcases q with ⟨k,e⟩ | ⟨k,c,e,z⟩
    ·refine .inl ⟨k,?_⟩;have:y≠x:=λe=>hj (Xb hN e1 (e▸hi));simp [this,e]
    ·exact .inr ⟨k,c,e,z.sameBut hs (cne y c e)⟩
  ·obtain ⟨w',z⟩:=I.cell y c e;exact ⟨w',z.sameBut hs (cne y c e)⟩
  ·obtain ⟨e,n,ne,nf,d⟩:=I.pin p hp;exact ⟨(hs.2 p.1 ne).trans e,n,ne,nf,d⟩
 ·have hfn:X.fn x=true:=by
   rcases hf with z | z
   ·exact z
   ·rw [z] at hk;cases hk
  obtain ⟨c,hc⟩:=I.ok.has x (.inl hk);obtain ⟨w',z⟩:=I.cell x c hc;refine wpAny_storeName_cell I.ok.kind hk hc z (λh' hc' hs=>?_);obtain ⟨oc,hoc,hocd⟩:=id z;refine h { s with heap:=h' } ⟨I.ok,I.os,I.bare,⟨λb o e n hb hx=>?_,λb o e n hb hx=>?_,I.base.free,λb o e hx=>?_,I.base.tups,I.base.frzs,I.base.tbls⟩,⟨m,hn.sameBut hs (Ne.symm (cne x c hc)),λj y v' e1 e2 e3=>?_⟩,λy c' e=>?_,I.free,I.freeC,λp hp=>?_,tracked ⟨oc,hoc,I.freeC x c hc⟩ hs,by simpa using I.len⟩ ⟨c,hs,.inr hc⟩
  ·exact (hs.2 b (Yam (Ybi (Yah e) (I.ok.cab x c hfn hc)))).trans (I.base.keep b o e n hb hx)
  ·obtain ⟨sl,e1⟩:=I.base.slot b o e n hb hx;exact ⟨sl,(hs.2 b (Yam (Ybi (Yah e) (I.ok.cab x c hfn hc)))).trans e1⟩
  ·obtain ⟨o',e1⟩:=I.base.there b o e hx;exact ⟨o',(hs.2 b (Yam (Ybi (Yah e) (I.ok.cab x c hfn hc)))).trans e1⟩
  ·by_cases hj:j=i
   ·subst hj;rw [hi] at e1;cases e1;rw [List.getElem?_set_self hiσ] at e2;cases e2;exact ⟨u,r,.inr ⟨.inl hk,c,hc,hc'⟩⟩
   ·rw [List.getElem?_set_ne (Ne.symm hj)] at e2;obtain ⟨u',r',q⟩:=hl j y v' e1 e2 e3;refine ⟨u',r',?_⟩;rcases q with q | ⟨k,c',e,z'⟩
    ·exact .inl q
    ·refine .inr ⟨k,c',e,z'.sameBut hs ?_⟩;rintro rfl;exact hj (Xb hN e1 (I.ok.inj _ _ _ e hc▸hi))
  ·by_cases hcc:c'=c
   ·subst hcc;exact ⟨_,hc'⟩
   ·obtain ⟨w2,z2⟩:=I.cell y c' e;exact ⟨w2,z2.sameBut hs hcc⟩
  ·obtain ⟨e,n,ne,nf,d⟩:=I.pin p hp;refine ⟨(hs.2 p.1 ?_).trans e,n,ne,nf,d⟩;intro q;rw [q,hoc] at e;have q':oc=p.2:=Ybl e;exact d w' (by rw [<-q'];exact hocd)
theorem Xc {M:Model}{A:Around}{E:EX}{i:Nat}{x:Str}{v:V}{u:Value}{Q:Unit->Shared->Prop}(I:Inv X qQ σ H s)(hN:X.N.Nodup)(hi:X.N[i]?=some x)(hx:Loc X.env.scope x)(r:RelV v u)(h:∀s',Inv X qQ (σ.set i (some v)) H s'->Q () s')(hf:X.fn x=true\/X.env.scope.names.lookup x=some .local:=by first | exact .inl rfl | exact .inr rfl | assumption):wpAny M A (storeName X.env x u) Q E s:=
 VU I hN hi hx r (λs' I' _=>h s' I') hf
theorem Inv.call' {s':Shared}{ch:List Addr}(I:Inv X qQ σ H s)(ho:s'.os=s.os)(u:Un (frs X.stack) ch H H' s.heap s'.heap)(hok:HOk X.prog X.w H' s'.heap)(hg:AllBare s'.gens)(hch:∀b∈ch,(b∈X.ex\/X.s₀.heap.objs.size<=b)/\b≠X.env.locals/\(∀x c,X.env.cells.lookup x=some c->c≠b)/\∀p∈X.pn++qQ,p.1≠b):Inv X qQ σ H' s':=by
 obtain ⟨h',g',d',t',o'⟩:=s';have e:o'=s.os:=ho;subst e;exact I.call (g':=g') (t':=t') (d':=d') u hok hg hch
end
noncomputable abbrev XK:=Value->Option Addr->Hp->Prop
noncomputable abbrev St:=List (Option V)
noncomputable abbrev VK:=V->Hp->Prop
noncomputable abbrev TE:=St->Hp->VK->Prop
noncomputable abbrev TT:=St->Hp->(Bool->Hp->Prop)->Prop
noncomputable abbrev TA:=St->Hp->(List V->Hp->Prop)->Prop
structure ZaD where
 nx:St->Hp->Prop
 rt:VK
 bk:St->Hp->Prop:=λ_ _=>False
 ct:St->Hp->Prop:=λ_ _=>False
noncomputable abbrev TS:=ZaD->St->Hp->Prop
noncomputable def EP (X:Cx)(qQ:List (Addr×Obj))(σ:St)(Q:VK)(u:Value)(s':Shared):Prop:=∃v H',Inv X qQ σ H' s'/\RelV v u/\Q v H'
noncomputable def TP (X:Cx)(qQ:List (Addr×Obj))(σ:St)(Q:Bool->Hp->Prop)(b:Bool)(s':Shared):Prop:=∃H',Inv X qQ σ H' s'/\Q b H'
noncomputable def AP (X:Cx)(qQ:List (Addr×Obj))(σ:St)(Q:List V->Hp->Prop)(us:List Value)(s':Shared):Prop:=∃vs H',Inv X qQ σ H' s'/\Vals vs us/\Q vs H'
noncomputable def SP (X:Cx)(qQ:List (Addr×Obj))(D:ZaD)(f:Flow)(s':Shared):Prop:=
 match f with
 | .next=>∃ σ' H',Inv X qQ σ' H' s'/\D.nx σ' H'
 | .brk=>∃ σ' H',Inv X qQ σ' H' s'/\D.bk σ' H'
 | .cont=>∃ σ' H',Inv X qQ σ' H' s'/\D.ct σ' H'
 | .ret u=>∃v σ' H',Inv X qQ σ' H' s'/\RelV v u/\D.rt v H'
noncomputable def PE (X:Cx)(e:Expr)(t:TE):Prop:=
 ∀(qQ:List (Addr×Obj))(s:Shared)(σ:St)(H:Hp)(Q:VK),Inv X qQ σ H s->t σ H Q->wpAny (model X.prog X.w) X.A (eval e X.env) (EP X qQ σ Q) X.xe s
noncomputable def PT (X:Cx)(e:Expr)(t:TT):Prop:=
 ∀(qQ:List (Addr×Obj))(s:Shared)(σ:St)(H:Hp)(Q:Bool->Hp->Prop),Inv X qQ σ H s->t σ H Q->wpAny (model X.prog X.w) X.A (isTrue e X.env (eval e X.env)) (TP X qQ σ Q) X.xe s
noncomputable def PW (X:Cx)(e:Expr)(t:TT):Prop:=
 ∀(whole:Sem Value)(qQ:List (Addr×Obj))(s:Shared)(σ:St)(H:Hp)(Q:Bool->Hp->Prop),Inv X qQ σ H s->t σ H Q->wpAny (model X.prog X.w) X.A (isTrue e X.env whole) (TP X qQ σ Q) X.xe s
theorem PW.pt {X:Cx}{e:Expr}{t:TT}(h:PW X e t):PT X e t:=h _
noncomputable def PA (X:Cx)(es:List Expr)(t:TA):Prop:=
 ∀(pos:Pos)(qQ:List (Addr×Obj))(s:Shared)(σ:St)(H:Hp)(Q:List V->Hp->Prop),Inv X qQ σ H s->t σ H Q->wpAny (model X.prog X.w) X.A (spliced (backTo pos (starEach es X.env))) (AP X qQ σ Q) X.xe s
noncomputable def PS (X:Cx)(st:Stmt)(t:TS):Prop:=
 ∀(qQ:List (Addr×Obj))(s:Shared)(σ:St)(H:Hp)(D:ZaD),Inv X qQ σ H s->t D σ H->wpAny (model X.prog X.w) X.A (exec st X.env) (SP X qQ D) X.xe s
noncomputable def PSs (X:Cx)(st:List Stmt)(t:TS):Prop:=
 ∀(qQ:List (Addr×Obj))(s:Shared)(σ:St)(H:Hp)(D:ZaD),Inv X qQ σ H s->t D σ H->wpAny (model X.prog X.w) X.A (execs st X.env) (SP X qQ D) X.xe s
theorem thn {α:Type}{t:Sem α}{Q Q':α->Shared->Prop}{M:Model}{A:Around}{E:EX}{s:Shared}(h:wpAny M A t Q E s)(hQ:∀a s,Q a s->Q' a s):wpAny M A t Q' E s:=Ybm h hQ λ_ _ x=>x
section
variable {X:Cx}
noncomputable def Zfm (i:Nat):TE:=λσ H Q=>∃v,σ[i]?=some (some v)/\Q v H
noncomputable def tC (v:V):TE:=λ_ H Q=>Q v H
theorem Zds {i:Nat}{x:Str}{pos:Pos}(hN:X.N[i]?=some x)(hv:Vis X.env.scope x)(hd:(x == ("__debug__" : Str))=false:=by decide)(hcd:(x == ("__classdict__" : Str))=false:=by decide):PE X (.Name x pos) (Zfm i):=by
 intro qQ s σ H Q I h;obtain ⟨v,e,h⟩:=h;obtain ⟨m,hn,hl⟩:=I.loc;obtain ⟨u,r,l⟩:=hl i x v hN e hv;have fin:EP X qQ σ Q u s:=⟨v,H,I,r,h⟩;rcases l with ⟨hk,hm⟩ | ⟨hk,c,hc,jX⟩
 ·exact wpAny_Name (wpAny_loadName_local I.ok.kind hk hn hm fin) hd
 ·rcases hk with hk | hk
  ·exact wpAny_Name (wpAny_loadName_cell I.ok.kind hk hc jX fin) hd
  ·exact wpAny_Name (wpAny_loadName_free I.ok.kind hk hc jX fin hcd) hd
theorem Gd {i j pos}:PE X (.Constant (.int i) j pos) (tC (.int i)):=λ_ _ _ H _ I h=>wpAny_Constant_int ⟨.int i,H,I.tok _,⟨_,rfl⟩,h⟩
theorem OO {b j pos}:PE X (.Constant (.bool b) j pos) (tC (.bl b)):=λ_ _ _ H _ I h=>Constant_bool ⟨.bl b,H,I,rfl,h⟩
theorem Zdt {j pos}:PE X (.Constant .none j pos) (tC .non):=λ_ _ _ H _ I h=>Constant_none ⟨.non,H,I,rfl,h⟩
theorem Zdu {x j pos}:PE X (.Constant (.str x) j pos) (tC (.str x)):=λ_ _ _ H _ I h=>Calls.Constant_str ⟨.str x,H,I.tok _,⟨_,rfl⟩,h⟩
noncomputable def Gl (X:Cx)(x:Str):Prop:=X.env.kindOf x=some .globalImplicit
theorem Vb {E:EX}{qQ:List (Addr×Obj)}{s:Shared}{σ:St}{H:Hp}{x:Str}{u:Value}{pos:Pos}{Q:EX}(I:Inv X qQ σ H s)(hg:Gl X x)(hm:X.mg x=some u)(h:Q u s)(hd:(x == ("__debug__" : Str))=false:=by decide):wpAny (model X.prog X.w) X.A (eval (.Name x pos) X.env) Q E s:=
 Calls.Name_function_global I.ok.kind hg (Calls.loadGlobal_global (by rw [I.ok.glob];exact I.mod.glob.keeps I.bk) hm h) hd
theorem Op {E:EX}{qQ:List (Addr×Obj)}{s:Shared}{σ:St}{H:Hp}{x:Str}{u:Value}{pos:Pos}{Q:EX}(I:Inv X qQ σ H s)(hg:Gl X x)(hm:X.mg x=none)(hv:bootBuiltins x=some u)(h:Q u s)(hn:x ≠ "__name__" := by decide)(hd:(x == ("__debug__" : Str))=false:=by decide):wpAny (model X.prog X.w) X.A (eval (.Name x pos) X.env) Q E s:=by
 obtain ⟨mb,h1,h2⟩:=I.mod.blt;exact Calls.Name_function_global I.ok.kind hg (Calls.loadGlobal_builtin (by rw [I.ok.glob];exact I.mod.glob.keeps I.bk) hm (by rw [I.ok.blt];exact h1.keeps I.bk) ((h2 x hn).trans hv) h) hd
theorem YV {x:Str}{v:V}{u:Value}{pos:Pos}(hg:Gl X x)(hm:X.mg x=some u)(r:RelV v u)(hd:(x == ("__debug__" : Str))=false:=by decide):PE X (.Name x pos) (tC v):=
 λ_ _ _ H _ I h=>Vb I hg hm ⟨v,H,I,r,h⟩ hd
theorem Zcl {x:Str}{v:V}{u:Value}{pos:Pos}(hg:Gl X x)(hm:X.mg x=none)(hv:bootBuiltins x=some u)(r:RelV v u)(hn:x ≠ "__name__" := by decide)(hd:(x == ("__debug__" : Str))=false:=by decide):PE X (.Name x pos) (tC v):=
 λ_ _ _ H _ I h=>Op I hg hm hv ⟨v,H,I,r,h⟩ hn hd
variable {a b:Expr}{ta tb:TE}{pos:Pos}
noncomputable def PC (X:Cx)(op:CmpOp)(a b:Expr)(t:TE):Prop:=
 ∀(qQ:List (Addr×Obj))(s:Shared)(σ:St)(H:Hp)(Q:VK),Inv X qQ σ H s->t σ H Q ->
  wpAny (model X.prog X.w) X.A (eval a X.env) (λv s₁=>wpAny (model X.prog X.w) X.A (eval b X.env) (λu s₂=>wpAny (model X.prog X.w) X.A (compareOp op v u) (EP X qQ σ Q) X.xe s₂) X.xe s₁) X.xe s
noncomputable def tB (t:TE):TT:=λσ H Q=>t σ H λx H1=>∃c,x=.bl c/\Q c H1
theorem YW {op:CmpOp}{t:TE}(h:PC X op a b t)(h1:behindInMarks op b=false:=by first | exact nobehind _ (by decide) (by decide) | rfl):PT X (.Compare a [op] [b] pos) (tB t):=by
 intro qQ s σ H Q I hw;refine wpAny_isTrue_Compare1 (thn (h qQ s σ H _ I hw) λv s1 h1=>thn h1 λu s2 h2=>thn h2 λc s3 ⟨x,H1,I1,r1,q1⟩=>?_) h1;obtain ⟨d,rfl,q⟩:=q1;cases r1;exact Ydl ⟨H1,I1,q⟩
theorem VW {e:Expr}{t:TE}(h:PE X e t)(he:∀whole,isTrue e X.env whole=(do let v <- whole;standAt e.pos;holding [v] (truthy v)):=by intro _;rfl):PT X e (tB t):=by
 intro qQ s σ H Q I hw;refine isTrue_plain (thn (h qQ s σ H _ I hw) λv s1 ⟨x,H1,I1,r1,q1⟩=>?_) (he _);obtain ⟨d,rfl,q⟩:=q1;cases r1;exact Ydl ⟨H1,I1,q⟩
variable {tA tB':TT}{rest:List Expr}
noncomputable def Zgx (t u:TT):TT:=λσ H Q=>t σ H λc H1=>if c=true then u σ H1 Q else Q false H1
noncomputable def tOr (t u:TT):TT:=λσ H Q=>t σ H λc H1=>if c=true then Q true H1 else u σ H1 Q
noncomputable def Zgy (t:TT):TT:=λσ H Q=>t σ H λc H1=>Q (!c) H1
theorem OP (ha:PT X a tA):PW X (.BoolOp .And [a] pos) tA:=by
 intro wh qQ s σ H Q I h;refine isTrue_and (thn (ha qQ s σ H Q I h) λc s1 e=>?_);cases c with
 | true=>exact isTrue_and_nil e
 | false=>exact e
theorem Xd (ha:PT X a tA):PW X (.BoolOp .Or [a] pos) tA:=by
 intro wh qQ s σ H Q I h;refine isTrue_or (thn (ha qQ s σ H Q I h) λc s1 e=>?_);cases c with
 | false=>exact isTrue_or_nil e
 | true=>exact e
theorem UN (ha:PT X a tA)(hb:PW X (.BoolOp .And (b::rest) pos) tB'):PW X (.BoolOp .And (a::b::rest) pos) (Zgx tA tB'):=by
 intro wh qQ s σ H Q I h;refine isTrue_and (thn (ha qQ s σ H _ I h) λc s1 ⟨H1,I1,q1⟩=>?_);cases c with
 | true=>exact hb wh qQ s1 σ H1 Q I1 q1
 | false=>exact ⟨H1,I1,q1⟩
theorem ZaJ (ha:PT X a tA)(hb:PW X (.BoolOp .Or (b::rest) pos) tB'):PW X (.BoolOp .Or (a::b::rest) pos) (tOr tA tB'):=by
 intro wh qQ s σ H Q I h;refine isTrue_or (thn (ha qQ s σ H _ I h) λc s1 ⟨H1,I1,q1⟩=>?_);cases c with
 | true=>exact ⟨H1,I1,q1⟩
 | false=>exact hb wh qQ s1 σ H1 Q I1 q1
theorem YX (ha:PT X a tA):PT X (.UnaryOp .Not a pos) (Zgy tA):=by
 intro qQ s σ H Q I h;exact isTrue_not (ha qQ s σ H (λc H1=>Q (!c) H1) I h)
noncomputable def Zfn (ta tb:TE):TE:=λσ H Q=>ta σ H λx H1=>∃c,x=.bl c/\if c=true then tb σ H1 Q else Q (.bl false) H1
theorem Zdv {op}{t:TE}(h:PE X a t):PE X (.BoolOp op [a] pos) t:=λqQ s σ H Q I hw=>BoolOp_one (h qQ s σ H Q I hw)
theorem Zdw (ha:PE X a ta)(hb:PE X (.BoolOp .And (b::rest) pos) tb):PE X (.BoolOp .And (a::b::rest) pos) (Zfn ta tb):=by
 intro qQ s σ H Q I h;refine BoolOp_and (thn (ha qQ s σ H _ I h) λv s1 ⟨x,H1,I1,r1,q1⟩=>?_);obtain ⟨c,rfl,q1⟩:=q1;cases r1;refine Ydl ?_;cases c with
 | true=>exact hb qQ s1 σ H1 Q I1 q1
 | false=>exact ⟨.bl false,H1,I1,rfl,q1⟩
end
noncomputable def SqL (K:W.Frag)(H:Hp)(a:Addr)(xs:List V):Prop:=
 Rd H a (.lst xs) \/
  ∃(o:Obj)(its:Array Value)(n:Nat),K.lookup a=some o/\o.cls=.type "list" /\ o.dict=none/\o.data=.seq its n/\its.size<=sizeLine/\Vals xs its.toList
noncomputable def SqT (K:W.Frag)(H:Hp)(a:Addr)(xs:List V):Prop:=
 Rd H a (.tup xs) \/
  ∃(o:Obj)(its:Array Value)(n:Nat),K.lookup a=some o/\o.cls=.type "tuple" /\ o.data=.seq its n/\its.size<=sizeLine/\Vals xs its.toList
noncomputable def Zgz:Value->Option V
 | .none=>some .non
 | .bool b=>some (.bl b)
 | .int i _=>some (.int i)
 | .str x _=>some (.str x)
 | .bytes b _=>some (.byt b)
 | .float b _=>some (.flt b)
 | .ref a=>some (.ref a)
 | .type n=>some (.ty n)
 | _=>none
theorem RelV.abs {x:V}{u:Value}(r:RelV x u):Zgz u=some x:=by
 cases x with
 | non=>cases r;rfl
 | bl _=>cases r;rfl
 | int _=>obtain ⟨t,rfl⟩:=r;rfl
 | str _=>obtain ⟨t,rfl⟩:=r;rfl
 | byt _=>obtain ⟨t,rfl⟩:=r;rfl
 | flt _=>obtain ⟨t,rfl⟩:=r;rfl
 | ref _=>cases r;rfl
 | ty _=>cases r;rfl
theorem RelV.inj {x y:V}{u:Value}(r:RelV x u)(q:RelV y u):x=y:=Ybl (r.abs.symm.trans q.abs)
theorem Vals.inj:∀{xs ys:List V}{us:List Value},Vals xs us->Vals ys us->xs=ys
 | _,_,_,.nil,.nil=>rfl
 | _,_,_,.cons r t,.cons r' t'=>by rw [r.inj r',Vals.inj t t']
section
variable {X:Cx}{qQ:List (Addr×Obj)}{σ:St}{H:Hp}{s:Shared}{a:Addr}{xs ys:List V}
theorem SqL.of {K:W.Frag}(h:H a=some (.lst xs)):SqL K H a xs:=.inl (.inl h)
theorem SqT.of {K:W.Frag}(h:H a=some (.tup xs)):SqT K H a xs:=.inl (.inl h)
theorem Inv.list (I:Inv X qQ σ H s)(h:SqL X.K H a xs):∃its:List Value,Vals xs its/\PlainL s.heap a its.toArray/\xs.length<=sizeLine:=by
 rcases h with h | ⟨o,its,n,hk,hc,hd,hs,hz,r⟩
 ·obtain ⟨z,its,n,r,e⟩:=h.ok I.hok;exact ⟨its,r,⟨_,n,e,rfl,rfl,rfl⟩,z⟩
 ·refine ⟨its.toList,r,⟨o,n,I.kIn a o hk,hc,hd,by simpa using hs⟩,?_⟩;have e:=r.length;simp only [Yai] at e
  lia
theorem Inv.tuple (I:Inv X qQ σ H s)(h:SqT X.K H a xs):∃its:List Value,Vals xs its/\IsTup s.heap a its.toArray/\xs.length<=sizeLine:=by
 rcases h with h | ⟨o,its,n,hk,hc,hs,hz,r⟩
 ·obtain ⟨z,its,r,p⟩:=h.ok I.hok;exact ⟨its,r,p,z⟩
 ·refine ⟨its.toList,r,⟨o,I.kIn a o hk,hc,n,by simpa using hs⟩,?_⟩;have e:=r.length;simp only [Yai] at e
  lia
theorem Inv.list_inj (I:Inv X qQ σ H s)(h:SqL X.K H a xs)(h':SqL X.K H a ys):xs=ys:=by
 obtain ⟨its,r,⟨o,n,e,_,_,d⟩,_⟩:=I.list h;obtain ⟨its',r',⟨o',n',e',_,_,d'⟩,_⟩:=I.list h';rw [e] at e';cases e';rw [d] at d';injection d' with d1 _
 have:its=its':=by simpa using Ybf Array.toList d1
 subst this;exact r.inj r'
theorem Inv.tuple_inj (I:Inv X qQ σ H s)(h:SqT X.K H a xs)(h':SqT X.K H a ys):xs=ys:=by
 obtain ⟨its,r,⟨o,e,_,n,d⟩,_⟩:=I.tuple h;obtain ⟨its',r',⟨o',e',_,n',d'⟩,_⟩:=I.tuple h';rw [e] at e';cases e';rw [d] at d';injection d' with d1 _
 have:its=its':=by simpa using Ybf Array.toList d1
 subst this;exact r.inj r'
end
noncomputable abbrev Cx.wish (X:Cx)(E:EX):Cx:={ X with xe:=E }
noncomputable abbrev Cx.nox (X:Cx):Cx:=X.wish λ_ _=>False
theorem Cx.Ok.wish {X:Cx}(ok:X.Ok)(E:EX):(X.wish E).Ok:=
 ⟨ok.mod,ok.kind,ok.glob,ok.blt,ok.above,ok.inj,ok.has,ok.cab,ok.hd,ok.frames,ok.stk,ok.exf,ok.bs,ok.bsz,ok.noex,ok.exfs,ok.funs,ok.frf⟩
theorem Cx.Ok.unwish {X:Cx}{E:EX}(ok:(X.wish E).Ok):X.Ok:=
 ⟨ok.mod,ok.kind,ok.glob,ok.blt,ok.above,ok.inj,ok.has,ok.cab,ok.hd,ok.frames,ok.stk,ok.exf,ok.bs,ok.bsz,ok.noex,ok.exfs,ok.funs,ok.frf⟩
section
variable {X:Cx}{qQ:List (Addr×Obj)}{σ:St}{H:Hp}{s:Shared}{E:EX}
theorem Inv.wish (I:Inv X qQ σ H s)(E:EX):Inv (X.wish E) qQ σ H s:=⟨I.ok.wish E,I.os,I.bare,I.base,I.loc,I.cell,I.free,I.freeC,I.pin,I.hok,I.len⟩
theorem Inv.unwish (I:Inv (X.wish E) qQ σ H s):Inv X qQ σ H s:=⟨I.ok.unwish,I.os,I.bare,I.base,I.loc,I.cell,I.free,I.freeC,I.pin,I.hok,I.len⟩
theorem SP.unwish {D:ZaD}{f:Flow}{s':Shared}(h:SP (X.wish E) qQ D f s'):SP X qQ D f s':=by
 cases f with
 | next=>obtain ⟨σ',H',I,q⟩:=h;exact ⟨σ',H',I.unwish,q⟩
 | brk=>obtain ⟨σ',H',I,q⟩:=h;exact ⟨σ',H',I.unwish,q⟩
 | cont=>obtain ⟨σ',H',I,q⟩:=h;exact ⟨σ',H',I.unwish,q⟩
 | ret u=>obtain ⟨v,σ',H',I,r,q⟩:=h;exact ⟨v,σ',H',I.unwish,r,q⟩
theorem PSs.nox {st:List Stmt}{t:TS}(h:PSs X.nox st t):PSs X st t:=λqQ s σ H D I hw=>
 Ybm (h qQ s σ H D (I.wish _) hw) (λ_ _ q=>q.unwish) λ_ _ z=>False.elim z
end
section
variable {X:Cx}{st:Stmt}{rest:List Stmt}{t u:TS}{e:Expr}{te:TE}{pos:Pos}
noncomputable def Oa:TS:=λD σ H=>D.nx σ H
noncomputable def Zfo (t u:TS):TS:=λD σ H=>t { D with nx:=u D } σ H
theorem Gu:PSs X [] Oa:=λ_ _ σ H _ I h=>wpAny_execs_nil ⟨σ,H,I,h⟩
theorem Gc (h1:PS X st t)(h2:PSs X rest u):PSs X (st::rest) (Zfo t u):=by
 intro qQ s σ H D I h;refine wpAny_execs_cons (thn (h1 qQ s σ H { D with nx:=u D } I h) λf s1 q=>?_);cases f with
 | next=>
  obtain ⟨σ',H',I',q⟩:=q;exact h2 qQ s1 σ' H' D I' q
 | ret v=>exact q
 | brk=>exact q
 | cont=>exact q
theorem Gh (h1:PS X st t):PSs X [st] t:=by
 intro qQ s σ H D I h;refine wpAny_execs_cons (thn (h1 qQ s σ H D I h) λf s1 q=>?_);cases f with
 | next=>exact wpAny_execs_nil q
 | ret v=>exact q
 | brk=>exact q
 | cont=>exact q
theorem Inv.quiet {qQ:List (Addr×Obj)}{σ:St}{H:Hp}{s:Shared}(I:Inv X qQ σ H s):interactive X.env=false:=by simp [interactive,I.ok.kind]
noncomputable def Zfp (te:TE):TS:=λD σ H=>te σ H λ_ H1=>D.nx σ H1
theorem JM (he:PE X e te)(hs:swapsWith e none pos.line X.env=pure false:=by rfl):PS X (.Expr e pos) (Zfp te):=by
 intro qQ s σ H D I h;exact wpAny_Expr_any (thn (he qQ s σ H _ I h) λv s1 ⟨x,H1,I1,r1,q1⟩=>⟨σ,H1,I1,q1⟩) I.quiet hs
noncomputable def ZgA (te:TE):TS:=λD σ H=>te σ H D.rt
theorem Gz (he:PE X e te):PS X (.Return (some e) pos) (ZgA te):=by
 intro qQ s σ H D I h;exact wpAny_Return_some (thn (he qQ s σ H _ I h) λv s1 ⟨x,H1,I1,r1,q1⟩=>⟨x,σ,H1,I1,r1,q1⟩)
noncomputable def Zgc (c:TT)(t u:TS):TS:=λD σ H=>c σ H λb H1=>if b=true then t D σ H1 else u D σ H1
theorem G6 {c:Expr}{a b:List Stmt}{tc:TT}(hc:PT X c tc)(ha:PSs X a t)(hb:PSs X b u):PS X (.If c a b pos) (Zgc tc t u):=by
 intro qQ s σ H D I h;refine wpAny_If (thn (hc qQ s σ H _ I h) λd s1 ⟨H1,I1,q1⟩=>?_);cases d with
 | true=>exact ha qQ s1 σ H1 D I1 q1
 | false=>exact hb qQ s1 σ H1 D I1 q1
end
noncomputable abbrev TG:=V->St->Hp->(St->Hp->Prop)->Prop
noncomputable abbrev TGs:=List V->St->Hp->(St->Hp->Prop)->Prop
noncomputable def PG (X:Cx)(qU:Expr)(t:TG):Prop:=
 ∀(qQ:List (Addr×Obj))(s:Shared)(σ:St)(H:Hp)(v:V)(u:Value)(Q:St->Hp->Prop),Inv X qQ σ H s->RelV v u->t v σ H Q ->
  wpAny (model X.prog X.w) X.A (assign qU X.env u) (λ_ s'=>∃ σ' H',Inv X qQ σ' H' s'/\Q σ' H') X.xe s
noncomputable def PGs (X:Cx)(ts:List Expr)(t:TGs):Prop:=
 ∀(qQ:List (Addr×Obj))(s:Shared)(σ:St)(H:Hp)(vs:List V)(us:List Value)(Q:St->Hp->Prop),Inv X qQ σ H s->Vals vs us->t vs σ H Q ->
  wpAny (model X.prog X.w) X.A (assignInOrder ((assignEach ts X.env).map (·.2)) us) (λ_ s'=>∃ σ' H',Inv X qQ σ' H' s'/\Q σ' H') X.xe s
noncomputable abbrev Zfq:=V->V->V->Hp->(Hp->Prop)->Prop
noncomputable def Zgd (X:Cx)(t:Zfq):Prop:=
 ∀(qQ:List (Addr×Obj))(s:Shared)(σ:St)(H:Hp)(o i v:V)(ov iv u:Value)(Q:Hp->Prop),Inv X qQ σ H s->RelV o ov->RelV i iv->RelV v u->t o i v H Q ->
  wpAny (model X.prog X.w) X.A (setItem ov iv u) (λ_ s'=>∃H',Inv X qQ σ H' s'/\Q H') X.xe s
section
variable {X:Cx}{pos:Pos}
noncomputable def GO (i:Nat):TG:=λv σ H Q=>Q (σ.set i (some v)) H
theorem Gj {i:Nat}{x:Str}(hN:X.N.Nodup)(hi:X.N[i]?=some x)(hx:Loc X.env.scope x)(hf:X.fn x=true\/X.env.scope.names.lookup x=some .local:=by first | exact .inl rfl | exact .inr rfl | assumption):PG X (.Name x pos) (GO i):=by
 intro qQ s σ H v u Q I r h;exact wpAny_assign_Name (Xc I hN hi hx r (λs' I'=>⟨_,H,I',h⟩) hf)
noncomputable def ZgB:TGs:=λvs σ H Q=>vs=[]/\Q σ H
noncomputable def Zfr (t:TG)(u:TGs):TGs:=λvs σ H Q=>∃v r,vs=v::r/\t v σ H λσ' H'=>u r σ' H' Q
theorem JQ:PGs X [] ZgB:=by
 intro qQ s σ H vs us Q I r h;obtain ⟨e,h⟩:=h;subst e;cases r;exact assignInOrder_nil ⟨σ,H,I,h⟩
theorem GB {e:Expr}{es:List Expr}{t:TG}{u:TGs}(h1:PG X e t)(h2:PGs X es u)(hs:(assignEach (e::es) X.env).map (·.2)=assign e X.env::(assignEach es X.env).map (·.2):=by rfl):PGs X (e::es) (Zfr t u):=by
 intro qQ s σ H vs us Q I r h;obtain ⟨v,vr,e1,h⟩:=h;subst e1;cases r with
 | cons r rr=>
  rw [hs];refine assignInOrder_cons (thn (h1 qQ s σ H _ _ _ I r h) λ_ s1 ⟨σ1,H1,I1,q1⟩=>?_);exact h2 qQ s1 σ1 H1 _ _ Q I1 rr q1
noncomputable def Zge (K:W.Frag)(n:Nat)(t:TGs):TG:=λv σ H Q=>∃a xs,v=.ref a/\SqT K H a xs/\xs.length=n/\t xs σ H Q
theorem Zdx {es:List Expr}{k:Nat}{t:TGs}{n:Nat}(hc:X.calm=true)(h:PGs X es t)(hn:(assignEach es X.env).length=n:=by rfl)(hst:(assignEach es X.env).findIdx? (·.1)=none:=by rfl):PG X (.Tuple es k pos) (Zge X.K n t):=by
 intro qQ s σ H v u Q I r hw;obtain ⟨a,xs,e1,hq,hl,hw⟩:=hw;subst e1;cases r;obtain ⟨its,rv,ht,hz⟩:=I.tuple hq;refine assign_Tuple_tuple (I.ok.hd hc) ht (by simp [hn,<-hl,rv.length]) hst λh' hx=>?_;have I1:Inv X qQ σ H { s with heap:=h' }:=I.kept (t':=s.toks) λb o e=>hx b o (Yam (Yah e)) e;exact h qQ _ σ H xs _ Q I1 (by simpa using rv) hw
noncomputable def ZgC (to ti:TE)(t:Zfq):TG:=λv σ H Q=>to σ H λo H1=>ti σ H1 λi H2=>t o i v H2 λH3=>Q σ H3
theorem Xe {o i:Expr}{to ti:TE}{t:Zfq}(ho:PE X o to)(hi:PE X i ti)(hs:Zgd X t)(ha:∀v,assign (.Subscript o i pos) X.env v=(do
   let ov <- holding [v] (eval o X.env)
   let iv <- holding [v,ov] (eval i X.env)
   standAt pos
   holding [v,ov,iv] (setItem ov iv v)
   release [v,ov,iv] []):=by intro _;rfl):PG X (.Subscript o i pos) (ZgC to ti t):=by
 intro qQ s σ H v u Q I r h;rw [ha];refine Yaa (Ybp (thn (ho qQ s σ H _ I h) λov s1 ⟨x,H1,I1,r1,q1⟩=>?_));refine Yaa (Ybp (thn (hi qQ s1 σ H1 _ I1 q1) λiv s2 ⟨y,H2,I2,r2,q2⟩=>?_));refine Yaa (wpAny_standAt (Yaa (Ybp (thn (hs qQ s2 σ H2 x y v ov iv u _ I2 r1 r2 r q2) λ_ s3 ⟨H3,I3,q3⟩=>?_))));exact wpAny_release ⟨σ,H3,I3,q3⟩
noncomputable def Zfs (te:TE)(g:TG):TS:=λD σ H=>te σ H λx H1=>g x σ H1 D.nx
theorem OZ {tg e:Expr}{te:TE}{g:TG}(he:PE X e te)(hg:PG X tg g)(hs:swapsWithSole [tg] e pos.line X.env=pure false:=by rfl)(hw:swappedStores [tg] e X.env=pure none:=by rfl)(h1:(assignEach [tg] X.env).map (·.2)=[assign tg X.env]:=by rfl):PS X (.Assign [tg] e pos) (Zfs te g):=by
 intro qQ s σ H D I h;refine wpAny_Assign_stores (thn (he qQ s σ H _ I h) λv s1 ⟨x,H1,I1,r1,q1⟩=>?_) hs hw;rw [h1];exact thn (hg qQ s1 σ H1 x v _ I1 r1 q1) λ_ s2 q=>q
theorem Go {i:Nat}{x:Str}{e:Expr}{te:TE}{pos':Pos}(hN:X.N.Nodup)(hi:X.N[i]?=some x)(hx:Loc X.env.scope x)(he:PE X e te)(hs:swapsWith e (some (.Name x pos')) pos.line X.env=pure false:=by rfl)(hf:X.fn x=true\/X.env.scope.names.lookup x=some .local:=by first | exact .inl rfl | exact .inr rfl | assumption) :
  PS X (.Assign [.Name x pos'] e pos) (Zfs te (GO i)):=by
 intro qQ s σ H D I h;refine wpAny_Assign_Name (thn (he qQ s σ H _ I h) λv s1 ⟨y,H1,I1,r1,q1⟩=>?_) hs;exact Xc I1 hN hi hx r1 (λs2 I2=>⟨_,H1,I2,q1⟩) hf
noncomputable def Zdy (c:TT)(tb:TS):TS:=λD σ H=>∃W:Nat->St->Hp->Prop,(∃m,W m σ H)/\∀m σ H,W m σ H ->
 c σ H λb H1=>if b=true then ∃N:St->Hp->Prop,(∀ σ' H',N σ' H'->∃m',m'<m/\W m' σ' H')/\tb { D with nx:=N,ct:=N,bk:=D.nx } σ H1 else D.nx σ H1
theorem Xf {c:Expr}{body:List Stmt}{tc:TT}{tb:TS}(hp:PassesOwn (model X.prog X.w) X.A X.env X.xe)(hc:PT X c tc)(hb:PSs X body tb):PS X (.While c body [] pos) (Zdy tc tb):=by
 intro qQ s σ H D I h;obtain ⟨W,⟨m0,w0⟩,turn⟩:=h;refine wpAny_While (codeAny_whileLoop (λn s'=>∃ σ' H',Inv X qQ σ' H' s'/\W n σ' H') ?_ m0 ⟨σ,H,I,w0⟩);rintro n s1 ⟨σ1,H1,I1,w1⟩;refine Yeh hp (thn (hc qQ s1 σ1 H1 _ I1 (turn n σ1 H1 w1)) λb s2 ⟨H2,I2,q2⟩=>?_);cases b with
 | true=>
  obtain ⟨N,hN,q2⟩:=q2;rw [if_pos rfl];refine Yeh hp (thn (hb qQ s2 σ1 H2 _ I2 q2) λf s3 q3=>?_);cases f with
  | next=>
   obtain ⟨σ3,H3,I3,n3⟩:=q3;obtain ⟨m',hm,w3⟩:=hN σ3 H3 n3;exact ⟨m',hm,σ3,H3,I3,w3⟩
  | cont=>
   obtain ⟨σ3,H3,I3,n3⟩:=q3;obtain ⟨m',hm,w3⟩:=hN σ3 H3 n3;exact ⟨m',hm,σ3,H3,I3,w3⟩
  | brk=>exact q3
  | ret v=>exact q3
 | false=>
  rw [if_neg Yaj];exact wpAny_execs_nil ⟨σ1,H2,I2,q2⟩
end
structure It where
 go:Nat->Hp->Prop
 yld:Nat->Hp->V->Hp->Prop
 stop:Nat->Hp->Prop
noncomputable def ZaE (X:Cx)(qQ:List (Addr×Obj))(H:Hp)(b:Addr):Prop:=
 H b=none/\b≠X.env.locals/\b ∉ X.fs/\(b∈X.ex\/X.s₀.heap.objs.size<=b)/\(∀x c,X.env.cells.lookup x=some c->c≠b)/\∀p∈X.pn++qQ,p.1≠b
theorem Inv.fpOk {X:Cx}{qQ:List (Addr×Obj)}{σ:St}{H H':Hp}{s:Shared}{b:Addr}(I:Inv X qQ σ H s)(hb:s.heap.objs.size<=b)(hn:H' b=none):ZaE X qQ H' b:=by
 refine ⟨hn,Ydm (Ybi I.lt hb),I.nofs hb,.inr (Ybr I.sz hb),λx c e z=>?_,λp hp z=>?_⟩
 ·obtain ⟨v,q⟩:=I.cell x c e;exact absurd (Ybi q.lt (by rw [z];exact hb)) (Ycb _)
 ·exact absurd (Ybi (Yah (I.pin p hp).1) (by rw [z];exact hb)) (Ycb _)
structure ZbQ (P:Program)(w:World)(K:W.Frag)(tg:Expr)(J:It)(fp:List Addr)(it:Addr)(tn:Nat->Heap->Prop):Prop where
 mem:it∈fp
 obj:∀i h,tn i h->∀b∈fp,∃o,h.get? b=some o/\∀v,o.data≠.cell v
 keep:∀i h h',tn i h->(∀b∈fp,∀o,h.get? b=some o->h'.get? b=some o)->tn i h'
 item:∀(X:Cx),X.prog=P->X.w=w->X.K=K->X.calm=true->∀(i:Nat)(qQ:List (Addr×Obj))(s:Shared)(σ:St)(H:Hp)(E:EX),Inv X qQ σ H s->(∀b∈fp,ZaE X qQ H b)->tn i s.heap->J.go i H ->
  wpAny (model P w) X.A (pyNext (.ref it)) (λr s1=>∃u,r=some u /\
   wpAny (model P w) X.A (letOwnedTupleGo tg (.ref it) u) (λ_ s2=>∃x H',Inv X qQ σ H' s2/\RelV x u/\J.yld i H x H'/\tn (i+1) s2.heap/\∀b∈fp,H' b=none) E s1) E s
 done:∀(X:Cx),X.prog=P->X.w=w->X.K=K->X.calm=true->∀(i:Nat)(qQ:List (Addr×Obj))(s:Shared)(σ:St)(H:Hp)(E:EX),Inv X qQ σ H s->(∀b∈fp,ZaE X qQ H b)->tn i s.heap->J.stop i H ->
  wpAny (model P w) X.A (pyNext (.ref it)) (λr s1=>r=none/\Inv X qQ σ H s1) E s
 self:∀(A:Around)(i:Nat)(s:Shared)(Q:EX)(E:EX),tn i s.heap->Q (.ref it) s->wpAny (model P w) A (pyIter (.ref it)) Q E s
noncomputable abbrev TI:=St->Hp->(It->Hp->Prop)->Prop
noncomputable def PIE (X:Cx)(qQ:List (Addr×Obj))(σ:St)(tg:Expr)(R:It->Hp->Prop)(itv:Value)(s2:Shared):Prop:=
 ∃(it:Addr)(fp:List Addr)(tn:Nat->Heap->Prop)(J:It)(H':Hp),itv=.ref it/\Inv X qQ σ H' s2/\ZbQ X.prog X.w X.K tg J fp it tn/\tn 0 s2.heap/\(∀b∈fp,ZaE X qQ H' b)/\R J H'
noncomputable def PI (X:Cx)(tg iter:Expr)(wi:TI):Prop:=
 ∀(qQ:List (Addr×Obj))(s:Shared)(σ:St)(H:Hp)(R:It->Hp->Prop),Inv X qQ σ H s->wi σ H R ->
  wpAny (model X.prog X.w) X.A (eval iter X.env) (λv s1=>wpAny (model X.prog X.w) X.A (pyIter v) (PIE X qQ σ tg R) X.xe s1) X.xe s
theorem ZaK {M:Model}{A:Around}{E:EX}{s:Shared}{tg:Expr}{it:Addr}{u:Value}{o:Obj}{n:String}{vs:Array Value}{Q:Unit->Shared->Prop}(ho:s.heap.get? it=some o)(hc:o.cls=.type n)(hd:o.data=.fields vs)(hn:["enumerate", "zip", "dict_itemiterator", "dict_reverseitemiterator", "odict_iterator", "itertools.zip_longest", "itertools.pairwise"].contains n=false)(hQ:Q () s):wpAny M A (letOwnedTupleGo tg (.ref it) u) Q E s:=by
 unfold letOwnedTupleGo;cases tg <;> first
  | exact Yab hQ
  | (cases u <;> first
    | exact Yab hQ
    | (refine Yaa (wpAny_load ho ?_)
       rw [hc,hd];show wpAny M A (if (["enumerate", "zip", "dict_itemiterator", "dict_reverseitemiterator", "odict_iterator", "itertools.zip_longest", "itertools.pairwise"].contains n && vs[0]? == some (rawInt _))=true then _ else _) Q E s;rw [if_neg (by intro h;rw [hn,Bool.false_and] at h;cases h)];exact Yab hQ))
noncomputable def Itl (K:W.Frag)(a:Addr):It:=
 ⟨λi H=>∃xs x,SqL K H a xs/\xs[i]?=some x,λi H x H'=>H'=H/\∀xs,SqL K H a xs->xs[i]?=some x,λi H=>∃xs,SqL K H a xs/\xs.length<=i⟩
noncomputable def Itt (K:W.Frag)(a:Addr):It:=
 ⟨λi H=>∃xs x,SqT K H a xs/\xs[i]?=some x,λi H x H'=>H'=H/\∀xs,SqT K H a xs->xs[i]?=some x,λi H=>∃xs,SqT K H a xs/\xs.length<=i⟩
noncomputable def Itr (lo:Int)(n:Nat):It:=⟨λi _=>i<n,λi H x H'=>H'=H/\x=.int (lo+i),λi _=>n<=i⟩
theorem YY {P:Program}{w:World}{K:W.Frag}{tg:Expr}(a it:Addr):ZbQ P w K tg (Itl K a) [it] it (λi h=>h.IsListIter it a i) where
 mem:=by simp
 obj:=λi h st b hb=>by
  have e:b=it:=by simpa using hb
  subst e;obtain ⟨o,e,c,d⟩:=st;exact ⟨o,e,λv z=>by rw [d] at z;cases z⟩
 keep:=λi h h' st k=>st.at λo e=>k it (by simp) o e
 item:=by
  intro X hP hw hK hc i qQ s σ H E I hf st hg;subst hP hw hK;obtain ⟨xs,x,hq,hx⟩:=hg;obtain ⟨its,rv,p,hz⟩:=I.list hq;obtain ⟨u,hu,ru⟩:=rv.get hx;obtain ⟨f0,f1,f2,f3,f4,f5⟩:=hf it (by simp);refine wpAny_pyNext_list_item st p.isList (x:=u) (by simpa using hu) λh' st' sb=>?_;have I1:Inv X qQ σ H { s with heap:=h' }:=I.turned (t':=s.toks) (λb o hb e=>(sb.2 b hb).trans e) f0 f1 f3 f4 f5;obtain ⟨o,e,c,d⟩:=id st';exact ⟨u,rfl,ZaK (s:={ s with heap:=h' }) e c d (by decide) ⟨x,H,I1,ru,⟨rfl,λys hy=>by rw [I.list_inj hy hq];exact hx⟩,st',λb hb=>(hf b hb).1⟩⟩
 done:=by
  intro X hP hw hK hc i qQ s σ H E I hf st hg;subst hP hw hK;obtain ⟨xs,hq,hx⟩:=hg;obtain ⟨its,rv,p,hz⟩:=I.list hq;obtain ⟨f0,f1,f2,f3,f4,f5⟩:=hf it (by simp);have hl:=rv.length;exact wpAny_pyNext_list_end (I.ok.hd hc) st p.isList (by simp;lia) λh' eb=>⟨rfl,I.turned (t':=s.toks) (λb o hb e=>eb b o hb e) f0 f1 f3 f4 f5⟩
 self:=λ_ _ _ _ _ st h=>wpAny_pyIter_listiter st h
theorem X2 {P:Program}{w:World}{K:W.Frag}{tg:Expr}(a it:Addr):ZbQ P w K tg (Itt K a) [it] it (λi h=>h.IsTupleIter it a i) where
 mem:=by simp
 obj:=λi h st b hb=>by
  have e:b=it:=by simpa using hb
  subst e;obtain ⟨o,e,c,d⟩:=st;exact ⟨o,e,λv z=>by rw [d] at z;cases z⟩
 keep:=λi h h' st k=>st.at λo e=>k it (by simp) o e
 item:=by
  intro X hP hw hK hc i qQ s σ H E I hf st hg;subst hP hw hK;obtain ⟨xs,x,hq,hx⟩:=hg;obtain ⟨its,rv,p,hz⟩:=I.tuple hq;obtain ⟨u,hu,ru⟩:=rv.get hx;obtain ⟨f0,f1,f2,f3,f4,f5⟩:=hf it (by simp);refine wpAny_pyNext_tuple_item st (show s.heap.IsTuple a its.toArray from p) (x:=u) (by simpa using hu) λh' st' sb=>?_;have I1:Inv X qQ σ H { s with heap:=h' }:=I.turned (t':=s.toks) (λb o hb e=>(sb.2 b hb).trans e) f0 f1 f3 f4 f5;obtain ⟨o,e,c,d⟩:=id st';exact ⟨u,rfl,ZaK (s:={ s with heap:=h' }) e c d (by decide) ⟨x,H,I1,ru,⟨rfl,λys hy=>by rw [I.tuple_inj hy hq];exact hx⟩,st',λb hb=>(hf b hb).1⟩⟩
 done:=by
  intro X hP hw hK hc i qQ s σ H E I hf st hg;subst hP hw hK;obtain ⟨xs,hq,hx⟩:=hg;obtain ⟨its,rv,p,hz⟩:=I.tuple hq;obtain ⟨f0,f1,f2,f3,f4,f5⟩:=hf it (by simp);have hl:=rv.length;exact wpAny_pyNext_tuple_end (I.ok.hd hc) st (show s.heap.IsTuple a its.toArray from p) (by simp;lia) λh' eb=>⟨rfl,I.turned (t':=s.toks) (λb o hb e=>eb b o hb e) f0 f1 f3 f4 f5⟩
 self:=λ_ _ _ _ _ st h=>wpAny_pyIter_tupleiter st h
theorem X3 {P:Program}{w:World}{K:PySem.W.Frag}{tg:Expr}(it:Addr)(lo:Int)(n:Nat):ZbQ P w K tg (Itr lo n) [it] it (λi h=>IsRangeIter h it (lo+(i:Nat) * 1) ((n:Int)-(i:Nat)) 1) where
 mem:=by simp
 obj:=λi h st b hb=>by
  have e:b=it:=by simpa using hb
  subst e;exact ⟨_,st,λv z=>by
   have z':Data.fields _=Data.cell v:=z;cases z'⟩
 keep:=λi h h' st k=>k it (by simp) _ st
 item:=by
  intro X hP hw hK hc i qQ s σ H E I hf st hg;subst hP hw hK;obtain ⟨f0,f1,f2,f3,f4,f5⟩:=hf it (by simp);have W:=Walks.range (prog:=X.prog) (w:=X.w) (I.ok.hd hc) it lo 1 n;refine W.item i s _ _ hg st λv h' tk hv st' kk=>?_;obtain ⟨t,rfl⟩:=hv;have I1:Inv X qQ σ H { s with heap:=h',toks:=tk }:=I.turned (λb o hb e=>kk b o (by simpa using hb) e) f0 f1 f3 f4 f5;refine ⟨_,rfl,ZaK (s:={ s with heap:=h',toks:=tk }) (n := "range_iterator") st' rfl rfl (by decide) ⟨.int (lo+i),H,I1,⟨t,?_⟩,⟨rfl,rfl⟩,st',λb hb=>(hf b hb).1⟩⟩;rw [Int.mul_one]
 done:=by
  intro X hP hw hK hc i qQ s σ H E I hf st hg;subst hP hw hK;obtain ⟨f0,f1,f2,f3,f4,f5⟩:=hf it (by simp);exact wpAny_pyNext_range_end (I.ok.hd hc) st (by have:n<=i:=hg;lia) λh' eb=>⟨rfl,I.turned (t':=s.toks) (λb o hb e=>eb b o hb e) f0 f1 f3 f4 f5⟩
 self:=λ_ _ _ _ _ st h=>wpAny_pyIter_rangeiter st h
section
variable {X:Cx}{tg:Expr}
noncomputable def Zdz (K:W.Frag)(tl:TE):TI:=λσ H R=>tl σ H λx H1=>∃a,x=.ref a/\(∃xs,SqL K H1 a xs)/\R (Itl K a) H1
noncomputable def Zgf (K:W.Frag)(tl:TE):TI:=λσ H R=>tl σ H λx H1=>∃a,x=.ref a/\(∃xs,SqT K H1 a xs)/\R (Itt K a) H1
theorem Zcm {l:Expr}{tl:TE}(hl:PE X l tl):PI X tg l (Zdz X.K tl):=by
 intro qQ s σ H R I h;refine thn (hl qQ s σ H _ I h) λv s1 ⟨x,H1,I1,r1,q1⟩=>?_;obtain ⟨a,e,⟨xs,hq⟩,q⟩:=q1;subst e;cases r1;obtain ⟨its,rv,p,hz⟩:=I1.list hq;refine wpAny_pyIter_list p.isList ?_;refine ⟨s1.heap.objs.size,[s1.heap.objs.size],_,_,H1,rfl,I1.kept (t':=s1.toks) λb o e=>Yag _ e,YY a _,⟨_,Yay _ rfl,rfl,rfl⟩,λb hb=>?_,q⟩;have e:b=s1.heap.objs.size:=by simpa using hb
 subst e;exact I1.fpOk (Yae _) (I1.hok.fresh (Yae _))
theorem ZdA {l:Expr}{tl:TE}(hl:PE X l tl):PI X tg l (Zgf X.K tl):=by
 intro qQ s σ H R I h;refine thn (hl qQ s σ H _ I h) λv s1 ⟨x,H1,I1,r1,q1⟩=>?_;obtain ⟨a,e,⟨xs,hq⟩,q⟩:=q1;subst e;cases r1;obtain ⟨its,rv,p,hz⟩:=I1.tuple hq;refine wpAny_pyIter_tuple (show s1.heap.IsTuple a its.toArray from p) ?_;refine ⟨s1.heap.objs.size,[s1.heap.objs.size],_,_,H1,rfl,I1.kept (t':=s1.toks) λb o e=>Yag _ e,X2 a _,⟨_,Yay _ rfl,rfl,rfl⟩,λb hb=>?_,q⟩;have e:b=s1.heap.objs.size:=by simpa using hb
 subst e;exact I1.fpOk (Yae _) (I1.hok.fresh (Yae _))
theorem Xg {qQ:List (Addr×Obj)}{σ:St}{H:Hp}{s:Shared}{R:It->Hp->Prop}{E:EX}{lo hi:Int}{t u v:Tok}{tk:Nat}(I:Inv X qQ σ H s)(h1:-(2 ^ 62)<=lo)(h2:lo<2 ^ 62)(h3:-(2 ^ 62)<=hi)(h4:hi<2 ^ 62)(q:R (Itr lo (hi-lo).toNat) H):wpAny (model X.prog X.w) X.A (pyIter (.ref s.heap.objs.size)) (PIE X qQ σ tg R) E { s with heap:=s.heap.push { cls:=.type "range", data:=.fields #[.int lo t,.int hi u,.int 1 v] },toks:=tk }:=by
 refine wpAny_pyIter_range (IsRange.new ..) (small_one h1 h2 h3 h4) ?_;have I1:Inv X qQ σ H { s with heap:=s.heap.push { cls:=.type "range", data:=.fields #[.int lo t,.int hi u,.int 1 v] },toks:=tk }:=I.kept λb o e=>Yag _ e;refine ⟨(s.heap.push { cls:=.type "range", data:=.fields #[.int lo t,.int hi u,.int 1 v] }).objs.size,[(s.heap.push { cls:=.type "range", data:=.fields #[.int lo t,.int hi u,.int 1 v] }).objs.size],_,_,H,rfl,
  I1.kept (t':=tk) λb o e=>Yag _ e,X3 _ lo (hi-lo).toNat,?_,λb hb=>?_,q⟩
 ·have e1:lo+((0:Nat):Int) * 1=lo:=by simp
  have e2:(((hi-lo).toNat:Nat):Int)-((0:Nat):Int)=Builtin.Range.rangeSize lo hi 1:=by rw [rangeSize_one];split <;> lia
  show IsRangeIter _ _ (lo+((0:Nat):Int) * 1) ((((hi-lo).toNat:Nat):Int)-((0:Nat):Int)) 1;rw [e1,e2];exact Yay _ rfl
 ·have e:b=(s.heap.push { cls:=.type "range", data:=.fields #[.int lo t,.int hi u,.int 1 v] }).objs.size:=by simpa using hb
  subst e;exact I1.fpOk (Yae _) (I1.hok.fresh (Yae _))
noncomputable def Zft (ta:TA):TI:=λσ H R=>ta σ H λvs H1=>∃j:Int,vs=[.int j]/\-(2 ^ 62)<=j/\j<2 ^ 62/\R (Itr 0 j.toNat) H1
noncomputable def Zfu (ta:TA):TI:=λσ H R=>ta σ H λvs H1=>∃i j:Int,vs=[.int i,.int j]/\(-(2 ^ 62)<=i/\i<2 ^ 62/\-(2 ^ 62)<=j/\j<2 ^ 62)/\R (Itr i (j-i).toNat) H1
theorem Jr {a:Expr}{ta:TA}{p pos:Pos}(hg:Gl X "range")(hm:X.mg "range" = none)(ha:PA X [a] ta)(hs:starEach [a] X.env=[(false,eval a X.env)]:=by rfl):PI X tg (.Call (.Name "range" p) [a] [] pos) (Zft ta):=by
 intro qQ s σ H R I h;refine Call_ (Op I hg hm boot_range (Yfk (thn (ha pos qQ s σ H _ I h) λus s1 ⟨vs,H1,I1,r1,q1⟩=>?_) hs rfl));obtain ⟨j,e,q1,q2,q⟩:=q1;subst e;cases r1 with
 | cons r rr=>
  cases rr;obtain ⟨t,rfl⟩:=r;exact call_range_1 (Xg I1 (by lia) (by lia) q1 q2 (by simpa using q))
theorem YZ {a b:Expr}{ta:TA}{p pos:Pos}(hg:Gl X "range")(hm:X.mg "range" = none)(ha:PA X [a,b] ta)(hs:starEach [a,b] X.env=[(false,eval a X.env),(false,eval b X.env)]:=by rfl)(hs2:starEach [b] X.env=[(false,eval b X.env)]:=by rfl) :
  PI X tg (.Call (.Name "range" p) [a,b] [] pos) (Zfu ta):=by
 intro qQ s σ H R I h;refine Call_ (Op I hg hm boot_range (Yfk (thn (ha pos qQ s σ H _ I h) λus s1 ⟨vs,H1,I1,r1,q1⟩=>?_) (by rw [hs,hs2]) (by rw [hs2];rfl)));obtain ⟨i,j,e,⟨q1,q2,q3,q4⟩,q⟩:=q1;subst e;cases r1 with
 | cons r rr=>
  cases rr with
  | cons r' rr=>
   cases rr;obtain ⟨t,rfl⟩:=r;obtain ⟨t',rfl⟩:=r';exact call_range_2 (Xg I1 q1 q2 q3 q4 q)
noncomputable def ZgD (wi:TI)(g:TG)(tb:TS):TS:=λD σ H=>wi σ H λJ H1=>∃W:Nat->Nat->St->Hp->Prop,(∃m,W 0 m σ H1)/\∀i m σ H,W i m σ H ->
 (J.stop i H/\D.nx σ H)\/(J.go i H/\∃N:St->Hp->Prop,(∀ σ' H',N σ' H'->∃m',m'<m/\W (i+1) m' σ' H')/\∀x H',J.yld i H x H'->g x σ H' λσ2 H2=>tb { D with nx:=N,ct:=N,bk:=D.nx } σ2 H2)
noncomputable def VX (fp:List Addr)(h:Heap):List (Addr×Obj):=fp.filterMap λb=>(h.get? b).map λo=>(b,o)
theorem J2 {fp:List Addr}{h:Heap}{b:Addr}{o:Obj}(hb:b∈fp)(e:h.get? b=some o):(b,o)∈VX fp h:=Yct.mpr ⟨b,hb,by rw [e];rfl⟩
theorem Y0 {fp:List Addr}{h:Heap}{p:Addr×Obj}(hp:p∈VX fp h):p.1∈fp/\h.get? p.1=some p.2:=by
 obtain ⟨b,hb,e⟩:=Yct.mp hp;cases q:h.get? b with
 | none=>rw [q] at e;cases e
 | some o=>
  rw [q] at e;have e':(b,o)=p:=Ybl e;subst e';exact ⟨hb,q⟩
theorem Inv.pinned {qQ:List (Addr×Obj)}{σ:St}{H:Hp}{s:Shared}{fp:List Addr}(I:Inv X qQ σ H s)(hf:∀b∈fp,ZaE X qQ H b)(ho:∀b∈fp,∃o,s.heap.get? b=some o/\∀v,o.data≠.cell v):Inv X (qQ++VX fp s.heap) σ H s:=
 I.pins_of λp hp=>(Yal.mp hp).elim (λz=>I.pin p (Ycc _ z)) λz=>by
  obtain ⟨hb,e⟩:=Y0 z;obtain ⟨f0,f1,f2,_⟩:=hf p.1 hb;obtain ⟨o,e',d⟩:=ho p.1 hb;rw [e] at e';cases e';exact ⟨e,f0,f1,f2,d⟩
theorem Inv.unpinned {qQ pl:List (Addr×Obj)}{σ:St}{H:Hp}{s:Shared}(I:Inv X (qQ++pl) σ H s):Inv X qQ σ H s:=I.pins_of λp hp=>I.pin p (Ycc _ (Ydu _ hp))
theorem Od {iter:Expr}{body:List Stmt}{wi:TI}{g:TG}{tb:TS}{pos:Pos}(hp:PassesOwn (model X.prog X.w) X.A X.env X.xe)(hc:X.calm=true)(hi:PI X tg iter wi)(hg:PG X tg g)(hb:PSs X body tb)(hs:∀x,foldedSetIterable iter X.env x=pure x:=by intro _;rfl):PS X (.For tg iter body [] pos) (ZgD wi g tb):=by
 intro qQ s σ H D I h;refine wpAny_For (thn (hi qQ s σ H _ I h) λv s1 h1=>thn h1 λitv s2 h2=>?_) hs;obtain ⟨it,fp,tn,J,H2,e,I2,T,st2,f2,W,⟨m0,w0⟩,turn⟩:=h2;subst e;have stat:∀{H':Hp},(∀b∈fp,H' b=none)->∀b∈fp,ZaE X qQ H' b:=λhn b hb=>⟨hn b hb,(f2 b hb).2⟩;refine codeAny_forLoop_any (λn s'=>∃i σ' H',Inv X qQ σ' H' s'/\tn i s'.heap/\(∀b∈fp,H' b=none)/\W i n σ' H') ?_ m0 ⟨0,σ,H2,I2,st2,λb hb=>(f2 b hb).1,w0⟩;rintro n s3 ⟨i,σ3,H3,I3,st3,fr3,w3⟩;rcases turn i n σ3 H3 w3 with ⟨stop,qn⟩ | ⟨go,N,hN,step⟩
 ·refine Yeh hp (thn (T.done X rfl rfl rfl hc i qQ s3 σ3 H3 X.xe I3 (stat fr3) st3 stop) λr s4 ⟨hr,I4⟩=>?_);subst hr;exact wpAny_execs_nil ⟨σ3,H3,I4,qn⟩
 ·refine Yeh hp (thn (T.item X rfl rfl rfl hc i qQ s3 σ3 H3 X.xe I3 (stat fr3) st3 go) λr s4 ⟨u,hr,h4⟩=>?_);subst hr;refine Yeh hp (thn h4 λ_ s5 ⟨x,H5,I5,r5,y5,st5,fr5⟩=>?_);have I5':=I5.pinned (stat fr5) (T.obj _ _ st5);refine Yeh hp (thn (hg _ s5 σ3 H5 x u _ I5' r5 (step x H5 y5)) λ_ s6 ⟨σ6,H6,I6,q6⟩=>?_);refine Yeh hp (thn (hb _ s6 σ6 H6 _ I6 q6) λf s7 q7=>?_);have again:∀{σ7:St}{H7:Hp},Inv X (qQ++VX fp s5.heap) σ7 H7 s7->N σ7 H7->∃m,m<n/\∃i σ' H',Inv X qQ σ' H' s7/\tn i s7.heap/\(∀b∈fp,H' b=none)/\W i m σ' H':=λ{σ7 H7} I7 n7=>by
   obtain ⟨m',hm,w7⟩:=hN σ7 H7 n7;refine ⟨m',hm,i+1,σ7,H7,I7.unpinned,T.keep _ _ _ st5 λb hb o e=>(I7.pin (b,o) (Ycc _ (Ycc _ (J2 hb e)))).1,λb hb=>?_,w7⟩;obtain ⟨o,e,d⟩:=T.obj _ _ st5 b hb;exact (I7.pin (b,o) (Ycc _ (Ycc _ (J2 hb e)))).2.1
  cases f with
  | next=>obtain ⟨σ7,H7,I7,n7⟩:=q7;exact again I7 n7
  | cont=>obtain ⟨σ7,H7,I7,n7⟩:=q7;exact again I7 n7
  | brk=>obtain ⟨σ7,H7,I7,q7⟩:=q7;exact ⟨σ7,H7,I7.unpinned,q7⟩
  | ret v=>obtain ⟨x7,σ7,H7,I7,r7,q7⟩:=q7;exact ⟨x7,σ7,H7,I7.unpinned,r7,q7⟩
end
theorem O9 {K:PySem.W.Frag}{a:Addr}{xs:List V}{g:TG}{tb:TS}{D:ZaD}{σ:St}{H:Hp}(Pv:Nat->St->Hp->Prop)(h0:Pv 0 σ H)(hl:∀i σ H,i<=xs.length->Pv i σ H->SqL K H a xs)(hs:∀i x σ H,xs[i]?=some x->Pv i σ H->g x σ H λσ2 H2=>tb { D with nx:=Pv (i+1),ct:=Pv (i+1),bk:=D.nx } σ2 H2)(hd:∀ σ H,Pv xs.length σ H->D.nx σ H) :
  ∃W:Nat->Nat->St->Hp->Prop,(∃m,W 0 m σ H)/\∀i m σ H,W i m σ H ->
   ((Itl K a).stop i H/\D.nx σ H)\/((Itl K a).go i H/\∃N:St->Hp->Prop,(∀ σ' H',N σ' H'->∃m',m'<m/\W (i+1) m' σ' H')/\∀x H',(Itl K a).yld i H x H'->g x σ H' λσ2 H2=>tb { D with nx:=N,ct:=N,bk:=D.nx } σ2 H2):=by
 refine ⟨λi m σ H=>m=xs.length-i/\i<=xs.length/\Pv i σ H,⟨xs.length,by simp,Yao _,h0⟩,?_⟩;rintro i m σ H ⟨rfl,hi,p⟩;have q:=hl i σ H hi p;by_cases hlt:i<xs.length
 ·refine .inr ⟨⟨xs,xs[i],q,by simp [hlt]⟩,Pv (i+1),λσ' H' p'=>⟨xs.length-(i+1),by lia,rfl,hlt,p'⟩,λx H' y=>?_⟩;obtain ⟨e,y⟩:=y;subst e;exact hs i x σ _ (y xs q) p
 ·have e:i=xs.length:=by lia
  subst e;exact .inl ⟨⟨xs,q,Yae _⟩,hd σ H p⟩
theorem Oq {lo:Int}{n:Nat}{g:TG}{tb:TS}{D:ZaD}{σ:St}{H:Hp}(Pv:Nat->St->Hp->Prop)(h0:Pv 0 σ H)(hs:∀i σ H,i<n->Pv i σ H->g (.int (lo+i)) σ H λσ2 H2=>tb { D with nx:=Pv (i+1),ct:=Pv (i+1),bk:=D.nx } σ2 H2)(hd:∀ σ H,Pv n σ H->D.nx σ H) :
  ∃W:Nat->Nat->St->Hp->Prop,(∃m,W 0 m σ H)/\∀i m σ H,W i m σ H ->
   ((Itr lo n).stop i H/\D.nx σ H)\/((Itr lo n).go i H/\∃N:St->Hp->Prop,(∀ σ' H',N σ' H'->∃m',m'<m/\W (i+1) m' σ' H')/\∀x H',(Itr lo n).yld i H x H'->g x σ H' λσ2 H2=>tb { D with nx:=N,ct:=N,bk:=D.nx } σ2 H2):=by
 refine ⟨λi m σ H=>m=n-i/\i<=n/\Pv i σ H,⟨n,by simp,Yao _,h0⟩,?_⟩;rintro i m σ H ⟨rfl,hi,p⟩;by_cases hlt:i<n
 ·refine .inr ⟨hlt,Pv (i+1),λσ' H' p'=>⟨n-(i+1),by lia,rfl,hlt,p'⟩,λx H' y=>?_⟩;obtain ⟨e,y⟩:=y;subst e y;exact hs i σ _ hlt p
 ·have e:i=n:=by lia
  subst e;exact .inl ⟨Yae _,hd σ H p⟩
noncomputable abbrev R2:=V->V->Hp->VK->Prop
noncomputable def OpR (X:Cx)(f:Value->Value->Sem Value)(r:R2):Prop:=
 ∀(qQ:List (Addr×Obj))(s:Shared)(σ:St)(H:Hp)(x y:V)(v u:Value)(Q:VK),Inv X qQ σ H s->RelV x v->RelV y u->r x y H Q ->
  wpAny (model X.prog X.w) X.A (f v u) (EP X qQ σ Q) X.xe s
noncomputable def UnR (X:Cx)(f:Value->Sem Value)(r:V->Hp->VK->Prop):Prop:=
 ∀(qQ:List (Addr×Obj))(s:Shared)(σ:St)(H:Hp)(x:V)(v:Value)(Q:VK),Inv X qQ σ H s->RelV x v->r x H Q ->
  wpAny (model X.prog X.w) X.A (f v) (EP X qQ σ Q) X.xe s
noncomputable def JR (X:Cx)(f:Value)(r:List V->Hp->VK->Prop):Prop:=
 ∀(qQ:List (Addr×Obj))(s:Shared)(σ:St)(H:Hp)(xs:List V)(us:List Value)(Q:VK),Inv X qQ σ H s->Vals xs us->r xs H Q ->
  wpAny (model X.prog X.w) X.A (call f us) (EP X qQ σ Q) X.xe s
noncomputable def ZgE (X:Cx)(r:V->Hp->(Bool->Hp->Prop)->Prop):Prop:=
 ∀(qQ:List (Addr×Obj))(s:Shared)(σ:St)(H:Hp)(x:V)(v:Value)(Q:Bool->Hp->Prop),Inv X qQ σ H s->RelV x v->r x H Q ->
  wpAny (model X.prog X.w) X.A (truthy v) (TP X qQ σ Q) X.xe s
noncomputable def tOp (r:R2)(ta tb:TE):TE:=λσ H Q=>ta σ H λx H1=>tb σ H1 λy H2=>r x y H2 Q
noncomputable def tUn (r:V->Hp->VK->Prop)(ta:TE):TE:=λσ H Q=>ta σ H λx H1=>r x H1 Q
noncomputable def rI (C:Int->Int->Prop)(g:Int->Int->V):R2:=λx y H Q=>∃i j,x=.int i/\y=.int j/\C i j/\Q (g i j) H
noncomputable def rI0 (g:Int->Int->V):R2:=λx y H Q=>∃i j,x=.int i/\y=.int j/\Q (g i j) H
noncomputable def rU (g:Int->V):V->Hp->VK->Prop:=λx H Q=>∃i,x=.int i/\Q (g i) H
section
variable {X:Cx}{a b c:Expr}{ta tb tc:TE}{pos:Pos}
theorem Zfv (ha:PE X a ta)(hb:PE X b tb){qQ:List (Addr×Obj)}{s:Shared}{σ:St}{H:Hp}{R:V->V->Hp->Prop}(I:Inv X qQ σ H s)(h:ta σ H λx H1=>tb σ H1 λy H2=>R x y H2){Q:EX}{f:Value->Value->Sem Value}(hf:∀v u s2 x y H2,Inv X qQ σ H2 s2->RelV x v->RelV y u->R x y H2->wpAny (model X.prog X.w) X.A (f v u) Q X.xe s2) :
  wpAny (model X.prog X.w) X.A (eval a X.env) (λv s₁=>wpAny (model X.prog X.w) X.A (eval b X.env) (λu s₂=>wpAny (model X.prog X.w) X.A (f v u) Q X.xe s₂) X.xe s₁) X.xe s:=by
 refine thn (ha qQ s σ H _ I h) λv s1 ⟨x,H1,I1,r1,q1⟩=>?_;refine thn (hb qQ s1 σ H1 _ I1 q1) λu s2 ⟨y,H2,I2,r2,q2⟩=>?_;exact hf v u s2 x y H2 I2 r1 r2 q2
theorem Gk {op:Operator}{r:R2}(ho:OpR X (binaryOp op) r)(ha:PE X a ta)(hb:PE X b tb):PE X (.BinOp a op b pos) (tOp r ta tb):=by
 intro qQ s σ H Q I h;exact wpAny_BinOp (Zfv ha hb I h λv u s2 x y H2 I2 rx ry q=>ho qQ s2 σ H2 x y v u Q I2 rx ry q)
theorem Zfw {op:UnaryOp}{r:V->Hp->VK->Prop}(ho:UnR X (unaryOp op) r)(ha:PE X a ta):PE X (.UnaryOp op a pos) (tUn r ta):=by
 intro qQ s σ H Q I h;exact UnaryOp_ (thn (ha qQ s σ H _ I h) λv s1 ⟨x,H1,I1,r1,q1⟩=>ho qQ s1 σ H1 x v Q I1 r1 q1)
theorem opI {f:Value->Value->Sem Value}{C:Int->Int->Prop}{g:Int->Int->Int}(rule:∀(i j:Int)(t u:Tok)(s:Shared)(Q:EX)(E:EX),C i j->Q (.int (g i j) s.toks) { s with toks:=s.toks+1 }->wpAny (model X.prog X.w) X.A (f (.int i t) (.int j u)) Q E s) :
  OpR X f (rI C λi j=>.int (g i j)):=by
 intro qQ s σ H x y v u Q I rx ry h;obtain ⟨i,j,rfl,rfl,hc,q⟩:=h;obtain ⟨t,rfl⟩:=rx;obtain ⟨t',rfl⟩:=ry;exact rule i j t t' s _ _ hc ⟨.int (g i j),H,I.tok _,⟨_,rfl⟩,q⟩
theorem Zgg {f:Value->Value->Sem Value}{g:Int->Int->Int}(rule:∀(i j:Int)(t u:Tok)(s:Shared)(Q:EX)(E:EX),Q (.int (g i j) s.toks) { s with toks:=s.toks+1 }->wpAny (model X.prog X.w) X.A (f (.int i t) (.int j u)) Q E s) :
  OpR X f (rI0 λi j=>.int (g i j)):=by
 intro qQ s σ H x y v u Q I rx ry h;obtain ⟨i,j,rfl,rfl,q⟩:=h;obtain ⟨t,rfl⟩:=rx;obtain ⟨t',rfl⟩:=ry;exact rule i j t t' s _ _ ⟨.int (g i j),H,I.tok _,⟨_,rfl⟩,q⟩
theorem Ze5 {f:Value->Value->Sem Value}{g:Int->Int->Bool}(rule:∀(i j:Int)(t u:Tok)(s:Shared)(Q:EX)(E:EX),Q (.bool (g i j)) s->wpAny (model X.prog X.w) X.A (f (.int i t) (.int j u)) Q E s) :
  OpR X f (rI0 λi j=>.bl (g i j)):=by
 intro qQ s σ H x y v u Q I rx ry h;obtain ⟨i,j,rfl,rfl,q⟩:=h;obtain ⟨t,rfl⟩:=rx;obtain ⟨t',rfl⟩:=ry;exact rule i j t t' s _ _ ⟨.bl (g i j),H,I,rfl,q⟩
noncomputable def ZgF (i j:Int):Prop:=0<=j/\j<=1000000/\i.natAbs<2 ^ 64
noncomputable def CMul (i j:Int):Prop:=(-(2 ^ 64)<i/\i<2 ^ 64)\/(-(2 ^ 64)<j/\j<2 ^ 64)
theorem CMul.ok {i j:Int}(h:CMul i j):IntMulOk i j:=by
 rcases h with ⟨h1,h2⟩ | ⟨h1,h2⟩
 ·exact .of_left (intBits_le_64 h1 h2)
 ·exact .of_right (intBits_le_64 h1 h2)
theorem Jy:OpR X (binaryOp .Add) (rI0 λi j=>.int (i+j)):=Zgg λ_ _ _ _ _ _ _ q=>add_int q
theorem JO:OpR X (binaryOp .Sub) (rI0 λi j=>.int (i-j)):=Zgg λ_ _ _ _ _ _ _ q=>sub_int q
theorem Oe:OpR X (binaryOp .Mult) (rI CMul λi j=>.int (i * j)):=opI λ_ _ _ _ _ _ _ hc q=>mul_int q hc.ok
theorem GW:OpR X (binaryOp .Mod) (rI (λ_ j=>0<j) λi j=>.int (i % j)):=opI λi j _ _ _ _ _ hc q=>by
 have h1:(0:Int)<j:=hc;exact mod_int' (by lia) (by rw [Int.fmod_eq_emod_of_nonneg i (by lia)];exact q)
theorem Xh:OpR X (binaryOp .Pow) (rI ZgF λi j=>.int (i ^ j.toNat)):=opI λ_ _ _ _ _ _ _ hc q=>pow_int_small hc.1 hc.2.1 hc.2.2 q
noncomputable def Zgh:V->V->Bool
 | .non,.non=>true | .non,.int _=>true | .int _,.non=>true | .non,.bl _=>true | .bl _,.non=>true | .non,.str _=>true | .str _,.non=>true
 | .int _,.int _=>true | .bl _,.bl _=>true | .str _,.str _=>true | .byt _,.byt _=>true
 | .int _,.str _=>true | .str _,.int _=>true | .bl _,.str _=>true | .str _,.bl _=>true
 | _,_=>false
noncomputable def rEq:R2:=λx y H Q=>Zgh x y=true/\Q (.bl (decide (x=y))) H
noncomputable def rNe:R2:=λx y H Q=>Zgh x y=true/\Q (.bl (!decide (x=y))) H
theorem Y1 {i j:Int}:decide (V.int i=V.int j)=(i == j):=by
 rw [Bool.eq_iff_iff];simp
theorem ZbR {i j:Bool}:decide (V.bl i=V.bl j)=(i == j):=by
 rw [Bool.eq_iff_iff];simp
theorem Y2 {i j:Str}:decide (V.str i=V.str j)=(i == j):=by
 rw [Bool.eq_iff_iff];simp
theorem Y3 {i j:Array UInt8}:decide (V.byt i=V.byt j)=(i.toList == j.toList):=by
 rw [Bool.eq_iff_iff];cases i;cases j;simp
theorem GC {qQ:List (Addr×Obj)}{σ:St}{H:Hp}{s:Shared}{Q:VK}{k k':Bool}(I:Inv X qQ σ H s)(q:Q (.bl k) H)(e:k=k'):EP X qQ σ Q (.bool k') s:=by
 subst e;exact ⟨.bl k,H,I,rfl,q⟩
theorem Ob:OpR X (compareOp .Eq) rEq:=by
 intro qQ s σ H x y v u Q I rx ry h;obtain ⟨hs,q⟩:=h;cases x with
 | non=>
  cases rx;cases y with
  | non=>cases ry;exact PySem.EqNone.eq_none_none (GC I q (by simp))
  | bl j=>cases ry;exact PySem.EqNone.eq_none_bool (GC I q (by simp))
  | int j=>obtain ⟨t',rfl⟩:=ry;exact PySem.EqNone.eq_none_int (GC I q (by simp))
  | str j=>obtain ⟨t',rfl⟩:=ry;exact PySem.EqNone.eq_none_str (GC I q (by simp))
  | _=>exact absurd (show false=true from hs) Yaj
 | bl i=>
  cases rx;cases y with
  | non=>cases ry;exact PySem.EqNone.eq_bool_none (GC I q (by simp))
  | bl j=>cases ry;exact eq_bool (GC I q ZbR)
  | str j=>obtain ⟨t',rfl⟩:=ry;exact PySem.EqMixed.eq_bool_str (GC I q (by simp))
  | _=>exact absurd (show false=true from hs) Yaj
 | int i=>
  obtain ⟨t,rfl⟩:=rx;cases y with
  | non=>cases ry;exact PySem.EqNone.eq_int_none (GC I q (by simp))
  | int j=>obtain ⟨t',rfl⟩:=ry;exact eq_int (GC I q Y1)
  | str j=>obtain ⟨t',rfl⟩:=ry;exact PySem.EqMixed.eq_int_str (GC I q (by simp))
  | _=>exact absurd (show false=true from hs) Yaj
 | str i=>
  obtain ⟨t,rfl⟩:=rx;cases y with
  | non=>cases ry;exact PySem.EqNone.eq_str_none (GC I q (by simp))
  | bl j=>cases ry;exact PySem.EqMixed.eq_str_bool (GC I q (by simp))
  | int j=>obtain ⟨t',rfl⟩:=ry;exact PySem.EqMixed.eq_str_int (GC I q (by simp))
  | str j=>obtain ⟨t',rfl⟩:=ry;exact eq_str (GC I q Y2)
  | _=>exact absurd (show false=true from hs) Yaj
 | byt i=>
  obtain ⟨t,rfl⟩:=rx;cases y with
  | byt j=>obtain ⟨t',rfl⟩:=ry;exact W.eq_bytes (GC I q Y3)
  | _=>exact absurd (show false=true from hs) Yaj
 | _=>cases y <;> exact absurd (show false=true from hs) Yaj
theorem ZaL:OpR X (compareOp .NotEq) rNe:=by
 intro qQ s σ H x y v u Q I rx ry h;obtain ⟨hs,q⟩:=h;cases x with
 | non=>
  cases rx;cases y with
  | non=>cases ry;exact PySem.EqNone.ne_none_none (GC I q (by simp))
  | bl j=>cases ry;exact PySem.EqNone.ne_none_bool (GC I q (by simp))
  | int j=>obtain ⟨t',rfl⟩:=ry;exact PySem.EqNone.ne_none_int (GC I q (by simp))
  | str j=>obtain ⟨t',rfl⟩:=ry;exact PySem.EqNone.ne_none_str (GC I q (by simp))
  | _=>exact absurd (show false=true from hs) Yaj
 | bl i=>
  cases rx;cases y with
  | non=>cases ry;exact PySem.EqNone.ne_bool_none (GC I q (by simp))
  | bl j=>cases ry;exact ne_bool (GC I q (Ybf not ZbR))
  | str j=>obtain ⟨t',rfl⟩:=ry;exact PySem.EqMixed.ne_bool_str (GC I q (by simp))
  | _=>exact absurd (show false=true from hs) Yaj
 | int i=>
  obtain ⟨t,rfl⟩:=rx;cases y with
  | non=>cases ry;exact PySem.EqNone.ne_int_none (GC I q (by simp))
  | int j=>obtain ⟨t',rfl⟩:=ry;exact ne_int (GC I q (Ybf not Y1))
  | str j=>obtain ⟨t',rfl⟩:=ry;exact PySem.EqMixed.ne_int_str (GC I q (by simp))
  | _=>exact absurd (show false=true from hs) Yaj
 | str i=>
  obtain ⟨t,rfl⟩:=rx;cases y with
  | non=>cases ry;exact PySem.EqNone.ne_str_none (GC I q (by simp))
  | bl j=>cases ry;exact PySem.EqMixed.ne_str_bool (GC I q (by simp))
  | int j=>obtain ⟨t',rfl⟩:=ry;exact PySem.EqMixed.ne_str_int (GC I q (by simp))
  | str j=>obtain ⟨t',rfl⟩:=ry;exact ne_str (GC I q (Ybf not Y2))
  | _=>exact absurd (show false=true from hs) Yaj
 | byt i=>
  obtain ⟨t,rfl⟩:=rx;cases y with
  | byt j=>obtain ⟨t',rfl⟩:=ry;exact W.ne_bytes (GC I q (Ybf not Y3))
  | _=>exact absurd (show false=true from hs) Yaj
 | _=>cases y <;> exact absurd (show false=true from hs) Yaj
theorem ZdB:OpR X (compareOp .Lt) (rI0 λi j=>.bl (decide (i<j))):=Ze5 λ_ _ _ _ _ _ _ q=>lt_int q
theorem ZdC:OpR X (compareOp .LtE) (rI0 λi j=>.bl (decide (i<=j))):=Ze5 λ_ _ _ _ _ _ _ q=>le_int q
theorem WE:OpR X (compareOp .Gt) (rI0 λi j=>.bl (decide (j<i))):=Ze5 λ_ _ _ _ _ _ _ q=>gt_int q
theorem Zfx:OpR X (compareOp .GtE) (rI0 λi j=>.bl (decide (j<=i))):=Ze5 λ_ _ _ _ _ _ _ q=>ge_int q
theorem Zcn:OpR X (compareOp .IsNot) (λx y H Q=>y=.non/\Q (.bl (!decide (x=.non))) H):=by
 intro qQ s σ H x y v u Q I rx ry h;obtain ⟨rfl,q⟩:=h;cases ry;refine isnot_none_gen (GC I q ?_);cases x <;> first
  | (cases rx;rfl)
  | (obtain ⟨t,rfl⟩:=rx;rfl)
theorem Gx (b:Expr){op:CmpOp}(h:op≠.In:=by decide)(h2:op≠.NotIn:=by decide):behindInMarks op b=false:=by
 have e1:(op == CmpOp.In)=false:=by cases op <;> first | rfl | exact absurd rfl h
 have e2:(op == CmpOp.NotIn)=false:=by cases op <;> first | rfl | exact absurd rfl h2
 cases b <;> simp [behindInMarks,e1,e2]
theorem Ur {op:CmpOp}{r:R2}(ho:OpR X (compareOp op) r)(ha:PE X a ta)(hb:PE X b tb)(hm:behindInMarks op b=false):PE X (.Compare a [op] [b] pos) (tOp r ta tb):=by
 intro qQ s σ H Q I h;exact wpAny_Compare1 (Zfv ha hb I h λv u s2 x y H2 I2 rx ry q=>ho qQ s2 σ H2 x y v u Q I2 rx ry q) hm
noncomputable def Zfy (t:TE):TT:=λσ H Q=>t σ H λx H'=>∃k,x=.bl k/\Q k H'
theorem Gp {op:CmpOp}{r:R2}(ho:OpR X (compareOp op) r)(ha:PE X a ta)(hb:PE X b tb)(hm:behindInMarks op b=false):PT X (.Compare a [op] [b] pos) (Zfy (tOp r ta tb)):=by
 intro qQ s σ H Q I h;refine wpAny_isTrue_Compare1 (thn (ha qQ s σ H _ I h) λv s1 ⟨x,H1,I1,r1,q1⟩=>thn (hb qQ s1 σ H1 _ I1 q1) λu s2 ⟨y,H2,I2,r2,q2⟩=>
  thn (ho qQ s2 σ H2 x y v u _ I2 r1 r2 q2) λc s3 ⟨z,H3,I3,r3,k,e,q3⟩=>?_) hm
 subst e;cases r3;exact Ydl ⟨H3,I3,q3⟩
noncomputable def Zfz (K:W.Frag)(x:V)(H:Hp)(k:Bool):Prop:=
 match x with
 | .non=>k=false
 | .bl b=>k=b
 | .int i=>k=(i != 0)
 | .str y=>y.length<=sizeLine/\k=((y.length:Int) != 0)
 | .byt y=>y.size<=sizeLine/\k=((y.size:Int) != 0)
 | .ref p=>(∃xs,SqL K H p xs/\k=!xs.isEmpty)\/(∃xs,SqT K H p xs/\k=!xs.isEmpty)\/∃kvs,H p=some (.dK kvs)/\k=!kvs.isEmpty
 | _=>False
theorem X4 {κ:Type}{kvs:List (κ×V)}{vs:List (κ×Value)}(r:KV kvs vs):(!vs.isEmpty)=!kvs.isEmpty:=by
 cases r <;> rfl
theorem UO {xs:List V}{its:List Value}(r:Vals xs its):(!its.toArray.isEmpty)=!xs.isEmpty:=by
 cases r <;> simp
theorem VY:(sizeLine:Nat)<2 ^ 63:=by rw [Ybh];decide
theorem ZdD:ZgE X (λx H Q=>∃k,Zfz X.K x H k/\Q k H):=by
 intro qQ s σ H x v Q I rx h;obtain ⟨k,e,q⟩:=h;have hl:=VY;have hs:sizeLine=16777216:=Ybh;cases x with
 | non=>
  cases rx;have e':k=false:=e;subst e';exact truthy_none ⟨H,I,q⟩
 | bl b=>
  cases rx;have e':k=b:=e;subst e';exact Ydl ⟨H,I,q⟩
 | int i=>
  obtain ⟨t,rfl⟩:=rx;have e':k=(i != 0):=e;subst e';exact PySem.P.truthy_int ⟨H,I,q⟩
 | str y=>
  obtain ⟨t,rfl⟩:=rx;obtain ⟨hy,e'⟩:y.length<=sizeLine/\k=((y.length:Int) != 0):=e;subst e';exact PySem.P.truthy_str (by lia) ⟨H,I.tok _,q⟩
 | byt y=>
  obtain ⟨t,rfl⟩:=rx;obtain ⟨hy,e'⟩:y.size<=sizeLine/\k=((y.size:Int) != 0):=e;subst e';exact W.truthy_bytes (by lia) ⟨H,I.tok _,q⟩
 | ref p=>
  cases rx;have e':(∃xs,SqL X.K H p xs/\k=!xs.isEmpty)\/(∃xs,SqT X.K H p xs/\k=!xs.isEmpty)\/∃kvs,H p=some (.dK kvs)/\k=!kvs.isEmpty:=e;rcases e' with ⟨xs,hx,e'⟩ | ⟨xs,hx,e'⟩ | ⟨kvs,hx,e'⟩
  ·subst e';obtain ⟨its,r,pl,hz⟩:=I.list hx;have qV:=r.length;exact wpAny_truthy_list pl.isList (by simp only [Yan];lia) ⟨H,I.tok _,by rw [UO r];exact q⟩
  ·subst e';obtain ⟨its,r,pl,hz⟩:=I.tuple hx;have qV:=r.length;exact truthy_tuple pl (by simp only [Yan];lia) ⟨H,I.tok _,by rw [UO r];exact q⟩
  ·subst e';obtain ⟨hz,hS,vs,r,m⟩:kvs.length<=sizeLine/\(p == sysModules)=false/\∃vs,KV kvs vs/\s.heap.DictOf (GY X.prog X.w) p vs:=I.hok p _ hx;have qV:kvs.length=vs.length:=Ycj r;exact wpAny_truthy_dict hS m (by lia) ⟨H,I.tok _,by rw [X4 r];exact q⟩
 | _=>exact (show False from e).elim
theorem Ua (ha:PE X a ta)(he:∀whole,isTrue a X.env whole=(do let v <- whole;standAt a.pos;holding [v] (truthy v))) :
  PT X a (λσ H Q=>ta σ H λx H'=>∃k,Zfz X.K x H' k/\Q k H'):=by
 intro qQ s σ H Q I h;exact isTrue_plain (thn (ha qQ s σ H _ I h) λv s1 ⟨x,H1,I1,r1,q1⟩=>ZdD qQ s1 σ H1 x v Q I1 r1 q1) (he _)
theorem Zco {x:V}{us:List Value}(r:Vals [x] us):∃u,us=[u]/\RelV x u:=by
 cases r with
 | cons r1 r2=>cases r2;exact ⟨_,rfl,r1⟩
theorem ZfA {x y:V}{us:List Value}(r:Vals [x,y] us):∃u w',us=[u,w']/\RelV x u/\RelV y w':=by
 cases r with
 | cons r1 r2=>
  cases r2 with
  | cons r3 r4=>cases r4;exact ⟨_,_,rfl,r1,r3⟩
theorem VZ (hc:X.calm=true):JR X (.builtin "min") (λxs H Q=>∃i j,xs=[.int i,.int j]/\Q (.int (if j<i then j else i)) H):=by
 intro qQ s σ H xs us Q I r h;obtain ⟨i,j,rfl,q⟩:=h;obtain ⟨u,w',rfl,⟨t,rfl⟩,⟨t',rfl⟩⟩:=ZfA r;refine min_two_ints (I.ok.hd hc) λh' tk k=>⟨_,H,I.kept k,?_,q⟩;by_cases hj:j<i
 ·rw [if_pos hj,if_pos hj];exact ⟨_,rfl⟩
 ·rw [if_neg hj,if_neg hj];exact ⟨_,rfl⟩
end
structure ObjM (h:Heap)(x dx C:Addr)(mA:Str->Option Value):Prop where
 obj:h.get? x=some (W.instObj C dx)
 ns:h.Ns1 dx mA
 ne:dx≠x
theorem Y4 {h:Heap}{dx:Addr}{mA:Str->Option Value}(n:h.Ns1 dx mA):∃od,h.get? dx=some od/\∀name,W.lookIn name od=some (mA name):=by
 obtain ⟨o,es,ep,ho,hd,hk,_,hm⟩:=n;refine ⟨o,ho,λname=>?_⟩;have e:=hm name;unfold nsFind findBy at e;rw [<-Array.find?_toList] at e;unfold W.lookIn;rw [hd];dsimp only;split
 ·rename_i y q;rw [q] at e;exact Ybf some e
 ·rename_i q;rw [q] at e;have a:es.toList.any (·.refKey)=false:=by
   rw [List.any_eq_false];intro y hy;obtain ⟨z,t,hkey⟩:=hk y (Array.mem_toList_iff.mp hy);simp [DictEntry.refKey,hkey]
  have a':¬ es.toList.any (·.refKey)=true:=by rw [a];exact Yaj
  rw [if_neg a'];exact Ybf some e
theorem ObjM.look {h:Heap}{x dx C:Addr}{mA:Str->Option Value}(I:ObjM h x dx C mA):∃od,W.InstAt h x (W.instObj C dx) C (some od)/\∀name,W.lookIn name od=some (mA name):=
 let ⟨od,ho,hl⟩:=Y4 I.ns
 ⟨od,⟨I.obj,rfl,rfl,ho⟩,hl⟩
section
variable {prog:Program}{w:World}{A:Around}{E:EX}{s:Shared}{K:W.Frag}{x dx C f:Addr}{mA:Str->Option Value}{name:Str}{v:Value}
theorem Zcp {expr:Bool}{Q:EX}(X:K.In s.heap)(I:ObjM s.heap x dx C mA)(hg:W.plainGet K C name=true)(hh:W.hasDictIn K C=true)(ha:W.findIn K (.ref C) name=some none)(hv:mA name=some v)(hv':W.handedIn v=true)(h:Q v { s with toks:=s.toks+1 }) :
  wpAny (model prog w) A (getAttr (.ref x) name expr) Q E s:=by
 obtain ⟨od,J,hl⟩:=I.look;exact W.get_value X J (W.plainGet_of hg).1 (W.findObj_own hh ha rfl (by rw [hl,hv])) hv' h
theorem ZaM {pl:Sem Bool}{Q:Value×List Value->Shared->Prop}(X:K.In s.heap)(I:ObjM s.heap x dx C mA)(hg:W.plainGet K C name=true)(hf:W.findIn K (.ref C) name=some (some (.ref f)))(ht:W.isFn K (.ref f)=true)(hv:mA name=none)(h:Q (.ref f,[.ref x]) s) :
  wpAny (model prog w) A (getMethod (.ref x) name pl) Q E s:=by
 obtain ⟨od,J,hl⟩:=I.look;exact W.method_fn X J (W.plainGet_of hg).1 (W.plainGet_of hg).2 hf (Yaz.mp ht) (by show (W.lookIn name od).map (·.isSome)=some false;rw [hl,hv];rfl) h
theorem Zcq {ns:List Str}{Q:Unit->Shared->Prop}(X:K.In s.heap)(I:ObjM s.heap x dx C mA)(hs:W.findIn K (.ref C) "__setattr__" = some (some (.builtin "object.__setattr__")))(hp:W.plainOver K C=true)(ht:W.takerIn K C name=some none)(hh:W.hasDictIn K C=true)(hw:PySem.Within mA ns)(hsz:ns.length<=sizeLine)(h:∀h',ObjM h' x dx C (λy=>if y=name then some v else mA y)->Heap.SameBut dx s.heap h'->Q () { s with heap:=h',toks:=s.toks+2 }) :
  wpAny (model prog w) A (setAttr (.ref x) name v) Q E s:=by
 obtain ⟨od,J,hl⟩:=I.look;refine W.set_plain X J hs (W.osa_open (s:={ s with toks:=s.toks+1 }) (r:=none) X J hp ht λb=>?_);obtain ⟨cd,hc,hd'⟩:=W.any_some hh;have hx:s.heap.get? x=some ⟨.ref C,some dx,.plain,#[]⟩:=I.obj;refine Yaa (Yab (Yaa (Yaa (wpAny_loadPart hx (Yaa (W.Looks.here (s:={ s with toks:=s.toks+1 }) (W.looks_clsIn X hc) ?_))))));rw [hd'];refine Yab (a:=some dx) (Yaa (Yab (Yaa ?_)));refine wpAny_nsSet1 (s:={ s with toks:=s.toks+1 }) I.ns λh' hn2 hs2=>?_;obtain ⟨oD,esD,epD,hoD,hdD,hcD⟩:=hn2.count (PySem.Within.cons name v hw);refine Yaa (wpAny_lookBehind hoD (by rw [hdD];exact pastItsLine_dict (Ybr hcD (by rw [Ybn];lia))) ?_);exact Yab (h _ ⟨(hs2.2 _ (Ne.symm I.ne)).trans I.obj,hn2,I.ne⟩ hs2)
theorem ZaN {R:Result->Shared->Prop}{vs:List Value}{kw:List (Str×Value)}(X:K.In s.heap)(hm:W.makesIn K C=true)(hi:W.findIn K (.ref C) "__init__" = some (some (.ref f)))(hf:W.typeIn K (.ref f)=some (.type "function"))(h:codeAny (model prog w) (A.under (.builtin "type.__call__" ⟨.ref C::vs,kw⟩)) (.call (.ref f) ⟨.ref (s.heap.objs.size+1)::vs,kw⟩) (W.InitBack (s.heap.objs.size+1) R)
   { s with heap:=(s.heap.push W.emptyDict).push (W.instObj C s.heap.objs.size) }) :
  codeAny (model prog w) A (.call (.ref C) ⟨vs,kw⟩) R s:=by
 obtain ⟨hh,g,d,t,os⟩:=s;exact W.make_core (W.makes_of X hm) (W.looks_findIn X hi) (λself=>W.bind_fn X self hf) (.inl rfl) h
end
noncomputable def O0 (f:Str)(v:V):List (Str×V)->List (Str×V)
 | []=>[(f,v)]
 | (g,x)::r=>if g=f then (g,v)::r else (g,x)::O0 f v r
theorem GE (f g:Str)(v:V):∀fs:List (Str×V),(O0 f v fs).lookup g=if g=f then some v else fs.lookup g
 | []=>by
  show List.lookup g [(f,v)]=_;by_cases h:g=f
  ·have hb:(g == f)=true:=Yaz.mpr h;simp only [List.lookup,hb,if_pos h]
  ·have hb:(g == f)=false:=Ydk.mpr h;simp only [List.lookup,hb,if_neg h]
 | (k,x)::r=>by
  have ih:=GE f g v r;rw [show O0 f v ((k,x)::r)=(if k=f then (k,v)::r else (k,x)::O0 f v r) from rfl];by_cases hk:k=f
  ·rw [if_pos hk];by_cases h:g=k
   ·have hb:(g == k)=true:=Yaz.mpr h;simp only [List.lookup,hb,if_pos (h.trans hk)]
   ·have hb:(g == k)=false:=Ydk.mpr h;simp only [List.lookup,hb,if_neg (λe:g=f=>h (e.trans hk.symm))]
  ·rw [if_neg hk];by_cases h:g=k
   ·have hb:(g == k)=true:=Yaz.mpr h;simp only [List.lookup,hb,if_neg (λe:g=f=>hk (h.symm.trans e))]
   ·have hb:(g == k)=false:=Ydk.mpr h;simp only [List.lookup,hb];exact ih
theorem Us (f:Str)(v:V):∀fs:List (Str×V),f∈(O0 f v fs).map (·.1)/\∀g,g∈fs.map (·.1)->g∈(O0 f v fs).map (·.1)
 | []=>⟨by simp [O0],λg h=>by simp at h⟩
 | (k,x)::r=>by
  obtain ⟨i1,i2⟩:=Us f v r;rw [show O0 f v ((k,x)::r)=(if k=f then (k,v)::r else (k,x)::O0 f v r) from rfl];by_cases hk:k=f
  ·rw [if_pos hk];subst hk;exact ⟨by simp,λg h=>by simpa using h⟩
  ·rw [if_neg hk];refine ⟨?_,λg h=>?_⟩
   ·rw [Yap];exact Ybb _ i1
   ·rw [Yap] at h ⊢;rcases Yat.mp h with e | e
    ·exact Yat.mpr (.inl e)
    ·exact Ybb _ (i2 g e)
theorem Ut (f:Str)(v:V):∀fs:List (Str×V),(O0 f v fs).length<=fs.length+1
 | []=>by simp [O0]
 | (k,x)::r=>by
  have ih:=Ut f v r;rw [show O0 f v ((k,x)::r)=(if k=f then (k,v)::r else (k,x)::O0 f v r) from rfl];by_cases hk:k=f
  ·rw [if_pos hk,Ybn,Ybn];lia
  ·rw [if_neg hk,Ybn,Ybn];lia
theorem RelO.some_of {v:V}{o:Option Value}(r:RelO (some v) o):∃u,o=some u/\RelV v u:=by
 cases o with
 | none=>exact (show False from r).elim
 | some u=>exact ⟨u,rfl,r⟩
theorem RelO.none_of {o:Option Value}(r:RelO none o):o=none:=by
 cases o with
 | none=>rfl
 | some u=>exact (show False from r).elim
theorem Y5 {v:V}{u:Value}(r:RelV v u):W.handedIn u=true:=by
 cases v with
 | non=>cases (show u=Value.none from r);rfl
 | bl b=>cases (show u=Value.bool b from r);rfl
 | int i=>obtain ⟨t,e⟩:=(show ∃t,u=Value.int i t from r);cases e;rfl
 | str x=>obtain ⟨t,e⟩:=(show ∃t,u=Value.str x t from r);cases e;rfl
 | byt b=>obtain ⟨t,e⟩:=(show ∃t,u=Value.bytes b t from r);cases e;rfl
 | flt b=>obtain ⟨t,e⟩:=(show ∃t,u=Value.float b t from r);cases e;rfl
 | ref a=>cases (show u=Value.ref a from r);rfl
 | ty n=>cases (show u=Value.type n from r);rfl
section
variable {P:Program}{w:World}{H H':Hp}{h h':Heap}{a C dx:Addr}{fs fs':List (Str×V)}
theorem Vc (hok:HOk P w H h)(e:H a=some (.ins C dx fs)):∃mA,ObjM h a dx C mA/\(∀f,RelO (fs.lookup f) (mA f))/\PySem.Within mA (fs.map (·.1))/\fs.length<=1000/\H dx=some (.own a):=by
 obtain ⟨d,z,ne,ob,mA,n,r,q⟩:=(show ObjOk P w H h a (.ins C dx fs) from hok a _ e);exact ⟨mA,⟨ob,n,ne⟩,r,q,z,d⟩
end
structure Cls (K:W.Frag)(C:Addr):Prop where
 pg:W.plainGet K C Str.empty=true
 hd:W.hasDictIn K C=true
 po:W.plainOver K C=true
 sa:W.findIn K (.ref C) "__setattr__" = some (some (.builtin "object.__setattr__"))
theorem Cls.get {K:W.Frag}{C:Addr}(c:Cls K C)(f:Str):W.plainGet K C f=true:=c.pg
noncomputable def NoAttr (K:W.Frag)(C:Addr)(f:Str):Prop:=W.findIn K (.ref C) f=some none
theorem NoAttr.taker {K:W.Frag}{C:Addr}{f:Str}(n:NoAttr K C f):W.takerIn K C f=some none:=by
 unfold W.takerIn;rw [show W.findIn K (.ref C) f=some none from n]
 rfl
structure ZfB (K:W.Frag)(C:Addr)(m:Str)(f:Addr):Prop where
 at_:W.findIn K (.ref C) m=some (some (.ref f))
 fn:W.isFn K (.ref f)=true
 kp:W.keepIn K (.ref f)=true
section
variable {X:Cx}{qQ:List (Addr×Obj)}{σ:St}{H:Hp}{s:Shared}{a C dx:Addr}{fs:List (Str×V)}{f:Str}{v:V}{A:Around}{E:EX}
theorem X5 {b:Bool}{Q:EX}(I:Inv X qQ σ H s)(e:H a=some (.ins C dx fs))(c:Cls X.K C)(n:NoAttr X.K C f)(l:fs.lookup f=some v)(h:∀u s',Inv X qQ σ H s'->RelV v u->Q u s'):wpAny (model X.prog X.w) A (getAttr (.ref a) f b) Q E s:=by
 obtain ⟨mA,O,r,_,_,_⟩:=Vc I.hok e;obtain ⟨u,hu,ru⟩:=RelO.some_of (v:=v) (o:=mA f) (by rw [<-l];exact r f);exact Zcp I.kIn O (c.get f) c.hd n hu (Y5 ru) (h u _ (I.tok _) ru)
theorem X6 {m:Str}{g:Addr}{pl:Sem Bool}{Q:Value×List Value->Shared->Prop}(I:Inv X qQ σ H s)(e:H a=some (.ins C dx fs))(c:Cls X.K C)(k:ZfB X.K C m g)(l:fs.lookup m=none)(h:Q (.ref g,[.ref a]) s):wpAny (model X.prog X.w) A (getMethod (.ref a) m pl) Q E s:=by
 obtain ⟨mA,O,r,_,_,_⟩:=Vc I.hok e;have hn:mA m=none:=RelO.none_of (by rw [<-l];exact r m);exact ZaM I.kIn O (c.get m) k.at_ k.fn hn h
theorem X7 {y:V}{u:Value}{Q:Unit->Shared->Prop}(I:Inv X qQ σ H s)(e:H a=some (.ins C dx fs))(c:Cls X.K C)(n:NoAttr X.K C f)(hl:fs.length<1000)(ry:RelV y u)(h:∀s',Inv X qQ σ (upd H a (.ins C dx (O0 f y fs))) s'->Q () s'):wpAny (model X.prog X.w) A (setAttr (.ref a) f u) Q E s:=by
 obtain ⟨mA,O,r,wi,_,ho⟩:=Vc I.hok e;have hz:(fs.map (·.1)).length<=sizeLine:=by rw [Yad,Ybh];lia
 refine Zcq I.kIn O c.sa c.po n.taker c.hd wi hz λh' O' sb=>h _ ?_;have hd:∃o,h'.get? dx=some o:=let ⟨o,_,_,e',_⟩:=O'.ns;⟨o,e'⟩;refine I.write (x:=a) (e:=dx) (by rw [e];exact True.intro) (.inr ho) (λb q hb z=>(sb.2 b hb).trans z) hd ?_;refine ⟨by rw [Gi O.ne];exact ho,?_,O.ne,O'.obj,_,O'.ns,λg=>?_,λg hg=>?_⟩
 ·have:=Ut f y fs;lia
 ·show RelO ((O0 f y fs).lookup g) (if g=f then some u else mA g);rw [GE];by_cases q:g=f
  ·rw [if_pos q,if_pos q];exact ry
  ·rw [if_neg q,if_neg q];exact r g
 ·by_cases q:g=f
  ·rw [q];exact (Us f y fs).1
  ·refine (Us f y fs).2 g (wi g λz=>hg ?_);show (if g=f then some u else mA g)=none;rw [if_neg q];exact z
theorem Inv.made (I:Inv X qQ σ H s):Inv X qQ σ (upd (upd H s.heap.objs.size (.own (s.heap.objs.size+1))) (s.heap.objs.size+1) (.ins C s.heap.objs.size []))
  { s with heap:=(s.heap.push W.emptyDict).push (W.instObj C s.heap.objs.size) }:=by
 have e1:(s.heap.push W.emptyDict).get? s.heap.objs.size=some W.emptyDict:=Yay s.heap rfl;have e2:((s.heap.push W.emptyDict).push (W.instObj C s.heap.objs.size)).get? (s.heap.objs.size+1)=some (W.instObj C s.heap.objs.size):=by
  have:=Yay (s.heap.push W.emptyDict) (o:=W.instObj C s.heap.objs.size) rfl
  rwa [Ybx] at this
 have e3:(s.heap.push W.emptyDict).Ns s.heap.objs.size (λ_=>none):=⟨W.emptyDict,#[],_,e1,rfl,(λe he=>absurd he (by simp)),λ_=>rfl⟩;have I1:=I.laid (a:=s.heap.objs.size) (o:=.own (s.heap.objs.size+1)) (h':=s.heap.push W.emptyDict) (t':=s.toks) (λb u q=>Yag _ q) (Yae _) ⟨_,e1⟩;refine I1.laid (a:=s.heap.objs.size+1) (o:=.ins C s.heap.objs.size []) (t':=s.toks) (λb u q=>Yag _ q) (Nat.le_of_eq (Ybx _ _)) ?_;have ne:s.heap.objs.size≠s.heap.objs.size+1:=Yam (Nat.lt_succ_self _);refine ⟨by rw [Gi ne,Gb],Yao _,ne,e2,λ_=>none,(Heap.Ns1.of_empty e3).at λo q=>Yag _ q,λ_=>True.intro,λy hy=>absurd rfl hy⟩
theorem Zcr {prog:Program}{w:World}{env:Env}{e:Expr}{f:Str}{pos:Pos}{s:Shared}{Q:EX}(hb:attributeBase e f env (eval e env)=eval e env)(h:wpAny (model prog w) A (eval e env) (λo s₁=>wpAny (model prog w) A (getAttr o f true) Q E s₁) E s):wpAny (model prog w) A (eval (.Attribute e f pos) env) Q E s:=
 Attribute_any_ h (by rw [arm_eval_Attribute,hb])
end
noncomputable def ZgG (K:W.Frag)(ta:TE)(f:Str):TE:=λσ H Q=>ta σ H λx H1=>∃a C dx fs v,x=.ref a/\H1 a=some (.ins C dx fs)/\Cls K C/\NoAttr K C f/\fs.lookup f=some v/\Q v H1
noncomputable def ZgH (K:W.Frag)(ta tv:TE)(f:Str):TS:=λD σ H=>tv σ H λy H1=>ta σ H1 λx H2=>∃a C dx fs,x=.ref a/\H2 a=some (.ins C dx fs)/\Cls K C/\NoAttr K C f/\fs.length<1000 /\
 D.nx σ (upd H2 a (.ins C dx (O0 f y fs)))
section
variable {X:Cx}{o e value:Expr}{f:Str}{pos pos' tpos:Pos}{ta tv:TE}
theorem Os (he:PE X e ta)(hb:attributeBase e f X.env (eval e X.env)=eval e X.env):PE X (.Attribute e f pos) (ZgG X.K ta f):=by
 intro qQ s σ H Q I h;refine Zcr hb (thn (he qQ s σ H _ I h) λu s1 ⟨x,H1,I1,rx,a,C,dx,fs,v,ex,ea,c,n,l,q⟩=>?_);subst ex;obtain rfl:u=Value.ref a:=rx;exact X5 I1 ea c n l λu' s2 I2 ru=>⟨v,H1,I2,ru,q⟩
theorem Y6 (ha:PE X o ta)(hv:PE X value tv)(hs:swapsWith value (some (.Attribute o f pos')) pos.line X.env=pure false):PS X (.Assign [.Attribute o f pos'] value pos) (ZgH X.K ta tv f):=by
 intro qQ s σ H D I h;refine plainObj_wpAny_Assign_Attribute (thn (hv qQ s σ H _ I h) λu s1 ⟨y,H1,I1,ry,q⟩=>thn (ha qQ s1 σ H1 _ I1 q) λov s2 ⟨x,H2,I2,rx,a,C,dx,fs,ex,ea,c,n,l,q2⟩=>?_) hs;subst ex;obtain rfl:ov=Value.ref a:=rx;exact X7 I2 ea c n l ry λs3 I3=>⟨σ,_,I3,q2⟩
end
section
variable {X:Cx}{qQ:List (Addr×Obj)}{σ:St}{H:Hp}{s:Shared}{A:Around}{E:EX}{Q:EX}{c:Value}{b:Bool}
inductive X8 (K:W.Frag)(H:Hp):V->Value->Prop where
 | non:X8 K H .non (.type "NoneType")
 | bl (x:Bool):X8 K H (.bl x) (.type "bool")
 | int (i:Int):X8 K H (.int i) (.type "int")
 | str (x:Str):X8 K H (.str x) (.type "str")
 | flt (x:UInt64):X8 K H (.flt x) (.type "float")
 | lst {a:Addr} {xs:List V} (e:H a=some (.lst xs)):X8 K H (.ref a) (.type "list")
 | frz {a:Addr} {o:Obj} {xs:List V} (e:H a=some (.frz o (.lst xs))):X8 K H (.ref a) (.type "list")
 | tup {a:Addr} {xs:List V} (e:H a=some (.tup xs)):X8 K H (.ref a) (.type "tuple")
 | dK {a:Addr} {kvs:List (Key×V)} (e:H a=some (.dK kvs)):X8 K H (.ref a) (.type "dict")
 | dT {a:Addr} {kvs:List (List Key×V)} (e:H a=some (.dT kvs)):X8 K H (.ref a) (.type "dict")
 | ins {a C dx:Addr} {fs:List (Str×V)} (e:H a=some (.ins C dx fs)) (cl:Cls K C) (ha:W.findIn K (.ref C) "__class__" = some (some (.builtin "object.__class__")))
   (hn:W.specialIn K (.builtin "object.__class__") "__get__" = some (some (.builtin "getset_descriptor.__get__"))) (htk:W.takesIn K (.builtin "object.__class__")=some true)
   (hm:W.mroIn K C (.type "object")=some true):X8 K H (.ref a) (.ref C)
theorem Y7 {x:V}{u t:Value}(I:Inv X qQ σ H s)(rx:RelV x u)(ty:X8 X.K H x t)(e:W.kitOne X.K t c=some b)(h:∀tk,Q (.bool b) { s with toks:=tk }) :
  wpAny (model X.prog X.w) A (call (.builtin "isinstance") [u,c]) Q E s:=by
 cases ty with
 | non=>cases (show u=Value.none from rx);exact Ycs W.kitx_none I.kIn True.intro e (λz=>nomatch z) h
 | bl y=>cases (show u=Value.bool y from rx);exact Ycs W.kitx_bool I.kIn True.intro e (λz=>nomatch z) h
 | int i=>obtain ⟨t,q⟩:=(show ∃t,u=Value.int i t from rx);cases q;exact Ycs W.kitx_int I.kIn True.intro e (λz=>nomatch z) h
 | str y=>obtain ⟨t,q⟩:=(show ∃t,u=Value.str y t from rx);cases q;exact Ycs W.kitx_str I.kIn True.intro e (λz=>nomatch z) h
 | flt y=>obtain ⟨t,q⟩:=(show ∃t,u=Value.float y t from rx);cases q;exact Ycs W.kitx_float I.kIn True.intro e (λz=>nomatch z) h
 | @lst a xs ea=>
  cases (show u=Value.ref a from rx);obtain ⟨_,_,n,_,h1⟩:=(show ObjOk X.prog X.w H s.heap a (.lst xs) from I.hok a _ ea);exact Ycs W.kitx_list I.kIn ⟨_,h1,rfl⟩ e (λz=>nomatch z) h
 | @frz a ob xs ea=>
  cases (show u=Value.ref a from rx);obtain ⟨_,_,_,n,_,h1⟩:=(show ObjOk X.prog X.w H s.heap a (.frz ob (.lst xs)) from I.hok a _ ea);exact Ycs W.kitx_list I.kIn ⟨_,h1,rfl⟩ e (λz=>nomatch z) h
 | @tup a xs ea=>
  cases (show u=Value.ref a from rx);obtain ⟨_,_,_,p⟩:=(show ObjOk X.prog X.w H s.heap a (.tup xs) from I.hok a _ ea);obtain ⟨o,h1,h2,_⟩:=p;exact Ycs W.kitx_tuple I.kIn ⟨o,h1,h2⟩ e (λz=>nomatch z) h
 | @dK a kvs ea=>
  cases (show u=Value.ref a from rx);obtain ⟨_,_,vs,_,p⟩:=(show ObjOk X.prog X.w H s.heap a (.dK kvs) from I.hok a _ ea);obtain ⟨o,es,ep,h1,h2,_⟩:=p;exact Ycs W.kitx_dict I.kIn ⟨o,h1,h2.1⟩ e (λz=>nomatch z) h
 | @dT a kvs ea=>
  cases (show u=Value.ref a from rx);obtain ⟨_,_,xs,_,o,es,ep,h1,h2,_⟩:=(show ObjOk X.prog X.w H s.heap a (.dT kvs) from I.hok a _ ea);exact Ycs W.kitx_dict I.kIn ⟨o,h1,h2.1⟩ e (λz=>nomatch z) h
 | @ins a C dx fs ea cl ha hn htk hm=>
  cases (show u=Value.ref a from rx);obtain ⟨mA,O,_⟩:=Vc I.hok ea;obtain ⟨od,J,_⟩:=O.look;exact Ycs (W.kitx_own (cl.get _) cl.hd ha hn htk hm) I.kIn J e (λz=>nomatch z) h
end
structure Room (k:Nat)(A:Around):Prop where
 hd:A.handled=none
 dp:A.depth+3 * k+5<recursionLimit
 un:A.units+16 * k+200<cLine
theorem Room.mono {j k:Nat}{A:Around}(r:Room k A)(h:j<=k):Room j A:=⟨r.hd,by have:=r.dp;lia,by have:=r.un;lia⟩
theorem Room.deeper {k:Nat}{A:Around}(r:Room (k+1) A)(env:Env):Room k (A.deeper env):=
 ⟨r.hd,by have:=r.dp;show A.depth+1+3 * k+5<_;lia,by have:=r.un;show A.units+3+16 * k+200<_;lia⟩
theorem X9 {A:Around}{C:Addr}{us:List Value}{kw:List (Str×Value)}:(A.under (.builtin "type.__call__" ⟨.ref C::us,kw⟩)).depth=A.depth+1:=by
 first | rfl | simp [Around.under,Code.weight,Code.isCreation,Code.isGuard,Code.isCaller,Code.frames,Code.isFrame,guardIds]
theorem Yb {A:Around}{C:Addr}{us:List Value}{kw:List (Str×Value)}:(A.under (.builtin "type.__call__" ⟨.ref C::us,kw⟩)).units=A.units+1:=by
 first | rfl | simp [Around.under,Code.cUnits,Code.frames,Code.isFrame]
theorem Room.make {k:Nat}{A:Around}(r:Room (k+1) A)(C:Addr)(us:List Value)(kw:List (Str×Value)):Room k (A.under (.builtin "type.__call__" ⟨.ref C::us,kw⟩)):=
 ⟨r.hd,by have:=r.dp;rw [X9];lia,by have:=r.un;rw [Yb];lia⟩
theorem Room.depth {k:Nat}{A:Around}(r:Room k A):A.depth<recursionLimit:=by have:=r.dp;lia
theorem Room.units {k:Nat}{A:Around}(r:Room k A):A.units+64<cLine:=by have:=r.un;lia
noncomputable def Zgi:TA:=λ_ H Q=>Q [] H
noncomputable def ZdE (ta:TE)(tr:TA):TA:=λσ H Q=>ta σ H λx H1=>tr σ H1 λxs H2=>Q (x::xs) H2
section
variable {X:Cx}{e:Expr}{es:List Expr}{te:TE}{t:TA}{pos:Pos}
theorem Ge:PA X [] Zgi:=λ_ _ _ _ H Q I h=>Calls.spliced_nil ⟨[],H,I,.nil,h⟩
theorem Ga (ha:PE X e te)(hr:PA X es t)(hs:starEach (e::es) X.env=(false,eval e X.env)::starEach es X.env:=by rfl):PA X (e::es) (ZdE te t):=by
 intro pos qQ s σ H Q I h;rw [hs];show wpAny _ _ (spliced ((false,eval e X.env)::backTo pos (starEach es X.env))) _ _ s;refine Calls.spliced_cons (thn (ha qQ s σ H _ I h) λu s1 ⟨x,H1,I1,r1,q1⟩=>?_);exact thn (hr pos qQ s1 σ H1 _ I1 q1) λus s2 ⟨xs,H2,I2,r2,q2⟩=>⟨x::xs,H2,I2,.cons r1 r2,q2⟩
noncomputable def ZgI (t:TA):TE:=λσ H Q=>t σ H λxs H1=>xs.length<=sizeLine/\∀p,H1 p=none->Q (.ref p) (upd H1 p (.tup xs))
noncomputable def ZgJ (t:TA):TE:=λσ H Q=>t σ H λxs H1=>xs.length<=sizeLine/\∀p,H1 p=none->Q (.ref p) (upd H1 p (.lst xs))
theorem Ot {x1}(h:PA X es t):PE X (.Tuple es x1 pos) (ZgI t):=by
 intro qQ s σ H Q I hq;refine wpAny_Tuple_spliced (thn (h pos qQ s σ H _ I hq) λus s1 ⟨xs,H1,I1,r,z,q⟩=>⟨by rw [<-r.length];exact z,?_⟩);have hf:H1 s1.heap.objs.size=none:=I1.hok.fresh (Yae _);refine ⟨.ref s1.heap.objs.size,upd H1 s1.heap.objs.size (.tup xs),I1.laid (t':=s1.toks) (λb u e=>Yag _ e) (Yae _) ?_,rfl,q _ hf⟩;exact ⟨z,us,r,⟨_,Yay _ rfl,rfl,_,rfl⟩⟩
theorem Jc (h:PA X es t):PE X (.List es pos) (ZgJ t):=by
 intro qQ s σ H Q I hq;refine wpAny_List_spliced (thn (h pos qQ s σ H _ I hq) λus s1 ⟨xs,H1,I1,r,z,q⟩=>⟨by rw [<-r.length];exact z,?_⟩);have hf:H1 s1.heap.objs.size=none:=I1.hok.fresh (Yae _);refine ⟨.ref s1.heap.objs.size,upd H1 s1.heap.objs.size (.lst xs),I1.laid (t':=s1.toks) (λb u e=>Yag _ e) (Yae _) ?_,rfl,q _ hf⟩;exact ⟨z,us,0,r,Yay _ rfl⟩
end
noncomputable abbrev Sp:=List V->Hp->VK->XK->Prop
noncomputable abbrev CXT:=List Env->Hp->Shared->XK->Value->Shared->Prop
structure Env0 (P:Program)(w:World)(K:W.Frag)(mg:Str->Option Value)(base:Heap)(A:Around)(outer:List Env)(s:Shared)(H:Hp):Prop where
 frames:A.frames=some outer
 mod:Mod K mg base
 bs:∀b o,base.get? b=some o->s.heap.get? b=some o/\H b=none
 bsz:base.objs.size<=s.heap.objs.size
 funs:s.heap.FunFrames base outer
 frf:∀b∈frs outer,H b=none
 hok:HOk P w H s.heap
 bare:AllBare s.gens
noncomputable def CE (outer:List Env)(P:Program)(w:World)(H:Hp)(s:Shared)(Q:VK)(u:Value)(s':Shared):Prop:=
 ∃v H',s'.os=s.os/\AllBare s'.gens/\Un (frs outer) [] H H' s.heap s'.heap/\HOk P w H' s'.heap/\RelV v u/\Q v H'
noncomputable def CR (CX:CXT)(outer:List Env)(P:Program)(w:World)(H:Hp)(s:Shared)(Q:VK)(E:XK)(r:Result)(s':Shared):Prop:=
 match r with
 | .ok (.ret u)=>CE outer P w H s Q u s'
 | .ok _=>False
 | .error e=>CX outer H s E e s'
structure G7 (P:Program)(w:World)(K:W.Frag)(mg:Str->Option Value)(base:Heap)(CX:CXT)(k:Nat)(f:Addr)(fd:FuncData)(ps:List Str)(sp:Sp):Prop where
 len:∀vs H Q E,sp vs H Q E->vs.length=ps.length
 run:∀(A:Around)(outer:List Env)(s:Shared)(H:Hp)(args:Args)(us:List Value)(vs:List V)(Q:VK)(E:XK),Room k A->Env0 P w K mg base A outer s H->BindsTo s fd args (ps.zip us)->Vals vs us->sp vs H Q E ->
  codeAny (model P w) A (.call (.ref f) args) (CR CX outer P w H s Q E) s
theorem Env0.make {P:Program}{w:World}{K:W.Frag}{mg:Str->Option Value}{base:Heap}{A:Around}{outer:List Env}{s:Shared}{H:Hp}(e:Env0 P w K mg base A outer s H)(C:Addr)(us:List Value)(kw:List (Str×Value)) :
  Env0 P w K mg base (A.under (.builtin "type.__call__" ⟨.ref C::us,kw⟩)) outer s H:=⟨by first | exact e.frames | (simpa [Around.under,Code.envs,Code.isFrame,pushEnvs] using e.frames),e.mod,e.bs,e.bsz,e.funs,e.frf,e.hok,e.bare⟩
section
variable {X:Cx}{qQ:List (Addr×Obj)}{σ:St}{H:Hp}{s s':Shared}
theorem Inv.env0 (I:Inv X qQ σ H s):Env0 X.prog X.w X.K X.mg X.base X.A X.stack s H:=
 ⟨I.ok.frames,I.ok.mod,I.bs,Ybr I.ok.bsz I.sz,I.stack,I.stkFree,I.hok,I.bare⟩
theorem Inv.after {Q:VK}{u:Value}(I:Inv X qQ σ H s)(h:CE X.stack X.prog X.w H s Q u s'):EP X qQ σ Q u s':=by
 obtain ⟨v,H',os,bare,un,hok,r,q⟩:=h;obtain ⟨hh,g,d,t,os'⟩:=s';obtain rfl:os'=s.os:=os;exact ⟨v,H',I.call (h':=hh) (g':=g) (d':=d) (t':=t) (ch:=[]) un hok bare (λb z=>absurd z (by simp)),r,q⟩
end
noncomputable def ZdF (sp:Sp)(dvs:List V)(E:XK)(t:TA):TE:=λσ H Q=>t σ H λvs H1=>sp (vs++dvs) H1 Q E
noncomputable def ZfC (C:Addr)(m:Str)(sp:Sp)(dvs:List V)(E:XK)(ta:TE)(t:TA):TE:=λσ H Q=>ta σ H λx H1=>∃a dx fs,x=.ref a/\H1 a=some (.ins C dx fs)/\fs.lookup m=none /\
 t σ H1 λvs H2=>sp (x::(vs++dvs)) H2 Q E
noncomputable def ZfD (C:Addr)(sp:Sp)(dvs:List V)(E:XK)(t:TA):TE:=λσ H Q=>t σ H λvs H1=>∀x dx,H1 x=none->H1 dx=none->dx≠x ->
 sp (.ref x::(vs++dvs)) (upd (upd H1 dx (.own x)) x (.ins C dx [])) (λv H2=>v=.non/\Q (.ref x) H2) E
noncomputable def Binds (K:W.Frag)(fd:FuncData)(ps:List Str)(ds:List Value):Prop:=
 ∀(s:Shared)(us:List Value),K.In s.heap->(us++ds).length=ps.length->BindsTo s fd ⟨us,[]⟩ (ps.zip (us++ds))
theorem Binds.all {K:W.Frag}{fd:FuncData}{ps:List Str}(h:∀us:List Value,us.length=ps.length->bindArgs fd ⟨us,[]⟩=pure (ps.zip us)):Binds K fd ps []:=λs us _ hl=>by
 rw [Ydv] at hl ⊢;exact .of_eq (h us hl)
noncomputable def Ou (CX:CXT)(X:Cx)(E:XK):Prop:=∀(qQ:List (Addr×Obj))(σ:St)(H:Hp)(s:Shared)(e:Value)(s':Shared),Inv X qQ σ H s->CX X.stack H s E e s'->X.xe e s'
section
variable {X:Cx}{CX:CXT}{k:Nat}{f C:Addr}{fd:FuncData}{ps:List Str}{sp:Sp}{dvs:List V}{ds:List Value}{E:XK}{x m:Str}{p pos apos:Pos}{e o:Expr}{es:List Expr}{ta:TE}{t:TA}
theorem Y8 {qQ:List (Addr×Obj)}{σ:St}{H:Hp}{s:Shared}{Q:VK}{us:List Value}{vs:List V}(F:G7 X.prog X.w X.K X.mg X.base CX k f fd ps sp)(hr:Room k X.A)(hb:Binds X.K fd ps ds)(hd:Vals dvs ds)(hx:Ou CX X E)(I:Inv X qQ σ H s)(r:Vals vs us)(h:sp (vs++dvs) H Q E):wpAny (model X.prog X.w) X.A (call (.ref f) us) (EP X qQ σ Q) X.xe s:=by
 have r2:Vals (vs++dvs) (us++ds):=r.append hd;have hl:(us++ds).length=ps.length:=by rw [<-r2.length];exact F.len _ _ _ _ h
 refine wpAny_call (codeAny_mono (F.run X.A X.stack s H ⟨us,[]⟩ (us++ds) (vs++dvs) Q E hr I.env0 (hb s us I.kIn hl) r2 h) λr s' hq=>?_);cases r with
 | error e=>exact hx qQ σ H s e s' I hq
 | ok fl=>
  cases fl with
  | ret u=>exact I.after hq
  | next=>exact False.elim hq
  | brk=>exact False.elim hq
  | cont=>exact False.elim hq
theorem Gq (F:G7 X.prog X.w X.K X.mg X.base CX k f fd ps sp)(hr:Room k X.A)(hg:Gl X x)(hm:X.mg x=some (.ref f))(hk:W.keepIn X.K (.ref f)=true)(hb:Binds X.K fd ps ds)(hd:Vals dvs ds)(hx:Ou CX X E)(ha:PA X (e::es) t)(hdb:(x == ("__debug__" : Str))=false:=by decide)(he:starEach (e::es) X.env=(false,eval e X.env)::starEach es X.env:=by rfl)(hpl:(backTo pos (starEach es X.env)).any (·.1)=false:=by rfl) :
  PE X (.Call (.Name x p) (e::es) [] pos) (ZdF sp dvs E t):=by
 intro qQ s σ H Q I h;refine Ydw (Vb I hg hm ?_ hdb);refine W.callWith_K (h₀:=X.base) I.ok.mod.kin hk (thn (ha pos qQ s σ H _ I h) λus s1 ⟨vs,H1,I1,r,q⟩=>⟨I1.kIn,?_⟩) he hpl;exact Y8 F hr hb hd hx I1 r q
theorem Zcs {pl:Sem Bool}(he:PE X o ta)(c:Cls X.K C)(hm:ZfB X.K C m f)(F:G7 X.prog X.w X.K X.mg X.base CX k f fd ps sp)(hr:Room k X.A)(hb:Binds X.K fd ps ds)(hd:Vals dvs ds)(hx:Ou CX X E)(ha:PA X (e::es) t)(hst:starEach (e::es) X.env=(false,eval e X.env)::starEach es X.env:=by rfl)(hpl:(backTo pos (starEach es X.env)).any (·.1)=false:=by rfl)(ht:eval (.Call (.Attribute o m apos) (e::es) [] pos) X.env=(do
   let ov <- eval o X.env
   standAt apos.atName
   let (f,first) <- holding [ov] (getMethod ov m pl)
   callWith pos f first (backTo pos (starEach (e::es) X.env)) (backToKw pos (keywordEach [] X.env))):=by rfl) :
  PE X (.Call (.Attribute o m apos) (e::es) [] pos) (ZfC C m sp dvs E ta t):=by
 intro qQ s σ H Q I h;refine W.methodCall_KW (pl:=pl) (thn (he qQ s σ H _ I h) λu s1 ⟨x,H1,I1,rx,a,dx,fs,ex,ea,l,q⟩=>?_) ht;subst ex;obtain rfl:u=Value.ref a:=rx;refine X6 I1 ea c hm l ?_;refine W.callWith_K (first:=[.ref a]) (h₀:=X.base) I.ok.mod.kin hm.kp (thn (ha pos qQ s1 σ H1 _ I1 q) λus s2 ⟨vs,H2,I2,r,q2⟩=>⟨I2.kIn,?_⟩) hst hpl;exact Y8 (us:=.ref a::us) (vs:=.ref a::vs) F hr hb hd hx I2 (.cons rfl r) q2
structure Mk (K:W.Frag)(C f:Addr):Prop where
 makes:W.makesIn K C=true
 init:W.findIn K (.ref C) "__init__" = some (some (.ref f))
 fn:W.isFn K (.ref f)=true
 kp:W.keepIn K (.ref C)=true
theorem ZaO {qQ:List (Addr×Obj)}{σ:St}{H:Hp}{s:Shared}{Q:VK}{us:List Value}{vs:List V}(M:Mk X.K C f)(F:G7 X.prog X.w X.K X.mg X.base CX k f fd ps sp)(hr:Room (k+1) X.A)(hb:Binds X.K fd ps ds)(hd:Vals dvs ds)(hx:Ou CX X E)(I:Inv X qQ σ H s)(r:Vals vs us)(h:∀x dx,H x=none->H dx=none->dx≠x->sp (.ref x::(vs++dvs)) (upd (upd H dx (.own x)) x (.ins C dx [])) (λv H2=>v=.non/\Q (.ref x) H2) E) :
  wpAny (model X.prog X.w) X.A (call (.ref C) us) (EP X qQ σ Q) X.xe s:=by
 have hq:=h (s.heap.objs.size+1) s.heap.objs.size (I.hok.fresh (Yda _)) (I.hok.fresh (Yae _)) (Yam (Nat.lt_succ_self _));have I2:=Inv.made (C:=C) I;have r2:Vals (V.ref (s.heap.objs.size+1)::(vs++dvs)) (Value.ref (s.heap.objs.size+1)::(us++ds)):=.cons rfl (r.append hd);have hl:(Value.ref (s.heap.objs.size+1)::us++ds).length=ps.length:=by
  have e:=r2.length;rw [F.len _ _ _ _ hq] at e;exact e.symm
 refine wpAny_call (ZaN (f:=f) I.kIn M.makes M.init (Yaz.mp M.fn) (codeAny_mono (F.run _ X.stack _ _ ⟨Value.ref (s.heap.objs.size+1)::us,[]⟩ (Value.ref (s.heap.objs.size+1)::(us++ds)) _ _ E (hr.make C us [])
  (I2.env0.make C us []) (hb _ (Value.ref (s.heap.objs.size+1)::us) I2.kIn hl) r2 hq) λr s' hq'=>?_))
 cases r with
 | error e=>exact hx qQ σ _ _ e s' I2 hq'
 | ok fl=>
  cases fl with
  | ret u=>
   obtain ⟨v,H',I3,rv,ev,q3⟩:=I2.after hq';subst ev;exact ⟨rv,⟨V.ref (s.heap.objs.size+1),H',I3,rfl,q3⟩⟩
  | next=>exact False.elim hq'
  | brk=>exact False.elim hq'
  | cont=>exact False.elim hq'
theorem Zct (M:Mk X.K C f)(F:G7 X.prog X.w X.K X.mg X.base CX k f fd ps sp)(hr:Room (k+1) X.A)(hg:Gl X x)(hm:X.mg x=some (.ref C))(hb:Binds X.K fd ps ds)(hd:Vals dvs ds)(hx:Ou CX X E)(ha:PA X (e::es) t)(hdb:(x == ("__debug__" : Str))=false:=by decide)(he:starEach (e::es) X.env=(false,eval e X.env)::starEach es X.env:=by rfl)(hpl:(backTo pos (starEach es X.env)).any (·.1)=false:=by rfl) :
  PE X (.Call (.Name x p) (e::es) [] pos) (ZfD C sp dvs E t):=by
 intro qQ s σ H Q I h;refine Ydw (Vb I hg hm ?_ hdb);refine W.callWith_K (h₀:=X.base) I.ok.mod.kin M.kp (thn (ha pos qQ s σ H _ I h) λus s1 ⟨vs,H1,I1,r,q⟩=>⟨I1.kIn,?_⟩) he hpl;exact ZaO M F hr hb hd hx I1 r q
end
noncomputable def PK (X:Cx)(kws:List Keyword)(t:TA):Prop:=
 ∀(pos:Pos)(qQ:List (Addr×Obj))(s:Shared)(σ:St)(H:Hp)(Q:List V->Hp->Prop),Inv X qQ σ H s->t σ H Q->wpAny (model X.prog X.w) X.A (evalAll ((backToKw pos (keywordEach kws X.env)).map (·.2))) (AP X qQ σ Q) X.xe s
section
variable {X:Cx}{CX:CXT}{k:Nat}{f C:Addr}{fd:FuncData}{ps ks:List Str}{sp:Sp}{E:XK}{x m:Str}{p pos apos kpos:Pos}{e o:Expr}{es:List Expr}{kws:List Keyword}{te ta:TE}{t tk:TA}{nm:Option Str}
theorem ZbS:PK X [] Zgi:=λ_ _ _ _ H Q I h=>wpAny_evalAll_nil ⟨[],H,I,.nil,h⟩
theorem WF (ha:PE X e te)(hr:PK X kws t):PK X (⟨nm,e,kpos⟩::kws) (ZdE te t):=by
 intro pos qQ s σ H Q I h;show wpAny _ _ (evalAll ((do let v <- eval e X.env;standAt pos;pure v)::(backToKw pos (keywordEach kws X.env)).map (·.2))) _ _ s;refine wpAny_evalAll_cons (Yaa (thn (ha qQ s σ H _ I h) λu s1 ⟨x,H1,I1,r1,q1⟩=>Yaa (wpAny_standAt (Yab ?_))));exact thn (hr pos qQ s1 σ H1 _ I1 q1) λus s2 ⟨xs,H2,I2,r2,q2⟩=>⟨x::xs,H2,I2,.cons r1 r2,q2⟩
variable {g:List Value->List Value->List Value}{gV:List V->List V->List V}
end
structure Gy (N P:List Str)(sc:Scope):Prop where
 kind:sc.kind=.function
 co:sc.isCoroutine=false
 gen:sc.isGenerator=false
 nd:N.Nodup
 pre:N.take P.length=P
 par:∀x∈P,sc.names.lookup x=some .local\/sc.names.lookup x=some .cell
 nofree:∀y∈sc.names,y.2≠.free
theorem V0 {kindOf:Str->Option NameKind}{x:Str}:∀{binds:List (Str×Value)}{m:Str->Option Value},(∀v,(x,v) ∉ binds)->bindL kindOf binds m x=m x
 | [],_,_=>rfl
 | (n,v)::r,m,h=>by
  unfold bindL;rw [V0 λw hw=>h w (Ybb _ hw)];split
  ·have:x≠n:=by rintro rfl;exact h v Ybe
   simp [this]
  ·rfl
theorem V1 {kindOf:Str->Option NameKind}{x:Str}:∀{binds:List (Str×Value)}{m:Str->Option Value},(∀v,(x,v) ∉ binds)->bindC kindOf binds m x=m x
 | [],_,_=>rfl
 | (n,v)::r,m,h=>by
  unfold bindC;rw [V1 λw hw=>h w (Ybb _ hw)];split
  ·rfl
  ·have:x≠n:=by rintro rfl;exact h v Ybe
   simp [this]
theorem V2 {kindOf:Str->Option NameKind}{x:Str}{v:Value}:∀{P:List Str}{vs:List Value}{i:Nat}{m:Str->Option Value},P.Nodup->P[i]?=some x->vs[i]?=some v->kindOf x=some .local ->
  bindL kindOf (P.zip vs) m x=some v
 | [],_,_,_,_,h,_,_=>by simp at h
 | _::_,[],_,_,_,_,h,_=>by simp at h
 | p::P,w::vs,0,m,nd,h1,h2,hk=>by
  simp at h1 h2;subst h1;subst h2;show bindL kindOf ((p,w)::P.zip vs) m p=_;unfold bindL;rw [V0 λv hv=>(List.nodup_cons.mp nd).1 (List.of_mem_zip hv).1,if_pos hk];simp
 | p::P,w::vs,i+1,m,nd,h1,h2,hk=>by
  show bindL kindOf ((p,w)::P.zip vs) m x=_;unfold bindL;exact V2 (i:=i) (List.nodup_cons.mp nd).2 (by simpa using h1) (by simpa using h2) hk
theorem V3 {kindOf:Str->Option NameKind}{x:Str}{v:Value}:∀{P:List Str}{vs:List Value}{i:Nat}{m:Str->Option Value},P.Nodup->P[i]?=some x->vs[i]?=some v->kindOf x≠some .local ->
  bindC kindOf (P.zip vs) m x=some v
 | [],_,_,_,_,h,_,_=>by simp at h
 | _::_,[],_,_,_,_,h,_=>by simp at h
 | p::P,w::vs,0,m,nd,h1,h2,hk=>by
  simp at h1 h2;subst h1;subst h2;show bindC kindOf ((p,w)::P.zip vs) m p=_;unfold bindC;rw [V1 λv hv=>(List.nodup_cons.mp nd).1 (List.of_mem_zip hv).1,if_neg hk];simp
 | p::P,w::vs,i+1,m,nd,h1,h2,hk=>by
  show bindC kindOf ((p,w)::P.zip vs) m x=_;unfold bindC;exact V3 (i:=i) (List.nodup_cons.mp nd).2 (by simpa using h1) (by simpa using h2) hk
noncomputable def start (N:List Str)(vs:List V):St:=vs.map some++List.replicate (N.length-vs.length) none
noncomputable def YO (CX:CXT)(P:Program)(w:World)(K:W.Frag)(mg:Str->Option Value)(base:Heap)(N:List Str)(qual:Str)(scope:Scope)(f:Addr)(cd:Value)(A:Around)(outer:List Env)(s:Shared)(H:Hp)(E:XK):Cx where
 prog:=P
 w:=w
 K:=K
 mg:=mg
 base:=base
 A:=A.deeper (envOfC qual scope s.heap.objs.size f cd)
 N:=N
 s₀:=s
 H₀:=H
 env:=envOfC qual scope s.heap.objs.size f cd
 outer:=outer
 stack:=envOfC qual scope s.heap.objs.size f cd::outer
 ex:=[]
 calm:=true
 fn:=λ_=>true
 pn:=[]
 xe:=λe s'=>wpAny (model P w) (A.deeper (envOfC qual scope s.heap.objs.size f cd)) (leaving (envOfC qual scope s.heap.objs.size f cd) e) (λ_ s''=>CX outer H s E e s'') (λe' s''=>CX outer H s E e' s'') s'
theorem Xi {sc:Scope}{n:Nat}{x:Str}(h:sc.names.lookup x=some .cell):∃c,(cellsFrom n sc.names []).lookup x=some c:=by
 have q:=W.cellsFrom_some sc.names n [] (.inl h);exact Option.isSome_iff_exists.mp q
theorem Y9 {CX:CXT}{P:Program}{w:World}{K:W.Frag}{mg:Str->Option Value}{base:Heap}{N ps:List Str}{qual:Str}{scope:Scope}{f:Addr}{cd:Value}{A:Around}{outer:List Env}{s s1:Shared}{H:Hp}{E:XK}{us:List Value}{vs:List V}(S:Gy N ps scope)(hd:A.handled=none)(e0:Env0 P w K mg base A outer s H)(hl:vs.length=ps.length)(r:Vals vs us)(x:InCallC s s.heap.objs.size (bindL (envOfC qual scope s.heap.objs.size f cd).kindOf (ps.zip us) λ_=>none) (cellsFrom (s.heap.objs.size+1) scope.names []) (bindC (envOfC qual scope s.heap.objs.size f cd).kindOf (ps.zip us) λ_=>none) s1) :
  Inv (YO CX P w K mg base N qual scope f cd A outer s H E) [] (start N vs) H s1:=by
 have hpl:ps.length<=N.length:=by have:=Ybf List.length S.pre;rw [Ybs] at this;lia
 obtain ⟨h1,tk,rfl,hk⟩:=x.done;have noA:∀b:Addr,b ∉ (YO CX P w K mg base N qual scope f cd A outer s H E).ex:=λb z=>absurd (show b∈([]:List Addr) from z) (by simp);refine ⟨⟨e0.mod,S.kind,rfl,rfl,Yae _,λy z c h1 h2=>?_,λy hy=>?_,λy c _ h=>?_,λ_=>hd,Around.frames_deeper e0.frames,.inr ⟨rfl,rfl⟩,λb z=>absurd z (noA b),e0.bs,e0.bsz,λb _ _=>noA b,λb z=>absurd z (noA b),e0.funs,e0.frf⟩,
  rfl,e0.bare,Un.kept hk,⟨_,x.toInCall.ns,λi y v h1 h2 h3=>?_⟩,λy c h=>⟨_,x.cell y c h⟩,e0.hok.fresh (Yae _),λy c h=>?_,λp hp=>absurd (show p∈([]:List (Addr×Obj)) from hp) (by simp),e0.hok.kept hk,?_⟩
 ·exact name_of_addr x.apart (Ydb h1) (Ydb h2)
 ·have hy:scope.names.lookup y=some .cell\/scope.names.lookup y=some .free:=hy;rcases hy with hy | hy
  ·exact Xi hy
  ·exact absurd rfl (S.nofree _ (Ydb hy))
 ·exact Nat.le_of_lt (x.above y c (Ydb h))
 ·have hi:i<vs.length:=by
   unfold start at h2;by_cases hi:i<vs.length
   ·exact hi
   ·rw [Ydn (by simpa using hi)] at h2;rw [List.getElem?_replicate] at h2;split at h2 <;> cases h2
  have ha:vs[i]?=some v:=by
   unfold start at h2;rw [Ydc (by simpa using hi),Ybk] at h2;cases e:vs[i]? with
   | none=>rw [e] at h2;cases h2
   | some a=>rw [e] at h2;cases h2;rfl
  obtain ⟨u,hu,rv⟩:=r.get ha;have hp:ps[i]?=some y:=by
   rw [<-S.pre,List.getElem?_take_of_lt (by lia)];exact h1
  have ndP:ps.Nodup:=by rw [<-S.pre];exact S.nd.sublist (List.take_sublist _ _)
  refine ⟨u,rv,?_⟩;rcases S.par y (Ybg hp) with k | k
  ·exact .inl ⟨k,V2 ndP hp hu k⟩
  ·obtain ⟨c,e⟩:=Xi (n:=s.heap.objs.size+1) k;refine .inr ⟨.inl k,c,e,?_⟩;have q:=x.cell y c e;rw [V3 ndP hp hu (by show scope.names.lookup y≠_;rw [k];decide)] at q;exact q
 ·exact e0.hok.fresh (Nat.le_of_lt (x.above y c (Ydb h)))
 ·unfold start;show _=N.length;rw [Yak,Yad,List.length_replicate]
  lia
theorem ZaP {CX:CXT}{P:Program}{w:World}{K:W.Frag}{mg:Str->Option Value}{base:Heap}{k:Nat}{f:Addr}{name qual:Str}{params:Arguments}{body:List Stmt}{scope:Scope}{dV kV doc pm cdv ct oc:Value}{an od:Option Addr}{osl:Array (Option Value)}{N ps:List Str}{sp:Sp}(lk:K.lookup f=some ⟨oc,od,.func (W.fnOf name qual params body scope dV kV doc pm an cdv ct),osl⟩)(hcd:W.codeIn K cdv qual=true)(S:Gy N ps scope)(len:∀vs H Q E,sp vs H Q E->vs.length=ps.length)(jZ:∀(A:Around)(outer:List Env)(s:Shared)(H:Hp)(vs:List V)(Q:VK)(E:XK),Room k (A.deeper (envOfC qual scope s.heap.objs.size f cdv))->sp vs H Q E ->
   ∃t,PSs (YO CX P w K mg base N qual scope f cdv A outer s H E) body t/\t { nx:=λ_ H'=>Q .non H',rt:=Q } (start N vs) H) :
  G7 P w K mg base CX (k+1) f (W.fnOf name qual params body scope dV kV doc pm an cdv ct) ps sp:=by
 refine ⟨len,λA outer s H args us vs Q E hr e0 hb r hsp=>?_⟩;have hl:=len _ _ _ _ hsp;have KX:K.In s.heap:=e0.mod.kin.keeps λb o e=>(e0.bs b o e).1;have lim:s.heap.NoLimit:=e0.mod.nolimit.keeps λb o e=>(e0.bs b o e).1;have hkind:∀y∈ps.zip us,scope.names.lookup y.1=some .local\/(scope.names.lookup y.1=some .cell/\((cellsFrom (s.heap.objs.size+1) scope.names []).lookup y.1).isSome=true):=λ⟨n,v⟩ hy=>by
  rcases S.par n (List.of_mem_zip hy).1 with q | q
  ·exact .inl q
  ·exact .inr ⟨q,W.cellsFrom_some _ _ _ (.inl q)⟩
 refine codeAny_call_function hr.depth (KX _ _ lk) rfl S.co S.gen rfl (W.codeRec_of KX hcd) (hb _ _ _ _ ?_);refine wpAny_newFunctionEnv_cells S.kind hkind λenv he s1 x=>?_;subst he;refine ⟨lim.keeps x.toInCall.keep,codeAny_func ?_⟩;obtain ⟨t,ht,hq⟩:=jZ A outer s H vs Q E (hr.deeper _) hsp;have I:Inv (YO CX P w K mg base N qual scope f cdv A outer s H E) [] (start N vs) H s1:=Y9 S hr.hd e0 hl r x;refine Ybm (ht [] s1 (start N vs) H _ I hq) (λfl s' hs=>?_) λe s' hs=>hs;have fin:∀{σ':St}{H':Hp}{v:V}{u:Value},Inv (YO CX P w K mg base N qual scope f cdv A outer s H E) [] σ' H' s'->RelV v u->Q v H'->CE outer P w H s Q u s':=
  λ{σ' H' v u} J rv q=>⟨v,H',J.os,J.bare,J.base,J.hok,rv,q⟩
 cases fl with
 | ret u=>
  obtain ⟨v,σ',H',J,rv,q⟩:=hs;exact fin J rv q
 | next=>
  obtain ⟨σ',H',J,q⟩:=hs;exact fin (v:=V.non) (u:=Value.none) J rfl q
 | brk=>
  obtain ⟨_,_,_,q⟩:=hs;exact False.elim q
 | cont=>
  obtain ⟨_,_,_,q⟩:=hs;exact False.elim q
section
variable {X:Cx}{x:Str}{p pos:Pos}{e:Expr}{es:List Expr}{t:TA}{id T:String}{r:List V->Hp->VK->Prop}
noncomputable def tCB (r:List V->Hp->VK->Prop)(t:TA):TE:=λσ H Q=>t σ H λvs H1=>r vs H1 Q
theorem Gn (hc:JR X (.builtin id) r)(hg:Gl X x)(hm:X.mg x=none)(hv:bootBuiltins x=some (.builtin id))(ha:PA X (e::es) t)(hn:x ≠ "__name__" := by decide)(hdb:(x == ("__debug__" : Str))=false:=by decide)(he:starEach (e::es) X.env=(false,eval e X.env)::starEach es X.env:=by rfl)(hpl:(backTo pos (starEach es X.env)).any (·.1)=false:=by rfl):PE X (.Call (.Name x p) (e::es) [] pos) (tCB r t):=by
 intro qQ s σ H Q I h;refine Ydw (Op I hg hm hv ?_ hn hdb);exact PyProof.Rows.callWith_builtin1 (thn (ha pos qQ s σ H _ I h) λus s1 ⟨vs,H1,I1,r1,q1⟩=>hc qQ s1 σ H1 vs us Q I1 r1 q1) he hpl
theorem G8 (hc:JR X (.type T) r)(hg:Gl X x)(hm:X.mg x=none)(hv:bootBuiltins x=some (.type T))(ha:PA X (e::es) t)(hn:x ≠ "__name__" := by decide)(hdb:(x == ("__debug__" : Str))=false:=by decide)(he:starEach (e::es) X.env=(false,eval e X.env)::starEach es X.env:=by rfl)(hpl:(backTo pos (starEach es X.env)).any (·.1)=false:=by rfl):PE X (.Call (.Name x p) (e::es) [] pos) (tCB r t):=by
 intro qQ s σ H Q I h;refine Ydw (Op I hg hm hv ?_ hn hdb);exact Yfk (thn (ha pos qQ s σ H _ I h) λus s1 ⟨vs,H1,I1,r1,q1⟩=>hc qQ s1 σ H1 vs us Q I1 r1 q1) he hpl
end
end L2
namespace HT
open PySem PyProof.Rows
section
open PySem.SeqAt
open PySem.AutoSeq1 (wpAny_loadPart')
open PySem.MeetsSeq PySem.MeetsSeq2 PySem.MeetsSeq3
end
section
variable {prog:Program}{w:World}{A:Around}{E:EX}{s:Shared}
noncomputable def sIx (n d:Nat):Option Int->Nat
 | none=>d
 | some v=>if v<0 then (v+(n:Int)).toNat else min v.toNat n
theorem sIx_nat (n d k:Nat):sIx n d (some (k:Int))=min k n:=by
 show (if (k:Int)<0 then ((k:Int)+(n:Int)).toNat else min (k:Int).toNat n)=min k n;rw [if_neg (by lia),Yck]
theorem ZdG (n d:Nat)(hd:d<=n)(o:Option Int):sIx n d o<=n:=by
 cases o with
 | none=>exact hd
 | some v=>
  show (if v<0 then (v+(n:Int)).toNat else min v.toNat n)<=n;by_cases hv:v<0
  ·rw [if_pos hv];lia
  ·rw [if_neg hv];exact Nat.min_le_right _ _
theorem Za (v:Int)(n d:Nat):(if v<0 then max (v+(n:Int)) 0 else min v (n:Int))=((sIx n d (some v):Nat):Int):=by
 show (if v<0 then max (v+(n:Int)) 0 else min v (n:Int))=(((if v<0 then (v+(n:Int)).toNat else min v.toNat n):Nat):Int);by_cases hv:v<0
 ·simp only [if_pos hv];lia
 ·simp only [if_neg hv];lia
theorem Yc (lo hi:Option Int)(n:Nat):Builtin.Slice.sliceAdjust lo hi 1 (n:Int)=(((sIx n 0 lo:Nat):Int),((sIx n n hi:Nat):Int)):=by
 have h1:¬ ((1:Int)<0):=by lia
 unfold Builtin.Slice.sliceAdjust;simp only [h1,if_false];refine Prod.ext ?_ ?_
 ·cases lo with
  | none=>rfl
  | some v=>exact Za v n 0
 ·cases hi with
  | none=>rfl
  | some v=>exact Za v n n
theorem Yd (i j:Nat):Builtin.Slice.slicePlaces (i:Int) (j:Int) 1=j-i:=by
 unfold Builtin.Slice.slicePlaces;have h1:(1:Int) > 0:=by lia
 simp only [h1,if_true,Int.ediv_one];split <;> lia
theorem UP {v:Value}{o:Option Int}{Q:Option Int->Shared->Prop}(p:IsPart v o)(h:Q o s):wpAny (model prog w) A (Builtin.Slice.slicePartIndex v) Q E s:=by
 cases p with
 | none=>exact slicePart_none h
 | int i t=>exact slicePart_int h
theorem sliceApplied_gen {sl:Addr}{vl vu:Value}{lo hi:Option Int}{n:Nat}{Q:Int×Int×Nat->Shared->Prop}(hs:s.heap.IsSliceOf sl vl vu .none)(pl:IsPart vl lo)(pu:IsPart vu hi)(h:Q (((sIx n 0 lo:Nat):Int),1,sIx n n hi-sIx n 0 lo) s):wpAny (model prog w) A (Builtin.Slice.sliceApplied (.ref sl) (pure (n:Int))) Q E s:=by
 obtain ⟨os,hos,hcs,hds⟩:=id hs;unfold Builtin.Slice.sliceApplied Builtin.Slice.sliceFields;refine Yaa (Yaa (wpAny_field hos hds (x:=vl) rfl (Yaa (wpAny_field hos hds (x:=vu) rfl (Yaa (wpAny_field hos hds (x:=.none) rfl (Yab ?_)))))));refine Yaa (slicePart_none ?_);show wpAny _ _ (if ((1:Int) == 0)=true then _ else _) _ _ s;rw [if_neg (by decide)];refine Yaa (UP pl (Yaa (UP pu (Yaa (Yab ?_)))));show wpAny _ _ (match Builtin.Slice.sliceAdjust lo hi 1 (n:Int) with | (lo,hi)=>pure (lo,(1:Int),Builtin.Slice.slicePlaces lo hi 1)) _ _ s;rw [Yc lo hi n];show wpAny _ _ (pure (((sIx n 0 lo:Nat):Int),(1:Int),Builtin.Slice.slicePlaces ((sIx n 0 lo:Nat):Int) ((sIx n n hi:Nat):Int) 1)) _ _ s;rw [Yd];exact Yab h
theorem ZaQ (xs:Array Value)(i k:Nat):((List.range k).filterMap λ(m:Nat)=>xs[((i:Int)+(m:Int) * 1).toNat]?).toArray=((xs.toList.drop i).take k).toArray:=by
 have e:(λ(m:Nat)=>xs[((i:Int)+(m:Int) * 1).toNat]?)=λm=>xs[i+m]?:=by
  funext m
  have:((i:Int)+(m:Int) * 1).toNat=i+m:=by lia
  rw [this]
 rw [e];have:=pick_run xs i k;rw [List.filterMap_map] at this;have e2:((λx=>xs[x]?)∘λx=>i+x)=λm=>xs[i+m]?:=rfl;rw [e2] at this;rw [this]
theorem getItem_tuple_cut {t sl:Addr}{items:Array Value}{vl vu:Value}{lo hi:Option Int}{Q:EX}(ht:IsTup s.heap t items)(hs:s.heap.IsSliceOf sl vl vu .none)(pl:IsPart vl lo)(pu:IsPart vu hi)(hw:¬ (sIx items.size 0 lo=0/\sIx items.size items.size hi=items.size))(h:Q (.ref s.heap.objs.size) { s with heap:=s.heap.push { cls:=.type "tuple", data:=.seq ((items.toList.drop (sIx items.size 0 lo)).take (sIx items.size items.size hi-sIx items.size 0 lo)).toArray } })(hsz:items.size<=sizeLine):wpAny (model prog w) A (getItem (.ref t) (.ref sl)) Q E s:=by
 have htake:sizeOk (.seq ((items.toList.drop (sIx items.size 0 lo)).take (sIx items.size items.size hi-sIx items.size 0 lo)).toArray):=by
  show ((items.toList.drop (sIx items.size 0 lo)).take (sIx items.size items.size hi-sIx items.size 0 lo)).toArray.size<=sizeLine;rw [Yan,Ybs,Ydx,Yai]
  lia
 have hj:sIx items.size items.size hi<=items.size:=ZdG _ _ (Yae _) hi;obtain ⟨os,hos,hcs,hds⟩:=id hs;have hTs:s.TypeIs (.ref sl) "slice" := ⟨os,hos,hcs⟩;unfold getItem
 try with_reducible refine Ybp ?_
 first | refine Yaa (Yab ?_) | skip
 refine Yaa (wpAny_sequenceKey ht.typeIs (by decide) ?_);refine Yaa (Yew (name:=Str.ofString "__getitem__") ht.typeIs Yfl
  (Ycl Yfl ht.typeIs entry_tuple_getitem ?_ (args_tuple_getitem _ _)))
 show wpAny _ _ (Builtin.Tuple.tupleItemsOf (.ref t) >>= _) _ _ s;refine Yaa (tupleItemsOf_ ht ?_);refine Yaa (Ydo hTs ?_);rw [if_pos (by decide)];refine Yaa (sliceApplied_gen hs pl pu ?_);have hno:¬ ((((sIx items.size 0 lo:Nat):Int) == 0 && (1:Int) == 1 && (sIx items.size items.size hi-sIx items.size 0 lo) == items.size)=true):=by
  intro q;rw [Ycg,Ycg] at q;have q1:((sIx items.size 0 lo:Nat):Int)=0:=eq_of_beq q.1.1;have q2:sIx items.size items.size hi-sIx items.size 0 lo=items.size:=eq_of_beq q.2;exact hw ⟨by lia,by lia⟩
 show wpAny _ _ (if (((sIx items.size 0 lo:Nat):Int) == 0 && (1:Int) == 1 && (sIx items.size items.size hi-sIx items.size 0 lo) == items.size)=true then _ else _) _ _ s;rw [if_neg hno,ZaQ]
 first
  | exact Yaa (m:=Builtin.Tuple.tupleExact _) (Ydp (Yab ⟨_,rfl,Yab h⟩) htake)
  | exact Yaa (m:=Builtin.Tuple.tupleExact _) (Ydp (Yaa (Yab (Yab ⟨_,rfl,Yab h⟩))) htake)
  | exact Yaa (Yaa (m:=Builtin.Tuple.tupleExact _) (Ydp (Yab (Yab ⟨_,rfl,Yab h⟩)) htake))
  | exact Yaa (Yaa (m:=Builtin.Tuple.tupleExact _) (Ydp (Yab ⟨_,rfl,Yab h⟩) htake))
end
end HT
namespace L2
open PySem PySem.Spec PyProof.Rows
noncomputable abbrev TO:=St->Hp->(Option Int->Hp->Prop)->Prop
noncomputable def PO (X:Cx)(e:Option Expr)(t:TO):Prop:=
 ∀(qQ:List (Addr×Obj))(s:Shared)(σ:St)(H:Hp)(Q:Option Int->Hp->Prop),Inv X qQ σ H s->t σ H Q ->
  wpAny (model X.prog X.w) X.A (evalPart e X.env) (λu s'=>∃o H',Inv X qQ σ H' s'/\IsPart u o/\Q o H') X.xe s
noncomputable def Zb:TO:=λ_ H Q=>Q none H
noncomputable def ZfE (t:TE):TO:=λσ H Q=>t σ H λx H1=>∃i,x=.int i/\Q (some i) H1
theorem J3 {ns:List Int}:∀{us:List Value},Vals (ns.map V.int) us->IntsAre us ns:=by
 induction ns with
 | nil=>intro us r;rw [List.map_nil] at r;cases r;exact .nil
 | cons n ns ih=>
  intro us r;rw [Yap] at r;cases r with
  | cons r1 r2=>
   obtain ⟨t,e⟩:=r1;subst e;exact .cons n t (ih r2)
section
variable {X:Cx}{e:Expr}{te:TE}{lo hi:Option Expr}{tl th:TO}{pos p2:Pos}
theorem JS:PO X none Zb:=by
 intro qQ s σ H Q I h;rw [evalPart_none];exact Yab ⟨none,H,I,.none,h⟩
theorem JT (h:PE X e te):PO X (some e) (ZfE te):=by
 intro qQ s σ H Q I hw;rw [evalPart_some];refine thn (h qQ s σ H _ I hw) λu s1 ⟨x,H1,I1,r1,q1⟩=>?_;obtain ⟨i,rfl,q⟩:=q1;obtain ⟨t,rfl⟩:=r1;exact ⟨some i,H1,I1,.int i t,q⟩
noncomputable def SlR (X:Cx)(r:V->Option Int->Option Int->Hp->VK->Prop):Prop:=
 ∀(qQ:List (Addr×Obj))(s:Shared)(σ:St)(H:Hp)(x:V)(v vl vu:Value)(lo hi:Option Int)(sl:Addr)(Q:VK),Inv X qQ σ H s->RelV x v->s.heap.IsSliceOf sl vl vu .none->IsPart vl lo->IsPart vu hi->r x lo hi H Q ->
  ∃T id,typeLookup (.type T) "__getitem__" = pure (some (.builtin id))/\s.TypeIs v T/\wpAny (model X.prog X.w) X.A (getItem v (.ref sl)) (EP X qQ σ Q) X.xe s
noncomputable def tSl (r:V->Option Int->Option Int->Hp->VK->Prop)(te:TE)(tl th:TO):TE:=λσ H Q=>te σ H λx H1=>tl σ H1 λl H2=>th σ H2 λu H3=>r x l u H3 Q
theorem Jz {r:V->Option Int->Option Int->Hp->VK->Prop}(hr:SlR X r)(he:PE X e te)(hl:PO X lo tl)(hu:PO X hi th):PE X (.Subscript e (.Slice lo hi none p2) pos) (tSl r te tl th):=by
 intro qQ s σ H Q I h;refine Subscript_ (thn (he qQ s σ H _ I h) λv s1 ⟨x,H1,I1,r1,q1⟩=>?_);refine wpAny_Slice (thn (hl qQ s1 σ H1 _ I1 q1) λvl s2 ⟨l,H2,I2,pl,q2⟩=>thn (hu qQ s2 σ H2 _ I2 q2) λvu s3 ⟨u,H3,I3,pu,q3⟩=>?_);rw [evalPart_none];refine Yab ?_;have I4:Inv X qQ σ H3 { s3 with heap:=s3.heap.push { cls:=.type "slice", data:=.fields #[vl,vu,.none] } }:=I3.kept (t':=s3.toks) λb ob q=>Yag _ q;obtain ⟨T,id,hT,ht,hg⟩:=hr qQ { s3 with heap:=s3.heap.push { cls:=.type "slice", data:=.fields #[vl,vu,.none] } } σ H3 x v vl vu l u s3.heap.objs.size Q I4 r1 (Heap.IsSliceOf.new ..) pl pu q3;show wpAny (model X.prog X.w) X.A (subscriptTail e (.Slice lo hi none p2) v (.ref s3.heap.objs.size)) (EP X qQ σ Q) X.xe { s3 with heap:=s3.heap.push { cls:=.type "slice", data:=.fields #[vl,vu,.none] } };exact tail_any (ops:=[.ref s3.heap.objs.size,v]) ht hT hg (by with_unfolding_all rfl)
noncomputable def UQ (xs:List V)(lo hi:Option Int):List V:=(xs.drop (HT.sIx xs.length 0 lo)).take (HT.sIx xs.length xs.length hi-HT.sIx xs.length 0 lo)
theorem Uu (xs:List V)(lo hi:Option Int):(UQ xs lo hi).length<=xs.length:=by
 unfold UQ;rw [Ybs,Ydx]
 lia
noncomputable def Zgj (K:W.Frag):V->Option Int->Option Int->Hp->VK->Prop:=λx lo hi H Q=>∃a xs,x=.ref a/\SqT K H a xs /\
 ¬ (HT.sIx xs.length 0 lo=0/\HT.sIx xs.length xs.length hi=xs.length)/\∀p,H p=none->Q (.ref p) (upd H p (.tup (UQ xs lo hi)))
theorem ZbT:SlR X (Zgj X.K):=by
 intro qQ s σ H x v vl vu lo hi sl Q I rx hs pl pu h;obtain ⟨a,xs,rfl,hx,hw,q⟩:=h;cases rx;obtain ⟨its,r,ht,hz⟩:=I.tuple hx;have qV:its.toArray.size=xs.length:=by rw [Yan];exact r.length.symm
 refine ⟨"tuple", _,PyProof.Rows.slot_tuple_getitem.lookup,ht.typeIs,?_⟩;refine HT.getItem_tuple_cut ht hs pl pu (by rw [qV];exact hw) ?_ (by rw [qV];exact hz);rw [qV];refine ⟨.ref s.heap.objs.size,_,I.laid (t':=s.toks) (o:=.tup (UQ xs lo hi)) (λb ob q=>Yag _ q) (Yae _) ?_,rfl,q _ (I.hok.fresh (Yae _))⟩;exact ⟨Ybr (Uu xs lo hi) hz,_,(r.drop (HT.sIx xs.length 0 lo)).take (HT.sIx xs.length xs.length hi-HT.sIx xs.length 0 lo),IsTup.new _ _⟩
end
noncomputable def ixN (n:Nat)(i:Int):Option Nat:=if 0<=i then (if i<n then some i.toNat else none) else if -(n:Int)<=i then some (i+n).toNat else none
noncomputable def atI {α:Type}(xs:List α)(i:Int):Option α:=(ixN xs.length i).bind λj=>xs[j]?
theorem Zc {n:Nat}{i:Int}{j:Nat}(h:ixN n i=some j):seqIndex? i n=some j/\j<n/\-(n:Int)<=i/\i<n:=by
 unfold ixN at h;by_cases h0:0<=i
 ·rw [if_pos h0] at h;by_cases h1:i<n
  ·rw [if_pos h1] at h;have e:i.toNat=j:=Ybl h;exact ⟨by rw [seqIndex_of h0 h1,e],by lia,by lia,h1⟩
  ·rw [if_neg h1] at h;cases h
 ·rw [if_neg h0] at h;by_cases h1:-(n:Int)<=i
  ·rw [if_pos h1] at h;have e:(i+n).toNat=j:=Ybl h;exact ⟨by rw [seqIndex_neg (by lia) h1,e],by lia,h1,by lia⟩
  ·rw [if_neg h1] at h;cases h
theorem Zd {α:Type}{xs:List α}{i:Int}{v:α}(h:atI xs i=some v):∃j,seqIndex? i xs.length=some j/\xs[j]?=some v/\j<xs.length/\-(xs.length:Int)<=i/\i<xs.length:=by
 unfold atI at h;cases e:ixN xs.length i with
 | none=>rw [e] at h;cases h
 | some j=>
  rw [e] at h;obtain ⟨h1,h2,h3,h4⟩:=Zc e;exact ⟨j,h1,h,h2,h3,h4⟩
theorem Gs {α:Type}{xs:List α}{j:Nat}{v:α}(h:xs[j]?=some v):atI xs (j:Int)=some v:=by
 have hj:j<xs.length:=(Yau.mp h).1;have e:ixN xs.length (j:Int)=some j:=by
  unfold ixN;rw [if_pos (by lia),if_pos (by lia)];simp
 unfold atI;rw [e];exact h
noncomputable def Zcu (b:Expr):Prop:=∀o i,subscripted b false o i=operate [o,i] (getItem o i)
noncomputable def IxR (X:Cx)(r:R2):Prop:=
 ∀(value slice:Expr)(qQ:List (Addr×Obj))(s:Shared)(σ:St)(H:Hp)(x y:V)(v u:Value)(Q:VK),Inv X qQ σ H s->RelV x v->RelV y u->r x y H Q ->
  subscripted slice false v u=operate [v,u] (getItem v u)->wpAny (model X.prog X.w) X.A (subscriptTail value slice v u) (EP X qQ σ Q) X.xe s
noncomputable def MtR (X:Cx)(id:String)(r:V->List V->Hp->VK->Prop):Prop:=
 ∀(qQ:List (Addr×Obj))(s:Shared)(σ:St)(H:Hp)(x:V)(xs:List V)(v:Value)(us:List Value)(Q:VK),Inv X qQ σ H s->RelV x v->Vals xs us->r x xs H Q ->
  wpAny (model X.prog X.w) X.A (call (.builtin id) (v::us)) (EP X qQ σ Q) X.xe s
section
variable {X:Cx}{a b:Expr}{ta tb:TE}{pos:Pos}
theorem GG {r:R2}(hr:IxR X r)(ha:PE X a ta)(hb:PE X b tb)(hs:Zcu b):PE X (.Subscript a b pos) (tOp r ta tb):=by
 intro qQ s σ H Q I h;exact Subscript_ (Zfv ha hb I h λv u s2 x y H2 I2 rx ry q=>hr a b qQ s2 σ H2 x y v u Q I2 rx ry q (hs _ _))
noncomputable def Zgk (K:W.Frag):R2:=λx y H Q=>∃p xs i v,x=.ref p/\y=.int i/\SqL K H p xs/\atI xs i=some v/\Q v H
noncomputable def Zgl (K:W.Frag):R2:=λx y H Q=>∃p xs i v,x=.ref p/\y=.int i/\SqT K H p xs/\atI xs i=some v/\Q v H
theorem Zcv:IxR X (Zgk X.K):=by
 intro value slice qQ s σ H x y v u Q I rx ry h hs;obtain ⟨p,xs,i,z,rfl,rfl,hq,he,q⟩:=h;cases rx;obtain ⟨t,rfl⟩:=ry;obtain ⟨its,r,pl,hz⟩:=I.list hq;obtain ⟨j,h1,h2,h3,h4,h5⟩:=Zd he;obtain ⟨w,ew,rw'⟩:=r.get h2;have hl:=r.length;have hn:=VY;have fin:EP X qQ σ Q w s:=⟨z,H,I,rw',q⟩;by_cases h0:0<=i
 ·have hj:i.toNat=j:=by
   rw [seqIndex_of h0 h5] at h1;exact Ybl h1
  exact item_listR pl.isList h0 (by lia) (by rw [hj];simpa using ew) fin hs
 ·have hj:(i+(its.toArray.size:Int)).toNat=j:=by
   rw [seqIndex_neg (by lia) h4] at h1;rw [Yan,<-hl];exact Ybl h1
  exact subscriptTail_builtinR (x:=w) pl.isList.typeIs slot_list_getitem.lookup
   (wpAny_getItem_list_neg (Q:=λr s'=>r=w/\EP X qQ σ Q r s') pl.isList (by lia) (by rw [Yan] <;> lia) (by lia) (by rw [hj];simpa using ew) ⟨rfl,fin⟩) hs
theorem ZdH:IxR X (Zgl X.K):=by
 intro value slice qQ s σ H x y v u Q I rx ry h hs;obtain ⟨p,xs,i,z,rfl,rfl,hq,he,q⟩:=h;cases rx;obtain ⟨t,rfl⟩:=ry;obtain ⟨its,r,pl,hz⟩:=I.tuple hq;obtain ⟨j,h1,h2,h3,h4,h5⟩:=Zd he;obtain ⟨w,ew,rw'⟩:=r.get h2;have hl:=r.length;have hn:=VY;have fin:EP X qQ σ Q w s:=⟨z,H,I,rw',q⟩;exact subscriptTail_builtinR (x:=w) pl.typeIs slot_tuple_getitem.lookup
  (getItem_tuple (j:=j) (Q:=λr s'=>r=w/\EP X qQ σ Q r s') pl (by lia) (by lia) (by rw [Yan,<-hl];exact h1) (by simpa using ew) ⟨rfl,fin⟩) hs
theorem Ye (its:List Value)(n j:Nat)(u:Value):Obj.mapSeq (·.setIfInBounds j u) { cls:=.type "list", data:=.seq its.toArray n }={ cls:=.type "list", data:=.seq (its.set j u).toArray n }:=by
 simp [Obj.mapSeq]
theorem Inv.lst {qQ:List (Addr×Obj)}{σ:St}{H:Hp}{s:Shared}{p:Addr}{xs:List V}(I:Inv X qQ σ H s)(h:H p=some (.lst xs)) :
  ∃(its:List Value)(n:Nat),Vals xs its/\s.heap.get? p=some { cls:=.type "list", data:=.seq its.toArray n }/\xs.length<=sizeLine:=by
 obtain ⟨z,its,n,r,e⟩:=I.hok p _ h;exact ⟨its,n,r,e,z⟩
theorem Inv.lstUpd {qQ:List (Addr×Obj)}{σ:St}{H:Hp}{s:Shared}{p:Addr}{xs ys:List V}{its its':List Value}{n n':Nat}{f:Obj->Obj}(I:Inv X qQ σ H s)(h:H p=some (.lst xs))(ho:s.heap.get? p=some { cls:=.type "list", data:=.seq its.toArray n })(hf:f { cls:=.type "list", data:=.seq its.toArray n }={ cls:=.type "list", data:=.seq its'.toArray n' })(r:Vals ys its')(hz:ys.length<=sizeLine)(t:Nat) :
  Inv X qQ σ (upd H p (.lst ys)) { s with heap:=s.heap.update p f,toks:=t }:=by
 have e:(s.heap.update p f).get? p=some { cls:=.type "list", data:=.seq its'.toArray n' }:=by
  rw [Yei f ho (by rw [hf] <;> rfl),hf]
 refine I.write (x:=p) (e:=p) (by rw [h];trivial) (.inl rfl) (λb u hb q=>(Ycm _ _ (Ne.symm hb)).trans q) ⟨_,e⟩ ?_;exact ⟨hz,its',n',r,e⟩
noncomputable def ZfF:V->V->V->Hp->(Hp->Prop)->Prop:=λo i v H Q=>∃p xs k j,o=.ref p/\i=.int k/\H p=some (.lst xs)/\ixN xs.length k=some j/\Q (upd H p (.lst (xs.set j v)))
theorem Ub:Zgd X ZfF:=by
 intro qQ s σ H o i v ov iv u Q I ro ri rv h;obtain ⟨p,xs,k,j,rfl,rfl,hp,hj,q⟩:=h;cases ro;obtain ⟨t,rfl⟩:=ri;obtain ⟨its,n,r,ho,hz⟩:=I.lst hp;obtain ⟨h1,h2,h3,h4⟩:=Zc hj;have hl:=r.length;have hn:=VY;have I':Inv X qQ σ (upd H p (.lst (xs.set j v))) { s with heap:=s.heap.update p (Obj.mapSeq (·.setIfInBounds j u)) }:=
  I.lstUpd hp ho (Ye its n j u) (r.set rv j) (by rw [List.length_set];exact hz) s.toks
 by_cases h0:0<=k
 ·have hk:k.toNat=j:=by
   rw [seqIndex_of h0 h4] at h1;exact Ybl h1
  exact W.ki_setAt ho h0 (by lia) (by rw [Yan,<-hl];exact h4) (by rw [hk];exact ⟨_,I',q⟩)
 ·have hk:(k+(its.toArray.size:Int)).toNat=j:=by
   rw [seqIndex_neg (by lia) h3] at h1;rw [Yan,<-hl];exact Ybl h1
  exact W.ki_setBack ho (by lia) (by rw [Yan,<-hl];exact h3) (by lia) (by rw [hk];exact ⟨_,I',q⟩)
theorem V4 (lo hi:Option Int)(n:Nat):(sliceBounds lo hi none n).1=((HT.sIx n 0 lo:Nat):Int)/\(sliceBounds lo hi none n).2.1=((HT.sIx n n hi:Nat):Int)/\(sliceBounds lo hi none n).2.2=1:=by
 refine ⟨?_,?_,rfl⟩
 ·cases lo with
  | none=>simp [sliceBounds,HT.sIx]
  | some i=>
   simp only [sliceBounds,HT.sIx,Option.getD_none,show (1:Int) > 0 by decide,if_true];by_cases h:i<0
   ·simp only [h,if_true] <;> lia
   ·simp only [h,if_false] <;> lia
 ·cases hi with
  | none=>simp [sliceBounds,HT.sIx]
  | some i=>
   simp only [sliceBounds,HT.sIx,Option.getD_none,show (1:Int) > 0 by decide,if_true];by_cases h:i<0
   ·simp only [h,if_true] <;> lia
   ·simp only [h,if_false] <;> lia
theorem Vd (its:List Value)(lo hi:Option Int):slicePick its.toArray lo hi none=((its.drop (HT.sIx its.length 0 lo)).take (HT.sIx its.length its.length hi-HT.sIx its.length 0 lo)).toArray:=by
 obtain ⟨h1,h2,h3⟩:=V4 lo hi its.toArray.size;unfold slicePick;rw [h1,h2,h3];simp only [sliceRange_one,pick_run,Yan] <;> rfl
noncomputable def Zgm (K:W.Frag):V->Option Int->Option Int->Hp->VK->Prop:=λx lo hi H Q=>∃a xs,x=.ref a/\SqL K H a xs/\∀p,H p=none->Q (.ref p) (upd H p (.lst (UQ xs lo hi)))
theorem Zcw:SlR X (Zgm X.K):=by
 intro qQ s σ H x v vl vu lo hi sl Q I rx hs pl pu h;obtain ⟨a,xs,rfl,hx,q⟩:=h;cases rx;obtain ⟨its,r,ht,hz⟩:=I.list hx;have qV:=r.length;refine ⟨"list", _,slot_list_getitem.lookup,ht.isList.typeIs,?_⟩;refine wpAny_getItem_list_slice ht.isList hs pl pu .none (by simp) ?_ (by rw [Yan] <;> lia);rw [Vd,<-qV];refine ⟨.ref s.heap.objs.size,_,I.laid (t':=s.toks) (o:=.lst (UQ xs lo hi)) (λb ob q=>Yag _ q) (Yae _) ?_,rfl,q _ (I.hok.fresh (Yae _))⟩;exact ⟨Ybr (Uu xs lo hi) hz,_,0,(r.drop (HT.sIx xs.length 0 lo)).take (HT.sIx xs.length xs.length hi-HT.sIx xs.length 0 lo),Yay _ rfl⟩
theorem V5:JR X (.builtin "len") (λxs H Q=>∃p ys,xs=[.ref p]/\(SqL X.K H p ys\/SqT X.K H p ys)/\Q (.int ys.length) H):=by
 intro qQ s σ H xs us Q I r h;obtain ⟨p,ys,rfl,hq,q⟩:=h;obtain ⟨u,rfl,rx⟩:=Zco r;cases rx;have hn:=VY;rcases hq with hq | hq
 ·obtain ⟨its,r',pl,hz⟩:=I.list hq;have qV:=r'.length;exact Calls.call_len_list pl.isList (by simp only [Yan] <;> lia) ⟨.int ys.length,H,I.tok _,⟨s.toks+1,by rw [Yan,qV]⟩,q⟩
 ·obtain ⟨its,r',pl,hz⟩:=I.tuple hq;have qV:=r'.length;exact len_tuple pl (by simp only [Yan] <;> lia) ⟨.int ys.length,H,I.tok _,⟨s.toks+1,by rw [Yan,qV]⟩,q⟩
theorem V6:JR X (.type "list") (λxs H Q=>∃p ys,xs=[.ref p]/\(SqL X.K H p ys\/SqT X.K H p ys)/\∀l,H l=none->Q (.ref l) (upd H l (.lst ys))):=by
 intro qQ s σ H xs us Q I r h;obtain ⟨p,ys,rfl,hq,q⟩:=h;obtain ⟨u,rfl,rx⟩:=Zco r;cases rx;have fin:∀(its:List Value),Vals ys its->ys.length<=sizeLine->∀(h':Heap)(c':Nat),(∀b o',s.heap.get? b=some o'->h'.get? b=some o') ->
   h'.get? s.heap.objs.size=some { cls:=.type "list", dict:=none,data:=.seq its.toArray c',slots:=#[] }->EP X qQ σ Q (.ref s.heap.objs.size) { s with heap:=h' }:=λits r' hz h' c' kp e=>
  ⟨.ref s.heap.objs.size,_,I.laid (t':=s.toks) kp (Yae _) (show ObjOk X.prog X.w _ h' _ (.lst ys) from ⟨hz,its,c',r',e⟩),rfl,q _ (I.hok.fresh (Yae _))⟩
 rcases hq with hq | hq
 ·obtain ⟨its,r',pl,hz⟩:=I.list hq;have qV:=r'.length;obtain ⟨o,ho,hc,n,hd⟩:=pl.isList;exact call_list_seq p (.inl rfl) ho hc hd (λh' c' kp e=>fin its r' hz h' c' kp e) (by simp only [Yan] <;> lia)
 ·obtain ⟨its,r',pl,hz⟩:=I.tuple hq;have qV:=r'.length;obtain ⟨o,ho,hc,n,hd⟩:=pl;exact call_list_seq p (.inr rfl) ho hc hd (λh' c' kp e=>fin its r' hz h' c' kp e) (by simp only [Yan] <;> lia)
theorem Ve:JR X (.type "tuple") (λxs H Q=>∃p ys,xs=[.ref p]/\((SqL X.K H p ys/\∀l,H l=none->Q (.ref l) (upd H l (.tup ys)))\/(SqT X.K H p ys/\Q (.ref p) H))):=by
 intro qQ s σ H xs us Q I r h;obtain ⟨p,ys,rfl,h⟩:=h;obtain ⟨u,rfl,rx⟩:=Zco r;cases rx;rcases h with ⟨hq,q⟩ | ⟨hq,q⟩
 ·obtain ⟨its,r',pl,hz⟩:=I.list hq;have qV:=r'.length;refine call_tuple_list pl.isList (λh' kp=>?_) (by simp only [Yan] <;> lia);have I1:Inv X qQ σ H { s with heap:=h' }:=I.kept (t':=s.toks) kp;have I2:Inv X qQ σ (upd H h'.objs.size (.tup ys)) { s with heap:=h'.push { cls:=.type "tuple", data:=.seq its.toArray } }:=
   I1.laid (t':=s.toks) (λb o e=>Yag _ e) (Yae _) (show ObjOk X.prog X.w _ _ _ (.tup ys) from ⟨hz,its,r',IsTup.new _ _⟩)
  exact ⟨.ref h'.objs.size,_,I2,rfl,q _ (I1.hok.fresh (Yae _))⟩
 ·obtain ⟨its,r',pl,hz⟩:=I.tuple hq;exact call_tuple_same pl ⟨.ref p,H,I,rfl,q⟩
noncomputable def tyV (K:W.Frag)(T:String)(x:V)(H:Hp):Prop:=match x with
 | .str _=>T = "str"
 | .int _=>T = "int"
 | .ref p=>(T = "list" /\ ∃xs,SqL K H p xs)\/(T = "tuple" /\ ∃o,K.lookup p=some o/\o.cls=.type "tuple" /\ o.dict=none) \/
   (T = "dict" /\ ((∃kvs,H p=some (.dK kvs))\/∃kvs,H p=some (.dT kvs)))\/(T = "set" /\ ∃S n,H p=some (.set S n))
 | _=>False
theorem ZbU {qQ:List (Addr×Obj)}{σ:St}{H:Hp}{s:Shared}{T:String}{x:V}{v:Value}(I:Inv X qQ σ H s)(r:RelV x v)(ty:tyV X.K T x H) :
  s.TypeIs v T/\∀a,v=.ref a->∃ob,s.heap.get? a=some ob/\ob.dict=none:=by
 cases x with
 | str z=>
  obtain ⟨t,rfl⟩:=r;cases (show T = "str" from ty);exact ⟨typeIs_str s z t,λ_ e=>nomatch e⟩
 | int i=>
  obtain ⟨t,rfl⟩:=r;cases (show T = "int" from ty);exact ⟨typeIs_int s i t,λ_ e=>nomatch e⟩
 | ref p=>
  cases r;rcases ty with ⟨rfl,xs,hq⟩ | ⟨rfl,o,hk,hc,hd⟩ | ⟨rfl,hk⟩ | ⟨rfl,S,n,hk⟩
  ·obtain ⟨its,_,pl,_⟩:=I.list hq;refine ⟨pl.isList.typeIs,λa e=>?_⟩;cases e;obtain ⟨o,n,e,c,hd,_⟩:=pl;exact ⟨o,e,hd⟩
  ·refine ⟨⟨o,I.kIn p o hk,hc⟩,λa e=>?_⟩;cases e;exact ⟨o,I.kIn _ o hk,hd⟩
  ·have z:∃o,s.heap.get? p=some o/\o.ExactDict:=by
    rcases hk with ⟨kvs,hk⟩ | ⟨kvs,hk⟩
    ·obtain ⟨_,_,_,_,o,_,_,e,ex,_⟩:=I.hok p _ hk;exact ⟨o,e,ex⟩
    ·obtain ⟨_,_,_,_,o,_,_,e,ex,_⟩:=I.hok p _ hk;exact ⟨o,e,ex⟩
   obtain ⟨o,e,ex⟩:=z;refine ⟨⟨o,e,ex.1⟩,λa e2=>?_⟩;cases e2;exact ⟨o,e,ex.2.1⟩
  ·obtain ⟨o,_,_,_,e,ex,_⟩:=I.hok p _ hk;refine ⟨⟨o,e,ex.1⟩,λa e2=>?_⟩;cases e2;exact ⟨o,e,ex.2.1⟩
 | _=>exact False.elim ty
noncomputable def ZgK (K:W.Frag)(T:String)(r:V->List V->Hp->VK->Prop)(to:TE):TE:=λσ H Q=>to σ H λx H1=>tyV K T x H1/\r x [] H1 Q
noncomputable def tBM (K:W.Frag)(T:String)(r:V->List V->Hp->VK->Prop)(to:TE)(t:TA):TE:=λσ H Q=>to σ H λx H1=>tyV K T x H1/\t σ H1 λxs H2=>r x xs H2 Q
variable {o e:Expr}{es:List Expr}{to:TE}{t:TA}{name:Str}{apos qG:Pos}{T id:String}{r:V->List V->Hp->VK->Prop}
theorem ZdI (pa:PlainAttrs T)(slot:Slot T name id)(hty:typeOf (.builtin id)=pure (.type "method_descriptor"))(hm:MtR X id r)(ho:PE X o to)(hbase:attributeBase o name X.env (eval o X.env)=eval o X.env:=by rfl)(hline:(apos.endLine == qG.line)=true:=by rfl):PE X (.Call (.Attribute o name apos) [] [] qG) (ZgK X.K T r to):=by
 intro qQ s σ H Q I h;refine wpAny_Call_method0_late hbase hline (thn (ho qQ s σ H _ I h) λv s1 ⟨x,H1,I1,r1,ty,q1⟩=>?_);obtain ⟨h1,h2⟩:=ZbU I1 r1 ty;exact ⟨T,id,pa,slot,hty,h1,h2,Calls.callWith_builtin rfl (PySem.evalArgs_none (hm qQ s1 σ H1 x [] v [] Q I1 r1 .nil q1))⟩
theorem Vf (pa:PlainAttrs T)(slot:Slot T name id)(hty:typeOf (.builtin id)=pure (.type "method_descriptor"))(hm:MtR X id r)(ho:PE X o to)(ha:PA X (e::es) t)(hbase:attributeBase o name X.env (eval o X.env)=eval o X.env:=by rfl)(hfew:((backTo qG (starEach (e::es) X.env)).all (λx=>!x.1) && (backToKw qG (keywordEach [] X.env)).all (λx=>x.1.isSome)
   && decide ((e::es).length+([]:List Keyword).length+(if ([]:List Keyword).isEmpty then 0 else 1)<30))=true:=by rfl)(hline:(apos.endLine == qG.line)=true:=by rfl)(hs:starEach (e::es) X.env=(false,eval e X.env)::starEach es X.env:=by rfl)(hplain:(backTo qG (starEach es X.env)).any (·.1)=false:=by rfl) :
  PE X (.Call (.Attribute o name apos) (e::es) [] qG) (tBM X.K T r to t):=by
 intro qQ s σ H Q I h;refine wpAny_Call_method_late hbase hfew hline rfl (thn (ho qQ s σ H _ I h) λv s1 ⟨x,H1,I1,r1,ty,q1⟩=>?_);obtain ⟨h1,h2⟩:=ZbU I1 r1 ty;refine ⟨T,id,pa,slot,hty,h1,h2,?_⟩;have hA:=ha qG qQ s1 σ H1 _ I1 q1;rw [hs] at hA ⊢;refine Calls.callWith_builtin (by show (false || (backTo qG (starEach es X.env)).any (·.1))=false;rw [hplain] <;> rfl) (Calls.evalArgs_plain ?_);exact thn hA λus s2 ⟨vs,H2,I2,r2,q2⟩=>hm qQ s2 σ H2 x vs v us Q I2 r1 r2 q2
end
noncomputable def MtM (X:Cx)(id:String)(r:V->List V->Hp->VK->Prop):Prop:=
 ∀(qQ:List (Addr×Obj))(s:Shared)(σ:St)(H:Hp)(x:V)(xs:List V)(v:Value)(us:List Value)(Q:VK),Inv X qQ σ H s->RelV x v->Vals xs us->r x xs H Q ->
  wpAny (model X.prog X.w) X.A (call (.builtin id) (v::us)) (EP X qQ σ Q) X.xe s
theorem Vals.one:∀{x:V}{us:List Value},Vals [x] us->∃u,us=[u]/\RelV x u
 | _,_,.cons r .nil=>⟨_,rfl,r⟩
theorem Vals.two:∀{x y:V}{us:List Value},Vals [x,y] us->∃u v,us=[u,v]/\RelV x u/\RelV y v
 | _,_,_,.cons r (.cons q .nil)=>⟨_,_,rfl,r,q⟩
theorem Vals.zero:∀{us:List Value},Vals [] us->us=[]
 | _,.nil=>rfl
theorem Vals.dropLast {xs:List V}{us:List Value}(h:Vals xs us):Vals xs.dropLast us.dropLast:=by
 induction h with
 | nil=>exact .nil
 | cons r t ih=>
  cases t with
  | nil=>exact .nil
  | cons q t'=>exact .cons r ih
theorem Vals.rep {xs:List V}{us:List Value}(h:Vals xs us):∀k:Nat,Vals (List.replicate k xs).flatten (List.replicate k us).flatten
 | 0=>.nil
 | k+1=>by
  rw [Yej,Yej,List.flatten_cons,List.flatten_cons];exact Vals.append h (Vals.rep h k)
theorem Yg {α:Type}(l:List α):l.eraseIdx (l.length-1)=l.dropLast:=by
 induction l with
 | nil=>rfl
 | cons a r ih=>
  cases r with
  | nil=>rfl
  | cons b r=>
   have e:(a::b::r).length-1=((b::r).length-1)+1:=by
    have h1:(a::b::r).length=r.length+2:=rfl;have h2:(b::r).length=r.length+1:=rfl
    lia
   rw [e,List.eraseIdx_cons_succ,ih]
   all_goals rfl
theorem V7 (its:List Value):∀(k:Nat)(acc:List Value),
  List.foldl (λx1 x2=>x1++x2) acc.toArray (List.replicate k its.toArray)=(acc++(List.replicate k its).flatten).toArray
 | 0,acc=>by simp
 | k+1,acc=>by
  have e:acc.toArray++its.toArray=(acc++its).toArray:=by simp
  have e2:(acc++its)++(List.replicate k its).flatten=acc++(List.replicate (k+1) its).flatten:=by
   rw [Yej,List.flatten_cons,Ybq]
  rw [<-e2,<-V7 its k (acc++its),<-e,Yej,List.foldl_cons]
section
variable {X:Cx}{qQ:List (Addr×Obj)}{σ:St}{H:Hp}{s:Shared}{l b:Addr}{xs ys zs:List V}
theorem Inv.lset {its its':List Value}{n:Nat}{f:Array Value->Array Value}{t':Nat}(I:Inv X qQ σ H s)(hH:H l=some (.lst xs))(e:s.heap.get? l=some { cls:=.type "list", data:=.seq its.toArray n })(hf:f its.toArray=its'.toArray)(hv:Vals ys its')(hz:ys.length<=sizeLine) :
  Inv X qQ σ (upd H l (.lst ys)) { s with heap:=s.heap.update l (Obj.mapSeq f),toks:=t' }:=by
 have q:=PySem.IsL.update e f;rw [hf] at q;refine I.write (x:=l) (e:=l) (by rw [hH];exact trivial) (.inl rfl) (λb' u hb hu=>(Ycm s.heap (Obj.mapSeq f) (Ne.symm hb)).trans hu) ⟨_,q⟩ ?_;exact ⟨hz,its',_,hv,q⟩
theorem Inv.lnew {its:List Value}{t':Nat}(I:Inv X qQ σ H s)(hv:Vals ys its)(hz:ys.length<=sizeLine) :
  Inv X qQ σ (upd H s.heap.objs.size (.lst ys)) { s with heap:=s.heap.push { cls:=.type "list", data:=.seq its.toArray },toks:=t' }:=
 I.laid (λ_ _ q=>Yag _ q) (Yae _) ⟨hz,its,0,hv,Yay _ rfl⟩
theorem Inv.fresh (I:Inv X qQ σ H s):H s.heap.objs.size=none:=I.hok.fresh (Yae _)
theorem Inv.lstM (I:Inv X qQ σ H s)(hH:H l=some (.lst xs)):xs.length<=sizeLine/\∃(its:List Value)(n:Nat),Vals xs its/\xs.length=its.length/\s.heap.get? l=some { cls:=.type "list", data:=.seq its.toArray n }:=by
 obtain ⟨z,its,n,r,e⟩:=I.hok l _ hH;exact ⟨z,its,n,r,r.length,e⟩
theorem Xj {n:Nat}(h:n<=sizeLine):Builtin.List.listTooLong n=false:=by
 unfold Builtin.List.listTooLong;exact Ybj (by lia)
end
section
variable {X:Cx}
noncomputable def Zcx:V->List V->Hp->VK->Prop:=λx vs H Q=>∃l xs y,x=.ref l/\vs=[y]/\H l=some (.lst xs)/\xs.length<sizeLine/\Q .non (upd H l (.lst (xs++[y])))
theorem Ji:MtM X "list.append" Zcx:=by
 intro qQ s σ H x vs v us Q I rx rv h;obtain ⟨l,xs,y,rfl,rfl,hH,hz,q⟩:=h;cases rx;obtain ⟨u,rfl,ru⟩:=rv.one;obtain ⟨z,its,n,r,hl,e⟩:=I.lstM hH;refine call_meets F.slot_list_append ⟨_,e,rfl⟩ F.entry_list_append (F.args_list_append_2 _ _) (PySem.list_append l its.toArray n u (by rw [Yan];lia)) ⟨e,?_⟩;refine ⟨.non,_,I.lset (its':=its++[u]) hH e (by simp) (r.append (.cons ru .nil)) ?_,rfl,q⟩;rw [Yak,Ybc]
 lia
noncomputable def ZgL:V->List V->Hp->VK->Prop:=λx vs H Q=>∃l xs y,x=.ref l/\vs=[]/\H l=some (.lst xs)/\xs[xs.length-1]?=some y/\Q y (upd H l (.lst xs.dropLast))
theorem ZdJ:MtM X "list.pop" ZgL:=by
 intro qQ s σ H x vs v us Q I rx rv h;obtain ⟨l,xs,y,rfl,rfl,hH,hy,q⟩:=h;cases rx;have hus:=rv.zero;subst hus;obtain ⟨z,its,n,r,hl,e⟩:=I.lstM hH;obtain ⟨u,hu,ru⟩:=r.get hy;have hy':its.toArray[its.toArray.size-1]?=some u:=by
  show its.toArray[its.length-1]?=some u;rw [<-Yaq,<-hl];exact hu
 refine call_meets F.slot_list_pop ⟨_,e,rfl⟩ F.entry_list_pop (F.args_list_pop_1 _) (MeetsSeq.list_pop_last l its.toArray n u hy' (by rw [Yan];lia)) ⟨e,?_⟩;refine ⟨y,_,I.lset (its':=its.dropLast) hH e ?_ r.dropLast ?_,ru,q⟩
 ·show its.toArray.eraseIdxIfInBounds (its.toArray.size-1)=its.dropLast.toArray;rw [Yan,List.eraseIdxIfInBounds_toArray,Yg]
 ·rw [List.length_dropLast]
  lia
noncomputable def ZgM:R2:=λx y H Q=>∃l b xs zs,x=.ref l/\y=.ref b/\H l=some (.lst xs)/\H b=some (.lst zs)/\xs.length+zs.length<=sizeLine/\∀p,H p=none->Q (.ref p) (upd H p (.lst (xs++zs)))
theorem ZbV:OpR X (binaryOp .Add) ZgM:=by
 intro qQ s σ H x y v u Q I rx ry h;obtain ⟨l,b,xs,zs,rfl,rfl,hH,hB,hz,q⟩:=h;cases rx;cases ry;obtain ⟨z,its,n,r,hl,e⟩:=I.lstM hH;obtain ⟨z2,its2,n2,r2,hl2,e2⟩:=I.lstM hB;refine PySem.P.add_list e e2 ?_ (by rw [Yan,Yan];lia);have ea:its.toArray++its2.toArray=(its++its2).toArray:=by simp
 rw [ea];exact ⟨.ref _,_,I.lnew (t':=s.toks) (r.append r2) (by rw [Yak];lia),rfl,q _ I.fresh⟩
noncomputable def ZgN:R2:=λx y H Q=>∃l k xs,x=.ref l/\y=.int k/\H l=some (.lst xs)/\-(2 ^ 63)<=k/\k<2 ^ 63/\xs.length * k.toNat<=sizeLine /\
 ∀p,H p=none->Q (.ref p) (upd H p (.lst (List.replicate k.toNat xs).flatten))
theorem Zcy {α:Type}(xs:List α)(k:Nat):(List.replicate k xs).flatten.length=k * xs.length:=by
 induction k with
 | zero=>simp
 | succ k ih=>rw [Yej,List.flatten_cons,Yak,ih,Nat.succ_mul,Nat.add_comm]
theorem ZdK:OpR X (binaryOp .Mult) ZgN:=by
 intro qQ s σ H x y v u Q I rx ry h;obtain ⟨l,k,xs,rfl,rfl,hH,h1,h2,hz,q⟩:=h;cases rx;obtain ⟨t,rfl⟩:=ry;obtain ⟨z,its,n,r,hl,e⟩:=I.lstM hH;have qV:its.toArray.size * k.toNat<=sizeLine:=by rw [Yan,<-hl];exact hz
 have hcap:¬ its.toArray.size * k.toNat > (2 ^ 63-1) / 8:=by
  have:(sizeLine:Nat)<=(2 ^ 63-1) / 8:=by decide
  lia
 have hfit:¬ (!Builtin.List.listFitsIndex k)=true:=by
  rw [fitsIndex_both h1 h2];exact Yaj
 have hlong:¬ Builtin.List.listTooLong (its.toArray.size * k.toNat)=true:=by
  rw [Xj qV];exact Yaj
 have hnew:List.foldl (λx1 x2=>x1++x2) #[] (List.replicate (if its.toArray.isEmpty=true then 0 else k.toNat) its.toArray)=(List.replicate k.toNat its).flatten.toArray:=by
  have f0:∀m:Nat,List.foldl (λx1 x2=>x1++x2) #[] (List.replicate m its.toArray)=(List.replicate m its).flatten.toArray:=λm=>by
   have:=V7 its m [];rw [List.nil_append] at this;exact this
  rw [f0];cases its with
  | nil=>simp
  | cons a r'=>rw [if_neg (by simp)]
 refine wpAny_binaryOp_repeat_ref (T := "list") (U := "int") (by decide) ⟨_,e,rfl⟩ (λs'=>typeIs_int s' k t) noFill_list_mul F.fills_int_mul F.slot_int_rmul repeat_list F.slot_int_index.lookup
  (call_meets F.slot_int_rmul (typeIs_int s k t) F.entry_int_rmul (F.args_int_rmul_2 _ _) (int___rmul___int_list k t l its.toArray n)
   ⟨e,rfl,⟨_,e,rfl⟩,call_meets F.slot_list_mul ⟨_,e,rfl⟩ F.entry_list_mul (F.args_list_mul_2 _ _) (AutoListH.list___mul___list_int_3 l its.toArray n k t hfit hcap hlong) ⟨e,?_⟩⟩)
 rw [hnew];exact ⟨.ref _,_,I.lnew (t':=s.toks) (r.rep k.toNat) (by rw [Zcy,Nat.mul_comm];exact hz),rfl,q _ I.fresh⟩
end
section
variable {prog:Program}{w:World}{A:Around}{E:EX}{s:Shared}
end
section
variable {X:Cx}
end
end L2
namespace Att
open PySem PySem.W PySem.Calls PyProof.Rows
theorem Uv {P:Params}{h:Heap}:∀(ns:List Int)(vs:List Value),WellAll P h vs (ns.map WData.int)->IntsAre vs ns:=by
 intro ns
 induction ns with
 | nil=>
  intro vs w;rw [List.map_nil] at w;cases w;exact .nil
 | cons n ns ih=>
  intro vs w;rw [Yap] at w;cases w with
  | cons a b=>
   cases a;exact .cons _ _ (ih _ b)
theorem Ze {l:OpenLaw}{n:Nat}(hn:l.most=some n){P:Params}{h:Heap}{args:List WData}{vals:List Value}(hpre:l.row.toRowW.claim.pre args=true)(hwl:WellAll P h vals args) :
  ∃a vs ns,vals=[Value.ref a]/\args=[WData.list (ns.map WData.int)]/\h.get? a=some { cls:=.type "list", data:=.seq vs.toArray }/\IntsAre vs ns/\ns.length<=n:=by
 have hsh:WShape.hasAll [] args [.list .int]=true:=(pre_splitW hpre).1;have hc:l.pre.holds [] { args:=args }=true:=(pre_splitW hpre).2;obtain ⟨d,r,rfl,h1,h2⟩:=hasAllW_cons hsh;obtain rfl:=hasAllW_nil h2;obtain ⟨xs,rfl,h3⟩:=hasW_list h1;obtain ⟨ns,rfl⟩:=items_int h3;have qV:ns.length<=n:=by
  unfold OpenLaw.pre at hc;have h4:(WTm.not (.lt (.lit (.int (n:Int))) (.len (.arg 0)))).holds [] { args:=[.list (ns.map .int)] }=true:=by
   have h4:=(holds_andW hc).1;rw [hn] at h4;exact h4
  have h5:=condW_of h4 (w_not (w_lt w_lit (w_len_list (w_arg rfl))));rw [Yad] at h5;refine Nat.le_of_not_lt λq=>?_;have q':(n:Int)<((ns.length:Nat):Int):=by lia
  first
   | (rw [Yba q'] at h5;exact absurd h5 (by decide))
   | (simp at h5;lia)
 cases hwl with
 | cons w1 w2=>
  cases w2;cases w1 with
  | list ho qK=>exact ⟨_,_,ns,rfl,rfl,ho,Uv ns _ qK,qV⟩
theorem Zf (l:OpenLaw)(args:List WData):l.row.toRowW.claim.post args (.bool true) args=true:=
 postW_of (r:=l.row.toRowW) (X:=(true == true))
  (show WShape.has [] (.bool true) .bool=true by first | rfl | decide | simp [WShape.has,WShape.arms,WShape.armsAll])
  (show (WTm.eq .res (.lit (.bool true))).value [] { args:=args,res:=some (.bool true),after:=args }=some (.bool (true == true)) from w_eq_bool (w_res rfl) w_lit) rfl
theorem attach_call {l:OpenLaw}{n:Nat}{q:Program}{loose:List Str}{XP:(Str->Option Value)->Heap->Prop}{YP:World->Heap->Prop}{d:DefRec}(hn:l.most=some n)(hdf:d.params.defaults=[])(call:∀(w:World)(s₀ s₁:Shared)(mg mb:Str->Option Value)(fa:Addr)(o:Obj)(pm cd doc:Value)(a:Addr)(vs:List Value)(ns:List Int),
   Ground q loose [] XP w s₀ mg mb s₁.heap->YP w s₁.heap ->
   s₁.heap.get? fa=some o->o.data=.func (docDef d.name d.params d.body d.scope pm cd doc)->s₁.heap.CodeRec cd d.name->mg d.name=some (.ref fa) ->
   s₁.heap.get? a=some { cls:=.type "list", data:=.seq vs.toArray }->IntsAre vs ns->ns.length<=n->s₁.gens=#[] ->
   codeAny (model l.prog w) callerA (.call (.ref fa) ⟨[.ref a],[]⟩) (λr s'=>r=.ok (.ret (.bool true))/\OldK s₁.heap s'.heap/\s'.os=s₁.os/\AllBare s'.gens) s₁) :
  WalkO q loose XP YP l.row.toRowW d [] (λf vs=>PySem.call f vs):=by
 intro w s₀ s₁ mg mb G Y fa o pm cd doc dV kV ho hd hcd hD hmg hg args vals as hpre hlay hrd hwl hlo;obtain rfl:dV=.none:=Dflts.none hD hdf;obtain rfl:kV=.none:=Dflts.noKw hD;obtain ⟨a,vs,ns,rfl,rfl,hobj,hints,qV⟩:=Ze hn hpre hwl;refine enter_call (codeAny_mono (call w s₀ s₁ mg mb fa o pm cd doc a vs ns G Y ho (fd_plain hd) hcd hmg hobj hints qV hg) λr s' hq=>?_);obtain ⟨rfl,h2,h3,h4⟩:=hq;exact ⟨.inl ⟨.bool true,.bool true,[],rfl,λ_=>rfl,.bool true,Zf l _,λ_=>⟨List.Pairwise.nil,λ_ hm=>(nomatch hm)⟩⟩,h2,h3,h4⟩
section
variable {prog:Program}{w:World}{A:Around}{E:EX}{s:Shared}{K:Frag}
end
end Att
namespace L2
open PySem PySem.Spec PyProof.Rows
theorem V8:∀{vs:List Value}{ns:List Int},IntsAre vs ns->Vals (ns.map V.int) vs
 | _,_,.nil=>.nil
 | _,_,.cons n t h=>.cons ⟨t,rfl⟩ (V8 h)
noncomputable def Zg (s:Stmt)(j:Nat):Stmt:=match s with
 | .ClassDef _ _ _ body _ _ _ _ _ _ _=>body.getD j (.Pass ⟨0,0,0,0⟩)
 | _=>.Pass ⟨0,0,0,0⟩
noncomputable def Jd (s:Stmt):Arguments:=match s with
 | .FunctionDef _ a _ _ _ _ _ _ _ _=>a
 | _=>{ posonlyargs:=[],args:=[],vararg:=none,kwonlyargs:=[],kw_defaults:=[],kwarg:=none,defaults:=[] }
noncomputable def GQ (s:Stmt):List Stmt:=match s with
 | .FunctionDef _ _ b _ _ _ _ _ _ _=>b
 | _=>[]
noncomputable def Gg (s:Stmt):Scope:=match s with
 | .FunctionDef _ _ _ _ _ _ sc _ _ _=>sc
 | _=>{ kind:=.function,names:=[],isGenerator:=false,isCoroutine:=false }
noncomputable abbrev CX0:CXT:=λ_ _ _ _ _ _=>False
noncomputable abbrev E0:XK:=λ_ _ _=>False
theorem G4 {X:Cx}:Ou CX0 X E0:=λ_ _ _ _ _ _ _ h=>h.elim
structure Fun (K:W.Frag)(x qual:Str)(st:Stmt)(f:Addr)(fd:FuncData):Prop where
 ex:∃(oc:Value)(od:Option Addr)(kV doc pm:Value)(an:Option Addr)(cdv ct:Value)(osl:Array (Option Value)),
  fd=W.fnOf x qual (Jd st) (GQ st) (Gg st) .none kV doc pm an cdv ct/\K.lookup f=some ⟨oc,od,.func fd,osl⟩/\W.codeIn K cdv qual=true
 kp:W.keepIn K (.ref f)=true
section
variable {P:Program}{w:World}{K:W.Frag}{mg:Str->Option Value}{base:Heap}
theorem Fun.ok {x qual:Str}{st:Stmt}{f:Addr}{fd:FuncData}{N ps:List Str}{k:Nat}{sp:Sp}(F:Fun K x qual st f fd)(S:Gy N ps (Gg st))(len:∀vs H Q E,sp vs H Q E->vs.length=ps.length)(jZ:∀(cdv:Value)(A:Around)(outer:List Env)(s:Shared)(H:Hp)(vs:List V)(Q:VK)(E:XK),Room k (A.deeper (envOfC qual (Gg st) s.heap.objs.size f cdv))->sp vs H Q E ->
   ∃t,PSs (YO CX0 P w K mg base N qual (Gg st) f cdv A outer s H E).nox (GQ st) t/\t { nx:=λ_ H'=>Q .non H',rt:=Q } (start N vs) H):G7 P w K mg base CX0 (k+1) f fd ps sp:=by
 obtain ⟨oc,od,kV,doc,pm,an,cdv,ct,osl,rfl,lk,hcd⟩:=F.ex;refine ZaP lk hcd S len λA outer s H vs Q E hr hsp=>?_;obtain ⟨t,h,q⟩:=jZ cdv A outer s H vs Q E hr hsp;exact ⟨t,h.nox,q⟩
theorem Fun.binds {x qual:Str}{st:Stmt}{f:Addr}{fd:FuncData}{ps:List Str}(F:Fun K x qual st f fd)(h:∀(kV doc pm:Value)(an:Option Addr)(cdv ct:Value)(us:List Value),us.length=ps.length->bindArgs (W.fnOf x qual (Jd st) (GQ st) (Gg st) .none kV doc pm an cdv ct) ⟨us,[]⟩=pure (ps.zip us)):Binds K fd ps []:=by
 obtain ⟨oc,od,kV,doc,pm,an,cdv,ct,osl,rfl,lk,hcd⟩:=F.ex;exact .all (h kV doc pm an cdv ct)
theorem Zh {x qual:Str}{st:Stmt}{f:Addr}{oc:Value}{od an:Option Addr}{osl:Array (Option Value)}{kV doc pm cdv ct:Value}(l:K.lookup f=some ⟨oc,od,.func (W.fnOf x qual (Jd st) (GQ st) (Gg st) .none kV doc pm an cdv ct),osl⟩)(c:W.codeIn K cdv qual=true)(k:W.keepIn K (.ref f)=true):Fun K x qual st f (W.fnOf x qual (Jd st) (GQ st) (Gg st) .none kV doc pm an cdv ct):=⟨⟨oc,od,kV,doc,pm,an,cdv,ct,osl,rfl,l,c⟩,k⟩
end
section
variable {X:Cx}
theorem pv (i:Nat){x:Str}{pos:Pos}(hN:X.N[i]?=some x:=by rfl)(hv:Vis X.env.scope x:=by first | exact Or.inl rfl | exact Or.inr (Or.inl rfl) | exact Or.inr (Or.inr rfl))(hd:(x == ("__debug__" : Str))=false:=by decide)(hcd:(x == ("__classdict__" : Str))=false:=by decide):PE X (.Name x pos) (Zfm i):=Zds hN hv hd hcd
end
theorem Uc {A B:Prop}(h:B):if false=true then A else B:=by
 rw [if_neg Yaj];exact h
theorem Oc {A B:Prop}(h:A):if true=true then A else B:=by
 rw [if_pos rfl];exact h
theorem JU {c A B:Prop}[Decidable c](h1:c->A)(h2:¬ c->B):if c then A else B:=by
 by_cases h:c
 ·rw [if_pos h];exact h1 h
 ·rw [if_neg h];exact h2 h
noncomputable def Same (H H':Hp):Prop:=∀b o,H b=some o->H' b=some o
theorem Same.refl (H:Hp):Same H H:=λ_ _ h=>h
theorem Same.trans {H H1 H2:Hp}(a:Same H H1)(b:Same H1 H2):Same H H2:=λc o h=>b c o (a c o h)
theorem Same.free {H H':Hp}(e:Same H H'){l:Addr}(h:H' l=Option.none):H l=Option.none:=by
 cases q:H l with
 | none=>rfl
 | some o=>
  rw [e l o q] at h;cases h
theorem Same.seq {K:W.Frag}{H H':Hp}{a:Addr}{xs:List V}(e:Same H H')(h:SqL K H a xs):SqL K H' a xs:=by
 rcases h with (h | ⟨o,h⟩) | h
 ·exact .inl (.inl (e _ _ h))
 ·exact .inl (.inr ⟨o,e _ _ h⟩)
 ·exact .inr h
section
variable {prog:Program}{w:World}{A:Around}{R:Result->Shared->Prop}{s:Shared}
theorem V9 {elt qU iter:Expr}{ifs:List Expr}{scope:Scope}{pos:Pos}{it acc:Value}{env:Env}(I:Nat->Shared->Prop)(turn:∀n s,I n s->wpAny (model prog w) A (pyNext it) (λr s1=>match r with
   | none=>R (.ok .next) s1
   | some v=>wpAny (model prog w) A (letOwnedTupleGo qU it v) (λ_ s1'=>wpAny (model prog w) A (assign qU env v) (λ_ s2=>
     wpAny (model prog w) A (forIn ifs true λc r=>if r=true then do let ok <- isTrue c env (eval c env);pure (ForInStep.yield ok) else pure (ForInStep.yield r)) (λok s3=>
      if ok=true then wpAny (model prog w) A (eval elt env) (λx s4=>
       wpAny (model prog w) A (call (.builtin "list.append") [acc,x]) (λ_ s5=>∃m,m<n/\I m s5) (λ_ _=>False) s4) (λ_ _=>False) s3
      else ∃m,m<n/\I m s3) (λ_ _=>False) s2) (λ_ _=>False) s1') (λ_ _=>False) s1) (λ_ _=>False) s)(n:Nat)(h:I n s) :
  codeAny (model prog w) A (.compLoop (.ListComp elt [⟨qU,iter,ifs,0⟩] scope pos) 0 it acc env) R s:=by
 have ff:∀{E:EX},∀(x:Value)(s:Shared),(λ(_:Value) (_:Shared)=>False) x s->E x s:=λ_ _ z=>False.elim z;refine codeAny_loop rfl I (λn s hI=>?_) n h;show wpAny _ A ((compTurn (.ListComp elt [⟨qU,iter,ifs,0⟩] scope pos) 0 it acc env).onRaise (λx=>do noteFrame x env;theTreesLotGoes x)) _ _ s;refine wpAny_noted ?_;rw [compTurn_list];refine Yaa (wpAny_standAt (Yaa (Ybm (turn n s hI) (λr s1 h1=>?_) ff)));cases r with
 | none=>exact Yab h1
 | some v=>
  refine Yaa (Ybm h1 (λ_ s1' h1'=>?_) ff);refine Yaa (Ybm h1' (λ_ s2 h2=>Yaa (Ybm h2 (λok s3 h3=>?_) ff)) ff);cases ok with
  | false=>exact Yab ⟨rfl,h3⟩
  | true=>
   exact Yaa (Yaa (Ybm h3 (λx s4 h4=>Yaa (Ybm h4 (λ_ s5 h5=>Yab (Yab ⟨rfl,h5⟩)) ff)) ff))
end
noncomputable def Cx.comp (X:Cx)(scope:Scope)(cl:List (Str×Addr))(N:List Str)(C:Addr)(s:Shared)(H:Hp)(fp:List Addr):Cx:=
 { X with N:=N,s₀:=s,H₀:=H,env:=compEnvC scope cl C X.env,outer:=X.stack,ex:=fp,fn:=λ_=>false,pn:=[],xe:=λ_ _=>False }
noncomputable def ZdL (X:Cx)(ifs:List Expr)(t:TT):Prop:=
 ∀(qQ:List (Addr×Obj))(s:Shared)(σ:St)(H:Hp)(Q:Bool->Hp->Prop),Inv X qQ σ H s->t σ H Q ->
  wpAny (model X.prog X.w) X.A (forIn ifs true λc r=>if r=true then do let ok <- isTrue c X.env (eval c X.env);pure (ForInStep.yield ok) else pure (ForInStep.yield r)) (TP X qQ σ Q) X.xe s
noncomputable def ZaF:TT:=λ_ H Q=>Q true H
theorem Jm {X:Cx}:ZdL X [] ZaF:=λ_ _ _ H _ I h=>wpAny_tests_nil ⟨H,I,h⟩
theorem Ud {X:Cx}{c:Expr}{t:TT}(h:PT X c t):ZdL X [c] t:=λqQ s σ H Q I hw=>wpAny_tests_one (h qQ s σ H Q I hw)
structure JG (X:Cx)(scope:Scope)(cl:List (Str×Addr))(own:List Str)(fr:List (Str×Nat)):Prop where
 clos:closureFor scope X.env=pure cl
 nocell:∀y∈scope.names,y.2≠.cell
 kind:scope.kind=.function
 names:∀y∈scope.names,y.2=.local->scope.names.lookup y.1=some .local
 cls:∀y c,cl.lookup y=some c->X.env.cells.lookup y=some c
 has:∀y,((relabel scope X.env).names.lookup y=some .cell\/(relabel scope X.env).names.lookup y=some .free)->∃c,cl.lookup y=some c
 free:∀p∈fr,X.N[p.2]?=some p.1/\(X.env.kindOf p.1=some .cell\/X.env.kindOf p.1=some .free)/\((relabel scope X.env).names.lookup p.1=some .cell\/(relabel scope X.env).names.lookup p.1=some .free)
noncomputable def Js (own:List Str)(fr:List (Str×Nat))(σ:St):St:=own.map (λ_=>none)++fr.map λp=>(σ[p.2]?).join
noncomputable def JA:St->St->Prop
 | [],[]=>True
 | none::r,_::r'=>JA r r'
 | some v::r,some v'::r'=>v=v'/\JA r r'
 | _,_=>False
theorem J4:∀{a b:St},JA a b->∀(i:Nat)(v:V),a[i]?=some (some v)->b[i]?=some (some v)
 | [],[],_,i,v,h=>by simp at h
 | [],_::_,z,_,_,_=>z.elim
 | none::r,[],z,_,_,_=>z.elim
 | some _::r,[],z,_,_,_=>z.elim
 | some _::r,none::_,z,_,_,_=>z.elim
 | none::r,_::r',z,0,v,h=>by simp at h
 | none::r,_::r',z,i+1,v,h=>by
  have:=J4 (a:=r) (b:=r') z i v (by simpa using h);simpa using this
 | some x::r,some x'::r',z,0,v,h=>by
  obtain ⟨e,_⟩:=z;subst e;simpa using h
 | some x::r,some x'::r',z,i+1,v,h=>by
  have:=J4 (a:=r) (b:=r') z.2 i v (by simpa using h);simpa using this
noncomputable def Jt (J:It)(D:Addr)(g:TG)(tc:TT)(te:TE)(σ0:St)(W:Nat->Nat->List V->Hp->Prop)(R:Hp->Prop):Prop:=
 ∀i m ys H2,W i m ys H2->(J.stop i H2/\R H2)\/(J.go i H2/\∃N:List V->Hp->Prop,(∀ys' H',N ys' H'->∃m',m'<m/\W (i+1) m' ys' H')/\∀x H3,J.yld i H2 x H3->g x σ0 H3 λσ4 H4=>JA σ0 σ4/\tc σ4 H4 λb H5=>
  if b=true then te σ4 H5 λy H6=>H6 D=some (.lst ys)/\ys.length<sizeLine/\N (ys++[y]) (upd H6 D (.lst (ys++[y])))
  else N ys H5)
noncomputable def ZdM (wi:TI)(g:TG)(tc:TT)(te:TE)(own:List Str)(fr:List (Str×Nat)):TE:=λσ H Q=>wi σ H λJ H1=>∀D,H1 D=none ->
 ∃W:Nat->Nat->List V->Hp->Prop,(∃m,W 0 m [] (upd H1 D (.lst [])))/\Jt J D g tc te (Js own fr σ) W λH2=>Q (.ref D) H2
section
variable {X:Cx}{qU iter elt:Expr}{ifs:List Expr}{scope:Scope}{cl:List (Str×Addr)}{own:List Str}{fr:List (Str×Nat)}{pos:Pos}{wi:TI}{g:TG}{tc:TT}{te:TE}
theorem Inv.sub_pins {qQ pins':List (Addr×Obj)}{σ:St}{H:Hp}{s:Shared}(I:Inv X qQ σ H s)(h:∀p∈pins',p∈qQ):Inv X pins' σ H s:=I.pins_of λp hp=>I.pin p (Ycc _ (h p hp))
theorem Zcz {qQ:List (Addr×Obj)}{σ:St}{H:Hp}{s:Shared}{C:Addr}{fp:List Addr}(S:JG X scope cl own fr)(I:Inv X qQ σ H s)(hf:∀b∈fp,ZaE X qQ H b)(hC:s.heap.objs.size<=C)(hfl:∀b∈fp,b<s.heap.objs.size) :
  (X.comp scope cl (own++fr.map (·.1)) C s H fp).Ok:=by
 refine ⟨I.ok.mod,?_,I.ok.glob,I.ok.blt,hC,λx y c h1 h2=>I.ok.inj x y c (S.cls x c h1) (S.cls y c h2),S.has,λx c z=>absurd z (by simp [Cx.comp]),I.ok.hd,I.ok.frames,.inl rfl,
  λb hb=>⟨Yam (Ybi (hfl b hb) hC),λx c h=>(hf b hb).2.2.2.2.1 x c (S.cls x c h)⟩,I.bs,Ybr I.ok.bsz I.sz,λb o e hb=>?_,λb hb z=>?_,I.stack,I.stkFree⟩
 ·show (relabel scope X.env).kind=.function;exact S.kind
 ·rcases (hf b hb).2.2.2.1 with z | z
  ·exact I.ok.noex b o e z
  ·exact absurd (Ybi (Yah e) (Ybr I.ok.bsz z)) (Ycb _)
 ·rcases Yat.mp (I.stkSub b z) with q | q
  ·exact (hf b hb).2.1 q
  ·exact (hf b hb).2.2.1 q
theorem UR (own:List Str)(fr:List (Str×Nat))(σ:St):(Js own fr σ).length=(own++fr.map (·.1)).length:=by
 unfold Js;simp
theorem US {qQ:List (Addr×Obj)}{σ:St}{H:Hp}{s:Shared}{it:Addr}{fp:List Addr}{tn:Nat->Heap->Prop}{J:It}{E:EX}{RR:Value->Addr->Result->Shared->Prop}{Rf:Addr->Hp->Prop}(hc:X.calm=true)(S:JG X scope cl own fr)(I:Inv X qQ σ H s)(T:ZbQ X.prog X.w X.K qU J fp it tn)(st:tn 0 s.heap)(hf:∀b∈fp,ZaE X qQ H b)(hg:∀C s H fp,PG (X.comp scope cl (own++fr.map (·.1)) C s H fp) qU g)(ht:∀C s H fp,ZdL (X.comp scope cl (own++fr.map (·.1)) C s H fp) ifs tc)(he:∀C s H fp,PE (X.comp scope cl (own++fr.map (·.1)) C s H fp) elt te)(hw:∀D,H D=none->∃W:Nat->Nat->List V->Hp->Prop,(∃m,W 0 m [] (upd H D (.lst [])))/\Jt J D g tc te (Js own fr σ) W (Rf D))(hRR:∀D C s' H',s.heap.objs.size<=C->C≠D->(∃m,s'.heap.Ns C m)->H' C=none->Un (frs X.stack) fp H H' s.heap s'.heap->HOk X.prog X.w H' s'.heap->AllBare s'.gens->s'.os=s.os->Rf D H'->RR (.ref D) C (.ok .next) s') :
  wpAny (model X.prog X.w) X.A (newList []) (λacc s3=>wpAny (model X.prog X.w) X.A (newFunctionEnv scope X.env.globals cl [] X.env.qual none .none (some X.env)) (λcenv s4=>
   codeAny (model X.prog X.w) X.A (.compStart (.ListComp elt [⟨qU,iter,ifs,0⟩] scope pos) 0 (.ref it) acc { cenv with scope:=relabel scope X.env }) (RR acc cenv.locals) s4) E s3) E s:=by
 have hfl:∀b∈fp,b<s.heap.objs.size:=λb hb=>by
  obtain ⟨o,e,_⟩:=T.obj 0 s.heap st b hb;exact Yah e
 have hD:H s.heap.objs.size=none:=I.fresh;obtain ⟨W,⟨m0,w0⟩,turns⟩:=hw s.heap.objs.size hD;have I1:Inv X qQ σ (upd H s.heap.objs.size (.lst [])) { s with heap:=s.heap.push { cls:=.type "list", data:=.seq ([]:List Value).toArray },toks:=s.toks }:=I.lnew .nil (Yao _);refine Ydp (wpAny_newFunctionEnv S.nocell (by intro y hy;simp at hy) (λh1 hns1 hsb1=>?_) S.kind);dsimp only at hns1 hsb1 ⊢;generalize hH2:s.heap.push { cls:=.type "list", dict:=none,data:=.seq ([]:List Value).toArray }=H2 at hns1 hsb1 ⊢ I1;have hCs:H2.objs.size=s.heap.objs.size+1:=by rw [<-hH2,Ybx]
 have hCle:s.heap.objs.size<=H2.objs.size:=by lia
 have hDC:s.heap.objs.size≠H2.objs.size:=by lia
 have up1:∀b o,H2.get? b=some o->h1.get? b=some o:=λb o e=>hsb1.extBut b o (Yam (Yah e)) (Yag _ e);have up:∀b o,s.heap.get? b=some o->h1.get? b=some o:=λb o e=>up1 b o (hH2▸Yag _ e);have okY:=Zcz (C:=H2.objs.size) S I hf hCle hfl;have I0:∀tk,Inv (X.comp scope cl (own++fr.map (·.1)) H2.objs.size s H fp) [] (Js own fr σ) (upd H s.heap.objs.size (.lst [])) { s with heap:=h1,toks:=tk }:=by
  intro tk;have hok1:HOk X.prog X.w (upd H s.heap.objs.size (.lst [])) h1:=I1.hok.kept up1;refine ⟨okY,rfl,I.bare,⟨λb o e n _ _=>up b o e,λb o e n _ _=>⟨o.slots,up b o e⟩,λb o e n _=>?_,λb o e _=>⟨o,up b o e⟩,λb xs q=>?_,λb o u q=>?_,λb ps q=>⟨#[],?_⟩⟩,
   ⟨_,hns1,λi x v e1 e2 e3=>?_⟩,λx c e=>?_,?_,λx c e=>?_,λp hp=>?_,hok1,UR own fr σ⟩
  ·have e':s.heap.get? b=some o:=e;show upd H s.heap.objs.size (.lst []) b=none;rw [Gi (Yam (Yah e'))];exact n
  ·rw [Gi (Gf q hD)];exact q
  ·rw [Gi (Gf q hD)];exact q
  ·have q':H b=some (.tbl ps):=q;rw [Gi (Gf q' hD),q'];simp
  ·-- the free names
   have e2':(Js own fr σ)[i]?=some (some v):=e2;have e1':(own++fr.map (·.1))[i]?=some x:=e1;unfold Js at e2';by_cases hi:i<own.length
   ·rw [Ydc (by simpa using hi),Ybk] at e2';cases q:own[i]? with
    | none=>rw [q] at e2';cases e2'
    | some y=>rw [q] at e2';cases e2'
   ·rw [Ydn (by simpa using hi),Yad,Ybk] at e2';rw [Ydn (by lia),Ybk] at e1';cases q:fr[i-own.length]? with
    | none=>rw [q] at e2';cases e2'
    | some p=>
     rw [q] at e1' e2';have ex:p.1=x:=Ybl e1';have ev:(σ[p.2]?).join=some v:=Ybl e2';have ev':σ[p.2]?=some (some v):=by
      cases z:σ[p.2]? with
      | none=>rw [z] at ev;cases ev
      | some o=>rw [z] at ev;cases o with
       | none=>cases ev
       | some v'=>have:v'=v:=Ybl ev;rw [this]
     obtain ⟨f1,f2,f3⟩:=S.free p (Ybg q);subst ex;obtain ⟨m,hn,hl⟩:=I.loc;have vis:Vis X.env.scope p.1:=by
      rcases f2 with f2 | f2
      ·exact .inr (.inl f2)
      ·exact .inr (.inr f2)
     obtain ⟨u,ru,lk⟩:=hl p.2 p.1 v f1 ev' vis;refine ⟨u,ru,?_⟩;rcases lk with ⟨k,_⟩ | ⟨k,c,e,z⟩
     ·rcases f2 with f2 | f2 <;> (rw [f2] at k;cases k)
     ·obtain ⟨c',hc'⟩:=S.has p.1 f3;have e':=S.cls _ _ hc';rw [e] at e';cases e';obtain ⟨oc,ho,hd⟩:=z;exact .inr ⟨f3,c,hc',⟨oc,up _ _ ho,hd⟩⟩
  ·obtain ⟨v,oc,ho,hd⟩:=I.cell x c (S.cls x c e);exact ⟨v,oc,up _ _ ho,hd⟩
  ·show upd H s.heap.objs.size (.lst []) H2.objs.size=none;rw [Gi (Ne.symm hDC)];exact I.hok.fresh hCle
  ·obtain ⟨v,z⟩:=I.cell x c (S.cls x c e);show upd H s.heap.objs.size (.lst []) c=none;rw [Gi (Yam z.lt)];exact I.freeC x c (S.cls x c e)
  ·exact absurd (show p∈([]:List (Addr×Obj)) from hp) (by simp)
 have fpf:∀b∈fp,upd H s.heap.objs.size (.lst []) b=none:=λb hb=>by rw [Gi (Yam (hfl b hb))];exact (hf b hb).1
 have st1:tn 0 h1:=T.keep 0 _ _ st λb hb o e=>up b o e;have stat:∀{H':Hp},(∀b∈fp,H' b=none)->∀b∈fp,ZaE (X.comp scope cl (own++fr.map (·.1)) H2.objs.size s H fp) [] H' b:=λhn b hb=>
  ⟨hn b hb,(okY.exf b hb).1,okY.exfs b hb,.inl hb,(okY.exf b hb).2,λp hp=>absurd (show p∈([]:List (Addr×Obj)) from hp) (by simp)⟩
 have loop:∀s3:Shared,(∃tk,s3={ s with heap:=h1,toks:=tk }) ->
   codeAny (model X.prog X.w) X.A (.compLoop (.ListComp elt [⟨qU,iter,ifs,0⟩] scope pos) 0 (.ref it) (.ref s.heap.objs.size) (compEnvC scope cl H2.objs.size X.env)) (RR (.ref s.heap.objs.size) H2.objs.size) s3:=by
  rintro s3 ⟨tk,rfl⟩;refine V9 (λn s'=>∃i ys H',Inv (X.comp scope cl (own++fr.map (·.1)) H2.objs.size s H fp) [] (Js own fr σ) H' s'/\tn i s'.heap/\(∀b∈fp,H' b=none)/\W i n ys H') ?_ m0 ⟨0,[],_,I0 tk,st1,fpf,w0⟩;rintro n s4 ⟨i,ys,H4,I4,st4,fr4,w4⟩;rcases turns i n ys H4 w4 with ⟨stop,q⟩ | ⟨go,N,hN,step⟩
  ·refine thn (T.done (X.comp scope cl (own++fr.map (·.1)) H2.objs.size s H fp) rfl rfl rfl hc i [] s4 _ H4 _ I4 (stat fr4) st4 stop) λr s5 ⟨hr,I5⟩=>?_;subst hr;exact hRR _ _ s5 H4 hCle (Ne.symm hDC) ⟨_,I5.loc.choose_spec.1⟩ I5.free I5.base I5.hok I5.bare I5.os q
  ·refine thn (T.item (X.comp scope cl (own++fr.map (·.1)) H2.objs.size s H fp) rfl rfl rfl hc i [] s4 _ H4 _ I4 (stat fr4) st4 go) λr s5 ⟨u,hr,h5⟩=>?_;subst hr;refine thn h5 λ_ s6 ⟨x,H6,I6,r6,y6,st6,fr6⟩=>?_;have I6':=I6.pinned (stat fr6) (T.obj _ _ st6);refine thn (hg H2.objs.size s H fp _ s6 _ H6 x u _ I6' r6 (step x H6 y6)) λ_ s7 ⟨σ7,H7,I7,k7,q7⟩=>?_;refine thn (ht H2.objs.size s H fp _ s7 σ7 H7 _ I7 q7) λok s8 ⟨H8,I8,q8⟩=>?_;have again:∀{s9:Shared}{σ9:St}{H9:Hp}{zs:List V},Inv (X.comp scope cl (own++fr.map (·.1)) H2.objs.size s H fp) ([]++VX fp s6.heap) σ9 H9 s9->(∀(i:Nat) v,(Js own fr σ)[i]?=some (some v)->σ9[i]?=some (some v))->(∃m',m'<n/\W (i+1) m' zs H9) ->
     ∃m,m<n/\∃i ys H',Inv (X.comp scope cl (own++fr.map (·.1)) H2.objs.size s H fp) [] (Js own fr σ) H' s9/\tn i s9.heap/\(∀b∈fp,H' b=none)/\W i m ys H':=by
    intro s9 σ9 H9 zs I9 hσ ⟨m',hm,w9⟩;refine ⟨m',hm,i+1,zs,H9,(I9.sub_pins (λp hp=>absurd (show p∈([]:List (Addr×Obj)) from hp) (by simp))).weak ?_ hσ,T.keep _ _ _ st6 λb hb o e=>(I9.pin (b,o) (Ycc _ (Ycc _ (J2 hb e)))).1,λb hb=>?_,w9⟩
    ·rw [I9.len];exact UR own fr σ
    ·obtain ⟨o,e,d⟩:=T.obj _ _ st6 b hb;exact (I9.pin (b,o) (Ycc _ (Ycc _ (J2 hb e)))).2.1
   cases ok with
   | false=>exact (if_neg Yaj).mpr (again I8 (J4 k7) (hN _ _ ((if_neg Yaj).mp q8)))
   | true=>
    refine (if_pos rfl).mpr ?_;have q8':=(if_pos rfl).mp q8;refine thn (he H2.objs.size s H fp _ s8 σ7 H8 _ I8 q8') λy s9 ⟨yv,H9,I9,r9,hD9,hz,q9⟩=>?_;refine thn (Ji _ s9 σ7 H9 (.ref s.heap.objs.size) [yv] (.ref s.heap.objs.size) [y] (λ_ H'=>H'=upd H9 s.heap.objs.size (.lst (ys++[yv]))) I9 rfl (.cons r9 .nil) ⟨_,ys,yv,rfl,rfl,hD9,hz,rfl⟩) λ_ s10 ⟨_,H10,I10,_,e10⟩=>?_;subst e10;exact again I10 (J4 k7) (hN _ _ q9)
 exact codeAny_compStart_list (loop _ ⟨_,rfl⟩) (T.self _ 0 _ _ _ st1 (loop _ ⟨_,rfl⟩))
theorem UT {qQ:List (Addr×Obj)}{σ:St}{H H':Hp}{s s':Shared}{fp:List Addr}(I:Inv X qQ σ H s)(hf:∀b∈fp,ZaE X qQ H b)(un:Un (frs X.stack) fp H H' s.heap s'.heap)(hok:HOk X.prog X.w H' s'.heap)(bare:AllBare s'.gens)(os:s'.os=s.os):Inv X qQ σ H' s':=
 I.call' os un hok bare λb hb=>⟨(hf b hb).2.2.2.1,(hf b hb).2.1,(hf b hb).2.2.2.2.1,(hf b hb).2.2.2.2.2⟩
theorem Xk {qQ:List (Addr×Obj)}{σ σ':St}{H H':Hp}{s s':Shared}{C:Addr}{h':Heap}(I:Inv X qQ σ H s)(hC:s.heap.objs.size<=C)(hn:H' C=none)(I':Inv X qQ σ' H' s')(sb:Heap.SameBut C s'.heap h') :
  Inv X qQ σ' H' { s' with heap:=h' }:=by
 obtain ⟨f0,f1,f2,f3,f4,f5⟩:=I.fpOk hC hn;exact I'.turned (t':=s'.toks) (λb o hb e=>(sb.2 b hb).trans e) f0 f1 f3 f4 f5
theorem JN (hc:X.calm=true)(S:JG X scope cl own fr)(hi:PI X qU iter wi)(hg:∀C s H fp,PG (X.comp scope cl (own++fr.map (·.1)) C s H fp) qU g)(ht:∀C s H fp,ZdL (X.comp scope cl (own++fr.map (·.1)) C s H fp) ifs tc)(he:∀C s H fp,PE (X.comp scope cl (own++fr.map (·.1)) C s H fp) elt te)(hs:∀x,foldedSetIterable iter X.env x=pure x:=by intro _;rfl):PE X (.ListComp elt [⟨qU,iter,ifs,0⟩] scope pos) (ZdM wi g tc te own fr):=by
 intro qQ s σ H Q I h;rw [eval_ListComp];refine wpAny_comprehension_free (use:=none) rfl hs S.clos S.kind S.names (thn (hi qQ s σ H _ I h) λv s1 h1=>thn h1 λitv s2 h2=>?_);obtain ⟨it,fp,tn,J,H2,e,I2,T,st2,f2,hw⟩:=h2;subst e;refine US (RR:=λacc C=>compPost (model X.prog X.w) X.A X.xe none (EP X qQ σ Q) acc C) hc S I2 T st2 f2 hg ht he hw ?_;rintro D C s' H' hC hDC ⟨m,hn⟩ hCf un hok bare os q;refine ⟨m,hn,λh' hs'=>⟨.ref D,H',?_,rfl,q⟩⟩;exact Xk (C:=C) (σ:=σ) I2 hC hCf (UT I2 f2 un hok bare os) hs'
theorem Vg {i:Nat}{y:Str}{py spos:Pos}(hN:X.N.Nodup)(hi':X.N[i]?=some y)(hx:Loc X.env.scope y)(hc:X.calm=true)(S:JG X scope cl own fr)(hi:PI X qU iter wi)(hg:∀C s H fp,PG (X.comp scope cl (own++fr.map (·.1)) C s H fp) qU g)(ht:∀C s H fp,ZdL (X.comp scope cl (own++fr.map (·.1)) C s H fp) ifs tc)(he:∀C s H fp,PE (X.comp scope cl (own++fr.map (·.1)) C s H fp) elt te)(hf:X.fn y=true\/X.env.scope.names.lookup y=some .local:=by first | exact .inl rfl | exact .inr rfl | assumption)(hsw:swapsWith (.ListComp elt [⟨qU,iter,ifs,0⟩] scope pos) (some (.Name y py)) spos.line X.env=pure true:=by rfl)(hs:∀x,foldedSetIterable iter X.env x=pure x:=by intro _;rfl):PS X (.Assign [.Name y py] (.ListComp elt [⟨qU,iter,ifs,0⟩] scope pos) spos) (Zfs (ZdM wi g tc te own fr) (GO i)):=by
 intro qQ s σ H Dn I h;rw [exec_Assign_Name_used _ _ _ _ hsw];refine Yaa (wpAny_standAt (Yaa ?_));show wpAny _ X.A (do let _ <- comprehension (.ListComp elt [⟨qU,iter,ifs,0⟩] scope pos) scope X.env _ (newList []) false (eval iter X.env) (some (assign (.Name y py) X.env))) _ _ s;refine Yaa (Ybm (wpAny_comprehension_free (use:=some (assign (.Name y py) X.env)) (Q:=λ_ s'=>SP X qQ Dn .next s') rfl hs S.clos S.kind S.names (thn (hi qQ s σ H _ I h) λv s1 h1=>thn h1 λitv s2 h2=>?_))
  (λ_ s' hq=>Yab (Yab hq)) λ_ _ e=>e)
 obtain ⟨it,fp,tn,J,H2,e,I2,T,st2,f2,hw⟩:=h2;subst e;refine US (RR:=λacc C=>compPost (model X.prog X.w) X.A X.xe (some (assign (.Name y py) X.env)) (λ_ s'=>SP X qQ Dn .next s') acc C) hc S I2 T st2 f2 hg ht he hw ?_;rintro D C s' H' hC hDC ⟨m,hn⟩ hCf un hok bare os q;have I3:Inv X qQ σ H' s':=UT I2 f2 un hok bare os;show wpAny _ X.A (assign (.Name y py) X.env (.ref D)) _ _ s';refine wpAny_assign_Name (VU I3 hN hi' hx (v:=.ref D) rfl (λs4 I4 ⟨a,hsa,ha⟩=>?_) hf);have hCa:C≠a:=by
  rcases ha with z | z
  ·rw [z];exact Ydm (Ybi I2.lt hC)
  ·obtain ⟨v,q⟩:=I2.cell y a z;exact Ydm (Ybi q.lt hC)
 refine ⟨m,hn.sameBut hsa hCa,λh' hs'=>⟨_,H',Xk (C:=C) (σ:=σ) I2 hC hCf I4 hs',q⟩⟩
end
theorem Ov {K:PySem.W.Frag}{a D:Addr}{xs:List V}{g:TG}{tc:TT}{te:TE}{σ0:St}{R:Hp->Prop}{H1:Hp}(Pv:Nat->List V->Hp->Prop)(h0:Pv 0 [] (upd H1 D (.lst [])))(hl:∀i ys H,i<=xs.length->Pv i ys H->SqL K H a xs)(hs:∀i x ys H,xs[i]?=some x->Pv i ys H->g x σ0 H λσ4 H4=>JA σ0 σ4/\tc σ4 H4 λb H5=>if b=true then te σ4 H5 λy H6=>H6 D=some (.lst ys)/\ys.length<sizeLine/\Pv (i+1) (ys++[y]) (upd H6 D (.lst (ys++[y]))) else Pv (i+1) ys H5)(hd:∀ys H,Pv xs.length ys H->R H):∃W:Nat->Nat->List V->Hp->Prop,(∃m,W 0 m [] (upd H1 D (.lst [])))/\Jt (Itl K a) D g tc te σ0 W R:=by
 refine ⟨λi m ys H=>m=xs.length-i/\i<=xs.length/\Pv i ys H,⟨_,rfl,Yao _,h0⟩,?_⟩;rintro i m ys H ⟨rfl,hi,p⟩;have q:=hl i ys H hi p;by_cases hlt:i<xs.length
 ·refine .inr ⟨⟨xs,xs[i],q,by simp [hlt]⟩,Pv (i+1),λys' H' p'=>⟨xs.length-(i+1),by lia,rfl,hlt,p'⟩,λx H' y=>?_⟩;obtain ⟨e,y⟩:=y;subst e;exact hs i x ys _ (y xs q) p
 ·have e:i=xs.length:=by lia
  subst e;exact .inl ⟨⟨xs,q,Yae _⟩,hd ys H p⟩
theorem J5 {lo:Int}{n:Nat}{D:Addr}{g:TG}{tc:TT}{te:TE}{σ0:St}{R:Hp->Prop}{H1:Hp}(Pv:Nat->List V->Hp->Prop)(h0:Pv 0 [] (upd H1 D (.lst [])))(hs:∀i ys H,i<n->Pv i ys H->g (.int (lo+i)) σ0 H λσ4 H4=>JA σ0 σ4/\tc σ4 H4 λb H5=>if b=true then te σ4 H5 λy H6=>H6 D=some (.lst ys)/\ys.length<sizeLine/\Pv (i+1) (ys++[y]) (upd H6 D (.lst (ys++[y]))) else Pv (i+1) ys H5)(hd:∀ys H,Pv n ys H->R H):∃W:Nat->Nat->List V->Hp->Prop,(∃m,W 0 m [] (upd H1 D (.lst [])))/\Jt (Itr lo n) D g tc te σ0 W R:=by
 refine ⟨λi m ys H=>m=n-i/\i<=n/\Pv i ys H,⟨_,rfl,Yao _,h0⟩,?_⟩;rintro i m ys H ⟨rfl,hi,p⟩;by_cases hlt:i<n
 ·refine .inr ⟨hlt,Pv (i+1),λys' H' p'=>⟨n-(i+1),by lia,rfl,hlt,p'⟩,λx H' y=>?_⟩;obtain ⟨e,y⟩:=y;subst e y;exact hs i ys _ hlt p
 ·have e:i=n:=by lia
  subst e;exact .inl ⟨Yae _,hd ys H p⟩
theorem JV {X:Cx}{scope:Scope}{own:List Str}(hf:∀y∈scope.names,y.2≠.free)(hc:∀y∈scope.names,y.2≠.cell)(hk:scope.kind=.function)(hn:∀y∈scope.names,y.2=.local->scope.names.lookup y.1=some .local):JG X scope [] own []:=by
 have rel:(relabel scope X.env).names=scope.names:=by
  unfold relabel;dsimp only;refine (List.map_congr_left λp hp=>?_).trans (List.map_id _);obtain ⟨n,k⟩:=p;have:(k == NameKind.free)=false:=by
   have:=hf _ hp;cases k <;> first | rfl | exact absurd rfl this
  simp [this]
 refine ⟨closureFor_none hf,hc,hk,hn,λy c h=>by simp at h,λy h=>?_,λp hp=>by simp at hp⟩;rw [rel] at h;rcases h with h | h
 ·exact absurd rfl (hc _ (Ydb h))
 ·exact absurd rfl (hf _ (Ydb h))
noncomputable def ZaR (a C:Addr)(h:Heap):Prop:=∃ob vs,h.get? a=some ob/\ob.cls=.ref C/\ob.data=.fields vs
noncomputable def Zgn (a C:Addr):HO:=.ext (ZaR a C)
theorem ObjOk.there {P:Program}{w:World}{H:Hp}{h:Heap}{a:Addr}{u:HO}(ok:ObjOk P w H h a u):∃v,h.get? a=some v:=by
 cases u with
 | lst xs=>obtain ⟨_,_,_,_,e⟩:=ok;exact ⟨_,e⟩
 | tup xs=>obtain ⟨_,_,_,o,e,_⟩:=ok;exact ⟨_,e⟩
 | dK kvs=>obtain ⟨_,_,_,_,o,_,_,e,_⟩:=ok;exact ⟨_,e⟩
 | dT kvs=>obtain ⟨_,_,_,_,o,_,_,e,_⟩:=ok;exact ⟨_,e⟩
 | set S n=>obtain ⟨o,_,_,_,e,_⟩:=ok;exact ⟨_,e⟩
 | ins C dx fs=>obtain ⟨_,_,_,e,_⟩:=ok;exact ⟨_,e⟩
 | own y=>obtain ⟨_,e⟩:=ok;exact ⟨_,e⟩
 | xd fs=>obtain ⟨_,⟨_,_,_,e,_⟩,_⟩:=ok;exact ⟨_,e⟩
 | rng lo hi=>obtain ⟨_,_,_,e⟩:=ok;exact ⟨_,e⟩
 | frz ob u=>obtain ⟨e,_⟩:=ok;exact ⟨_,e⟩
 | tbl ps=>exact ⟨_,show h.get? a=some _ from ok⟩
 | met f y=>exact ⟨_,show h.get? a=some _ from ok⟩
 | ext φ=>obtain ⟨_,⟨_,e⟩,_⟩:=ok;exact ⟨_,e⟩
noncomputable def ZfG (P:Program)(w:World)(outer:List Env)(H H':Hp)(s:Shared)(a C:Addr)(s':Shared):Prop:=
 ∃(t:Addr)(B:Heap),s'.os=s.os/\AllBare s'.gens/\Un (frs outer) [] H H' s.heap s'.heap/\HOk P w H' s'.heap/\Heap.FlyingW B outer a (.ref C) (.ref t) s'.heap /\
  (∀b o,s'.heap.get? b=some o->H' b≠none->B.get? b=some o)/\(∀b o0 o,s.heap.get? b=some o0->s'.heap.get? b=some o->b ∉ frs outer->B.get? b=some o)
noncomputable def CXr (P:Program)(w:World):CXT:=λouter H s E e s'=>∃(a C:Addr)(H':Hp),e=.ref a/\ZfG P w outer H H' s a C s'/\E (.ref C) none H'
section
variable {X:Cx}{qQ:List (Addr×Obj)}{σ:St}{H:Hp}{s:Shared}
noncomputable def Xl (X:Cx)(E:XK):Prop:=∀(qQ:List (Addr×Obj))(σ:St)(H:Hp)(s:Shared)(h':Heap)(a C:Addr)(vs:List Value),Inv X qQ σ H s->Heap.MadeExcOf s.heap h' a (.ref C) vs->E (.ref C) none H->X.xe (.ref a) { s with heap:=h' }
theorem Wa {P:Program}{w:World}{K:W.Frag}{mg:Str->Option Value}{base:Heap}{N:List Str}{qual:Str}{scope:Scope}{f:Addr}{cd:Value}{A:Around}{outer:List Env}{s:Shared}{H:Hp}{E:XK} :
  Xl (YO (CXr P w) P w K mg base N qual scope f cd A outer s H E) E:=by
 intro qQ σ H1 s1 h' a C vs I hx hE;have hfr:=I.ok.frames;have hst:s1.heap.FunFrames base (envOfC qual scope s.heap.objs.size f cd::outer):=I.stack;have hin:∀env∈(envOfC qual scope s.heap.objs.size f cd::outer),∀b,env.frame=some b->b∈frs (envOfC qual scope s.heap.objs.size f cd::outer):=λenv he b hb=>Yct.mpr ⟨env,he,hb⟩;have inB:∀b o,s1.heap.get? b=some o->b ∉ frs (envOfC qual scope s.heap.objs.size f cd::outer)->(W.hideAll s1.heap (frs (envOfC qual scope s.heap.objs.size f cd::outer))).get? b=some o:=λb o e n=>W.hideAll_get _ e n;refine wpAny_leaves_madeW (base:=W.hideAll s1.heap (frs (envOfC qual scope s.heap.objs.size f cd::outer))) hfr rfl (λb o q=>W.of_hideAll _ q) (W.funFrames_hide hst hin) hx λh2 t fl tu tn sm=>?_;refine ⟨a,C,H1,rfl,⟨t,_,I.os,I.bare,⟨λb o e n hb _=>?_,λb o e n hb _=>?_,λb o e n _=>?_,λb o e _=>?_,I.base.tups,I.base.frzs,I.base.tbls⟩,λb u e=>?_,fl,λb o e n=>?_,λb o0 o e0 e nb=>?_⟩,hE⟩
 ·have e1:s1.heap.get? b=some o:=I.base.keep b o e n hb (by intro z;exact absurd (show b∈([]:List Addr) from z) (by simp));refine fl.1 b o (inB b o e1 λz=>?_);rcases Yat.mp (I.stkSub b z) with q | q
  ·exact absurd (Ybi (Yah e) I.ok.above) (by rw [q];exact Ycb _)
  ·exact hb q
 ·obtain ⟨sl,e1⟩:=I.base.slot b o e n hb (by intro z;exact absurd (show b∈([]:List Addr) from z) (by simp));have nf:∀vs,o.data≠.fields vs:=by
   obtain ⟨_,o',ho',hnf⟩:=I.funs.mem (show b∈(outer.filterMap (·.frame)) from hb);rw [e1] at ho';cases ho';exact hnf
  obtain ⟨sl',e2⟩:=sm b { o with slots:=sl } (hx.keeps b _ e1) nf;exact ⟨sl',e2⟩
 ·exact I.base.free b o e n (by intro z;exact absurd (show b∈([]:List Addr) from z) (by simp))
 ·obtain ⟨o1,e1⟩:=I.base.there b o e (by intro z;exact absurd (show b∈([]:List Addr) from z) (by simp));by_cases hb:b∈frs (envOfC qual scope s.heap.objs.size f cd::outer)
  ·obtain ⟨_,o',ho',hnf⟩:=hst.mem hb;rw [e1] at ho';cases ho';obtain ⟨sl',e2⟩:=sm b o1 (hx.keeps b _ e1) hnf;exact ⟨_,e2⟩
  ·exact ⟨o1,fl.1 b o1 (inB b o1 e1 hb)⟩
 ·have trk:∀c v,s1.heap.get? c=some v->H1 c≠none->h2.get? c=some v:=λc v q hc=>fl.1 c v (inB c v q λz=>hc (I.stkFree c z));refine (I.hok b u e).stay (λc v hc q=>trk c v q ?_) (λ_ q=>q) λ_ _ q=>q;rcases hc with z | z
  ·rw [z,e];simp
  ·rw [z];simp
 ·cases q':H1 b with
  | none=>exact absurd q' n
  | some u=>
   obtain ⟨v,q⟩:=(I.hok b u q').there;have nb:b ∉ frs (envOfC qual scope s.heap.objs.size f cd::outer):=λz=>n (I.stkFree b z);have e2:=fl.1 b v (inB b v q nb);rw [e] at e2;cases e2;exact inB b _ q nb
 ·obtain ⟨o1,e1⟩:=I.base.there b o0 e0 (by intro z;exact absurd (show b∈([]:List Addr) from z) (by simp));have nb':b ∉ frs (envOfC qual scope s.heap.objs.size f cd::outer):=λz=>by
   rcases Yat.mp (I.stkSub b z) with q | q
   ·exact absurd (Ybi (Yah e0) I.ok.above) (by rw [q];exact Ycb _)
   ·exact nb q
  have e2:=fl.1 b o1 (inB b o1 e1 nb');have e':h2.get? b=some o:=e;rw [e'] at e2;cases e2;exact inB b _ e1 nb'
theorem ZaS {P:Program}{w:World}{outer:List Env}{H H':Hp}{s s':Shared}{a C t:Addr}{B h2:Heap}(un:Un (frs outer) [] H H' s.heap s'.heap)(hok:HOk P w H' s'.heap)(fr:s'.heap.FunFrames B outer)(trk:∀b o,s'.heap.get? b=some o->H' b≠none->B.get? b=some o)(old:∀b o0 o,s.heap.get? b=some o0->s'.heap.get? b=some o->b ∉ frs outer->B.get? b=some o)(st:B.StaysIn h2)(sm:s'.heap.UpToSlots h2) :
  Un (frs outer) [] H H' s.heap h2/\HOk P w H' h2:=by
 refine ⟨⟨λb o e n hb hx=>st b o (old b o o e (un.keep b o e n hb hx) hb),λb o e n hb hx=>?_,un.free,λb o e hx=>?_,un.tups,un.frzs,un.tbls⟩,λb u e=>?_⟩
 ·obtain ⟨sl,e1⟩:=un.slot b o e n hb hx;obtain ⟨_,o',ho',hnf⟩:=fr.mem hb;rw [e1] at ho';cases ho';obtain ⟨sl',e2⟩:=sm b _ e1 hnf;exact ⟨sl',e2⟩
 ·obtain ⟨o1,e1⟩:=un.there b o e hx;by_cases hb:b∈frs outer
  ·obtain ⟨_,o',ho',hnf⟩:=fr.mem hb;rw [e1] at ho';cases ho';obtain ⟨sl',e2⟩:=sm b _ e1 hnf;exact ⟨_,e2⟩
  ·exact ⟨o1,st b o1 (old b o o1 e e1 hb)⟩
 ·refine (hok b u e).stay (λc v hc q=>st c v (trk c v q ?_)) (λ_ q=>q) λ_ _ q=>q;rcases hc with z | z
  ·rw [z,e];simp
  ·rw [z];simp
end
abbrev Zgo:List Value:=[.type "ValueError", .type "Exception", .type "BaseException", .type "object"]
abbrev ExcC (K:W.Frag)(C:Addr):Prop:=W.excIn K C Zgo "ValueError.__new__" = true
theorem WG {K:W.Frag}{h:Heap}{C:Addr}(KX:K.In h)(ex:ExcC K C):∃mro' ns' mN',(∃nm' qn' bs' hd' sn' sub' ab' col' dd' j0 j1 j2 j3 j5,
  h.get? C=some (excClassObj nm' qn' C ns' bs' mro' hd' sn' sub' ab' col' dd' j0 j1 j2 j3 j5 "ValueError.__new__"))/\h.Ns ns' mN'/\mN' "__init__" = none/\OwnTail h Zgo mro':=by
 have ex':=ex;unfold ExcC W.excIn at ex';split at ex'
 ·rename_i dd' cd' sl' lk;have lk':=KX _ _ lk;split at ex'
  ·rename_i C' rest' j0 j1 j2 j3 n' j5 hm hs;rw [Ycg,Ycg,Ycg,Ycg,Ycg,Yaz,Yaz,Yaz] at ex';obtain ⟨⟨⟨⟨⟨z1,z2⟩,z3⟩,z4⟩,z5⟩,z6⟩:=ex';have z3':cd'.hasDel=false:=by simpa using z3
   subst z1 z2;cases cd' with
   | mk a1 a2 a3 a4 a5 a6 a7 a8 a9 a10 a11=>
    have hm':a3=.ref C'::rest':=hm;have h11:a11=false:=z3';subst hm' h11;have es:sl'=#[j0,j1,j2,j3,some (.builtin "ValueError.__new__"),j5]:=by
     cases sl' with
     | mk l=>exact Ybf Array.mk hs
    subst es;exact ⟨rest',a4,_,⟨_,_,_,_,_,_,_,_,_,_,_,_,_,_,lk'⟩,.of_isNs (W.isNs_of_in KX z5),W.nsMap_none_of_in KX z5 z6,W.tail_of_in KX z4⟩
  ·cases ex'
 ·cases ex'
section
variable {X:Cx}
noncomputable def ZdN (C:Addr)(E:XK)(t:TA):TS:=λ_ σ H=>t σ H λvs H1=>vs.length<=sizeLine/\E (.ref C) none H1
theorem ZaT {C:Addr}{E:XK}{x:Str}{np qG pos:Pos}{e:Expr}{es:List Expr}{t:TA}(hc:X.calm=true)(hR:Xl X E)(hg:Gl X x)(hm:X.mg x=some (.ref C))(ex:ExcC X.K C)(ha:PA X (e::es) t)(hdb:(x == ("__debug__" : Str))=false:=by decide)(he:starEach (e::es) X.env=(false,eval e X.env)::starEach es X.env:=by rfl)(hpl:(backTo qG (starEach es X.env)).any (·.1)=false:=by rfl) :
  PS X (.Raise (some (.Call (.Name x np) (e::es) [] qG)) none pos) (ZdN C E t):=by
 intro qQ s σ H D I h;obtain ⟨mro',ns',mN',⟨nm',qn',bs',hd',sn',sub',ab',col',dd',j0,j1,j2,j3,j5,hC⟩,hN,hni,T⟩:=WG I.mod.kin ex;refine wpAny_Raise_call_subT (C:=C) (nm:=nm') (q:=qn') (N:=ns') (bs:=bs') (bm:=mro') (hdct:=hd') (sn:=sn') (sub:=sub') (ab:=ab') (col:=col') (dd:=dd') (k0:=j0) (k1:=j1) (k2:=j2) (k3:=j3) (k5:=j5)
  PySem.F.excBase_ValueError (mN:=mN') (T.hasType PySem.F.excBase_ValueError.hasBase) (I.ok.hd hc) (by rw [he];show (false || (backTo qG (starEach es X.env)).any (·.1))=false;rw [hpl];rfl) hni (Vb I hg hm ⟨rfl,?_⟩ hdb)
 have hA:=ha qG qQ s σ H _ I h;rw [he] at hA ⊢;refine Calls.evalArgs_plain (thn hA λus s2 ⟨vs,H2,I2,r2,hl,q2⟩=>?_);exact ⟨rfl,by rw [<-r2.length];exact hl,I2.bk _ _ hC,hN.keeps I2.bk,T.keeps I2.bk,λh' a hm=>hR qQ σ H2 s2 h' a C us I2 hm q2⟩
variable {qQ:List (Addr×Obj)}{σ:St}{H:Hp}{s:Shared}
end
theorem Xm {M:Model}{h:Heap}{a C:Addr}(hx:ZaR a C h):W.Looks M h (typeOf (.ref a)) (.ref C):=by
 obtain ⟨ob,vs,e,c,d⟩:=hx;exact c▸(W.Looks.ld e).andThen .now
section
variable {X:Cx}{k:Nat}{f:Addr}{fd:FuncData}{ps:List Str}{sp:Sp}{dvs:List V}{ds:List Value}{fx:Str}{fp qG bpos np hpos pos:Pos}{e:Expr}{es:List Expr}{t:TA}
end
theorem Zi {K:W.Frag}{prog:Program}{w:World}{A:Around}{E:EX}{Q:Option Value->Shared->Prop}{s:Shared}{a C:Addr}(KX:K.In s.heap)(hx:ZaR a C s.heap)(hga:W.findIn K (.ref C) "__getattribute__" = some (some (.builtin "BaseException.__getattribute__")))(hnga:W.findIn K (.ref C) "__getattr__" = some none)(hcl:W.findIn K (.ref C) "__class__" = some (some (.builtin "object.__class__")))(hm:W.mroIn K C (.type "object")=some true)(hB:W.subIn K (.ref C) (.type "BaseException")=some true)(h:Q (some (.ref C)) { s with toks:=s.toks+1 }):wpAny (model prog w) A (getAttr? (.ref a) "__class__") Q E s:=by
 have L0:=Xm (M:=model prog w) hx;have L1:=W.looks_findIn (M:=model prog w) KX hga;have L2:=W.looks_findIn (M:=model prog w) KX hnga;have L3:=W.looks_findIn (M:=model prog w) KX hcl;have L4:=W.looks_subIn (M:=model prog w) KX hB;obtain ⟨h0,g,d,t,os⟩:=s;have f3:=PySem.F.attr_ValueError.ga.bind (.ref a);unfold getAttr? getAttrBy? getAttrBy;refine Yaa (wpAny_mkText (Yaa (Ydq (Ybp (Yaa (L0.at (Yaa (L1.at ?_))))))));dsimp only;have hx2:(onTheHeap (Value.ref C) && Value.builtin "BaseException.__getattribute__" == Value.builtin "object.__getattribute__")=false:=by
  have z:(Value.builtin "BaseException.__getattribute__" == Value.builtin "object.__getattribute__")=false:=by decide +kernel
  rw [z,Bool.and_false]
 rw [hx2];simp only [Ydy,if_false];unfold getAttrByItsOwn
 repeat (any_goals (first | assumption | with_reducible refine L0.at ?_ | with_reducible refine L2.at ?_ | wp_step))
 have hsp:splitId "BaseException.__getattribute__" = some ("BaseException", "__getattribute__"):=by decide +kernel
 have hkd:builtinKind "BaseException.__getattribute__" = some .slot:=by decide +kernel
 have har:=PySem.F.args_bexc_ga (.ref a) (.str (Str.ofString "__class__") t);refine codeAny_call_builtin PySem.F.attr_ValueError.ga.plain PySem.F.entry_bexc_ga ?_;show wpAny _ _ (checkBuiltinCall "BaseException.__getattribute__" ⟨[.ref a,.str (Str.ofString "__class__") t],[]⟩) _ _ _;simp only [checkBuiltinCall,hkd,hsp];refine Yaa ?_;unfold isInstance;have f5:=PySem.F.typeOf_object_class;have f6:=PySem.F.slot_gs_get.lookup;have f7:=PySem.F.slot_gs_set.lookup;have hT5:(⟨h0,g,d,t+1,os⟩:Shared).TypeIs (.builtin "object.__class__") "getset_descriptor" := PySem.F.typeOf_object_class;refine Yaa (L0.at (L4.at ?_))
 repeat (any_goals (first | assumption | with_reducible refine L0.at ?_ | with_reducible refine L3.at ?_ | wp_step))
 have Lo:W.Looks (model prog w) h0 (isSubtype (.ref C) (.type (".".intercalate ("object.__class__".cutAt '.').dropLast))) true:=by
  rw [PySem.F.owner_object_class];exact W.looks_mroIn KX hm
 have hT6:(⟨h0,g,d,t+1,os⟩:Shared).TypeIs (.builtin "object.__class__") "getset_descriptor" := PySem.F.typeOf_object_class;refine codeAny_call_builtin PySem.F.slot_gs_get.plain PySem.F.entry_gs_get (PySem.F.slot_gs_get.check _ _ _ _ _ _ _ _ hT6 (PySem.F.args_gs_get _ _ _) ?_)
 repeat (any_goals (first | assumption | with_reducible refine L0.at ?_ | with_reducible refine Lo.at ?_ | wp_step))
 refine ⟨Code.quiet_builtin _ (by decide +kernel),Ycu PySem.F.entry_object_class ?_⟩
 repeat (any_goals (first | assumption | with_reducible refine L0.at ?_ | wp_step))
structure ZfH (K:W.Frag)(C:Addr):Prop where
 ex:ExcC K C
 ga:W.findIn K (.ref C) "__getattribute__" = some (some (.builtin "BaseException.__getattribute__"))
 nga:W.findIn K (.ref C) "__getattr__" = some none
 cl:W.findIn K (.ref C) "__class__" = some (some (.builtin "object.__class__"))
 ob:W.mroIn K C (.type "object")=some true
 be:W.subIn K (.ref C) (.type "BaseException")=some true
theorem Xn {K:W.Frag}{a C:Addr}(k:ZfH K C):W.KitX K (.ref a) (.ref C) (ZaR a C) where
 ty:=λ_ _ _ p=>Xm p
 it:=λM h KX _=>by
  obtain ⟨_,_,_,⟨_,_,_,_,_,_,_,_,_,_,_,_,_,_,hC⟩,_⟩:=WG KX k.ex;intro A Q E s kk q;unfold isType loadHead;exact Yaa (wpAny_loadPart (kk _ _ hC) (Yab q))
 ne:=λh tp dd its n sl KX htp=>by
  obtain ⟨_,_,_,⟨_,_,_,_,_,_,_,_,_,_,_,_,_,_,hC⟩,_⟩:=WG KX k.ex;refine Yek.mpr λq=>?_;have e:C=tp:=Value.ref.inj (Yaz.mp q);rw [<-e,hC] at htp;have z:=Ybf Obj.data (Ybl htp);unfold excClassObj at z;cases z
 ca:=λKX p q=>Zi KX p k.ga k.nga k.cl k.ob k.be q
noncomputable def Wb:V->Value
 | .ty n=>.type n
 | .ref a=>.ref a
 | _=>.none
noncomputable def Zj:V->Bool
 | .ty _=>true
 | .ref _=>true
 | _=>false
theorem RelV.cls {c:V}{u:Value}(r:RelV c u)(h:Zj c=true):u=Wb c:=by
 cases c with
 | ty n=>exact r
 | ref a=>exact r
 | _=>cases h
theorem Vals.cls:∀{cs:List V}{us:List Value},Vals cs us->cs.all Zj=true->us=cs.map Wb
 | _,_,.nil,_=>rfl
 | _,_,.cons r t,h=>by
  rw [List.all_cons,Ycg] at h;rw [Yap,r.cls h.1,Vals.cls t h.2]
noncomputable def Zgp (K:W.Frag):List V->Hp->VK->Prop:=λxs H Q=>∃x c b,xs=[x,c]/\Q (.bl b) H /\
 ((∃t,X8 K H x t/\Zj c=true/\W.kitOne K t (Wb c)=some b) \/
  (∃a C,x=.ref a/\H a=some (Zgn a C)/\ZfH K C/\Zj c=true/\W.kitOne K (.ref C) (Wb c)=some b) \/
  (∃a C tp cs,x=.ref a/\H a=some (Zgn a C)/\ZfH K C/\c=.ref tp/\H tp=some (.tup cs)/\cs.all Zj=true/\W.kitAny K (.ref C) (cs.map Wb)=some b))
theorem ZaU {X:Cx}:JR X (.builtin "isinstance") (Zgp X.K):=by
 intro qQ s σ H xs us Q I rv h;obtain ⟨x,c,b,rfl,q,h⟩:=h;obtain ⟨u,cv,rfl,ru,rc⟩:=rv.two;have fin:∀tk,EP X qQ σ Q (.bool b) { s with toks:=tk }:=λtk=>⟨.bl b,H,I.tok tk,rfl,q⟩;rcases h with ⟨t,ty,hc,e⟩ | ⟨a,C,rfl,ha,k,hc,e⟩ | ⟨a,C,tp,cs,rfl,ha,k,rfl,ht,hc,e⟩
 ·rw [rc.cls hc];exact Y7 I ru ty e fin
 ·rw [rc.cls hc];cases (show u=Value.ref a from ru);obtain ⟨p,_⟩:=I.hok a _ ha;exact Ycs (Xn k) I.kIn p e (λz=>nomatch z) fin
 ·cases (show u=Value.ref a from ru);cases (show cv=Value.ref tp from rc);obtain ⟨p,_⟩:=I.hok a _ ha;obtain ⟨_,its,r,o,eo,co,n,dn⟩:=I.hok tp _ ht;obtain ⟨ocl,odi,oda,osl⟩:=o;cases (show ocl=.type "tuple" from co);cases (show oda=.seq its.toArray n from dn);exact W.kia_tup (its:=its) (Xn k) I.kIn p eo (by rw [r.cls hc];exact e) (λz=>nomatch z) fin
mutual
inductive DatV (K:W.Frag)(H:Hp):V->PyData->Prop
 | non:DatV K H .non .none
 | bl (b:Bool):DatV K H (.bl b) (.bool b)
 | int (i:Int):DatV K H (.int i) (.int i)
 | str (x:Str):DatV K H (.str x) (.str x)
 | lst {a:Addr} {xs:List V} {ds:List PyData}:SqL K H a xs->DatVs K H xs ds->DatV K H (.ref a) (.list ds)
 | tup {a:Addr} {xs:List V} {ds:List PyData}:SqT K H a xs->DatVs K H xs ds->DatV K H (.ref a) (.tuple ds)
inductive DatVs (K:W.Frag)(H:Hp):List V->List PyData->Prop
 | nil:DatVs K H [] []
 | cons {x:V} {d:PyData} {xs:List V} {ds:List PyData}:DatV K H x d->DatVs K H xs ds->DatVs K H (x::xs) (d::ds)
end
section
variable {X:Cx}{qQ:List (Addr×Obj)}{σ:St}{H:Hp}{s:Shared}
mutual
theorem DatV.reads (I:Inv X qQ σ H s):∀{x:V}{d:PyData}{u:Value},DatV X.K H x d->RelV x u->∃as,Reads s.heap u d as
 | _,_,_,.non,r=>by cases r;exact ⟨_,.none⟩
 | _,_,_,.bl b,r=>by cases r;exact ⟨_,.bool b⟩
 | _,_,_,.int i,r=>by obtain ⟨t,rfl⟩:=r;exact ⟨_,.int i t⟩
 | _,_,_,.str x,r=>by obtain ⟨t,rfl⟩:=r;exact ⟨_,.str x t⟩
 | _,_,_,.lst hq hs,r=>by
  cases r;obtain ⟨its,rv,⟨o,n,e,c,dd,dt⟩,_⟩:=I.list hq;obtain ⟨as,ra⟩:=DatVs.reads I hs rv;exact ⟨_,.list e c dt (by simpa using ra)⟩
 | _,_,_,.tup hq hs,r=>by
  cases r;obtain ⟨its,rv,⟨o,e,c,n,dt⟩,_⟩:=I.tuple hq;obtain ⟨as,ra⟩:=DatVs.reads I hs rv;exact ⟨_,.tuple e c dt (by simpa using ra)⟩
theorem DatVs.reads (I:Inv X qQ σ H s):∀{xs:List V}{ds:List PyData}{us:List Value},DatVs X.K H xs ds->Vals xs us->∃as,ReadsAll s.heap us ds as
 | _,_,_,.nil,.nil=>⟨_,.nil⟩
 | _,_,_,.cons h hs,.cons r rs=>by
  obtain ⟨as,ra⟩:=DatV.reads I h r;obtain ⟨bs,rb⟩:=DatVs.reads I hs rs;exact ⟨_,.cons ra rb⟩
end
end
noncomputable def Ze6 (K:W.Frag)(neg:Bool):R2:=λx y H Q=>∃d1 d2,DatV K H x d1/\DatV K H y d2/\SeqAt.shaped d1=true/\SeqAt.shaped d2=true/\Q (.bl (neg != PyData.eqv d1 d2)) H
theorem ZdO {X:Cx}(hu:X.A.units+64<cLine):OpR X (compareOp .Eq) (Ze6 X.K false):=by
 intro qQ s σ H x y v u Q I rx ry h;obtain ⟨d1,d2,h1,h2,s1,s2,q⟩:=h;obtain ⟨as,r1⟩:=h1.reads I rx;obtain ⟨bs,r2⟩:=h2.reads I ry;exact eq_dataH r1 r2 s1 s2 hu ⟨.bl _,H,I,by cases PyData.eqv d1 d2 <;> rfl,q⟩
theorem ZdP {X:Cx}(hu:X.A.units+64<cLine):OpR X (compareOp .NotEq) (Ze6 X.K true):=by
 intro qQ s σ H x y v u Q I rx ry h;obtain ⟨d1,d2,h1,h2,s1,s2,q⟩:=h;obtain ⟨as,r1⟩:=h1.reads I rx;obtain ⟨bs,r2⟩:=h2.reads I ry;exact ne_dataH r1 r2 s1 s2 hu ⟨.bl _,H,I,by cases PyData.eqv d1 d2 <;> rfl,q⟩
noncomputable def Lt2 (p:Nat)(a:Int):Prop:=a.natAbs<2 ^ p
noncomputable def ZfI (i j:Int):Prop:=0<j/\Lt2 9000 j
theorem GN {X:Cx}:OpR X (binaryOp .FloorDiv) (rI ZfI λi j=>.int (i / j)):=opI λi j _ _ _ _ _ hc q=>by
 have h1:(0:Int)<j:=hc.1;have h2:j.natAbs<2 ^ 9000:=hc.2;refine floordiv_int (by lia) (by rw [Int.fdiv_eq_ediv_of_nonneg i (by lia)];exact q) (.inl (PyProof.noPylong_of_log2 ?_));exact (Nat.log2_lt (by lia)).mpr h2
theorem Same.new {H:Hp}{p:Addr}{o:HO}(h:H p=none):Same H (upd H p o):=λb u e=>by rw [Gi (Gf e h)];exact e
theorem Same.put {H H1:Hp}{p:Addr}{o:HO}(s:Same H H1)(h:H p=none):Same H (upd H1 p o):=λb u e=>by rw [Gi (Gf e h)];exact s b u e
theorem Gm {H:Hp}{p b:Addr}{o u:HO}(h:H b=some u)(n:b≠p):upd H p o b=some u:=by rw [Gi n];exact h
theorem JB {H:Hp}{l:Addr}{zs:List V}{o:HO}(h:H l=some (.lst zs)):∀p ys,H p=some (.tup ys)->upd H l o p=some (.tup ys):=λp ys e=>Gm e (GP e h (λz=>by cases z))
section
variable {P:Program}{w:World}{K:W.Frag}{mg:Str->Option Value}{base:Heap}
theorem Fun.okR {x qual:Str}{st:Stmt}{f:Addr}{fd:FuncData}{N ps:List Str}{k:Nat}{sp:Sp}(F:Fun K x qual st f fd)(S:Gy N ps (Gg st))(len:∀vs H Q E,sp vs H Q E->vs.length=ps.length)(jZ:∀(cdv:Value)(A:Around)(outer:List Env)(s:Shared)(H:Hp)(vs:List V)(Q:VK)(E:XK),Room k (A.deeper (envOfC qual (Gg st) s.heap.objs.size f cdv))->sp vs H Q E ->
   ∃t,PSs (YO (CXr P w) P w K mg base N qual (Gg st) f cdv A outer s H E) (GQ st) t/\t { nx:=λ_ H'=>Q .non H',rt:=Q } (start N vs) H):G7 P w K mg base (CXr P w) (k+1) f fd ps sp:=by
 obtain ⟨oc,od,kV,doc,pm,an,cdv,ct,osl,rfl,lk,hcd⟩:=F.ex;refine ZaP lk hcd S len λA outer s H vs Q E hr hsp=>?_;obtain ⟨t,h,q⟩:=jZ cdv A outer s H vs Q E hr hsp;exact ⟨t,h,q⟩
theorem ZfJ {X:Cx}:Ou (CXr X.prog X.w) X E0:=λ_ _ _ _ _ _ _ ⟨_,_,_,_,_,h⟩=>h.elim
end
section
variable {X:Cx}
theorem Xo {x:Str}{T:String}{pos:Pos}(hm:X.mg x=none)(hv:bootBuiltins x=some (.type T))(hg:Gl X x:=by rfl)(hn:x ≠ "__name__" := by decide)(hd:(x == ("__debug__" : Str))=false:=by decide):PE X (.Name x pos) (tC (.ty T)):=Zcl hg hm hv rfl hn hd
end
theorem Ue:bootBuiltins "isinstance" = some (.builtin "isinstance"):=by first | rfl | decide +kernel
theorem Jo:bootBuiltins "tuple" = some (.type "tuple"):=by first | rfl | decide +kernel
theorem Ow:bootBuiltins "list" = some (.type "list"):=by first | rfl | decide +kernel
theorem Zk:bootBuiltins "bool" = some (.type "bool"):=by first | rfl | decide +kernel
theorem ZaV:bootBuiltins "int" = some (.type "int"):=by first | rfl | decide +kernel
theorem Uf {K:W.Frag}{t:Value}:W.kitOne K t t=some true:=by
 unfold W.kitOne;rw [if_pos (Yex t)]
section
variable {X:Cx}(K:W.Frag)
theorem Ze7 (h:X.K=K:=by rfl):JR X (.builtin "isinstance") (Zgp K):=h▸ZaU
theorem On (h:X.K=K:=by rfl):IxR X (Zgk K):=h▸Zcv
theorem Yh (h:X.K=K:=by rfl):IxR X (Zgl K):=h▸ZdH
theorem VT (h:X.K=K:=by rfl):JR X (.builtin "len") (λxs H Q=>∃p ys,xs=[.ref p]/\(SqL K H p ys\/SqT K H p ys)/\Q (.int ys.length) H):=h▸V5
theorem Vh (h:X.K=K:=by rfl):JR X (.type "list") (λxs H Q=>∃p ys,xs=[.ref p]/\(SqL K H p ys\/SqT K H p ys)/\∀l,H l=none->Q (.ref l) (upd H l (.lst ys))):=h▸V6
theorem ZfK (hu:X.A.units+64<cLine)(h:X.K=K:=by rfl):OpR X (compareOp .Eq) (Ze6 K false):=h▸ZdO hu
theorem ZgO (hu:X.A.units+64<cLine)(h:X.K=K:=by rfl):OpR X (compareOp .NotEq) (Ze6 K true):=h▸ZdP hu
theorem kSl (h:X.K=K:=by rfl):SlR X (Zgm K):=h▸Zcw
theorem ZbW {es:List Expr}{k:Nat}{t:TGs}{n:Nat}{pos:Pos}(hc:X.calm=true)(h:PGs X es t)(hK:X.K=K:=by rfl)(hn:(assignEach es X.env).length=n:=by rfl)(hst:(assignEach es X.env).findIdx? (·.1)=none:=by rfl):PG X (.Tuple es k pos) (Zge K n t):=hK▸Zdx hc h hn hst
theorem Wc {tg l:Expr}{tl:TE}(hl:PE X l tl)(h:X.K=K:=by rfl):PI X tg l (Zdz K tl):=h▸Zcm hl
end
end L2
namespace L2
open PySem
end L2
namespace L2
open PySem PySem.Spec PyProof.Rows
noncomputable def AllP {α:Type}(P:α->Prop):List α->Prop
 | []=>True
 | x::r=>P x/\AllP P r
theorem AllP.mem {α:Type}{P:α->Prop}:∀{l:List α},AllP P l->∀x∈l,P x
 | _::_,h,_,.head _=>h.1
 | _::_,h,x,.tail _ m=>AllP.mem h.2 x m
theorem Gr {X:Cx}{scope:Scope}{cl:List (Str×Addr)}{own:List Str}{fr:List (Str×Nat)}(L:List (Str×NameKind))(hcl:closureFor scope X.env=pure cl)(hL:(relabel scope X.env).names=L)(hc:∀y∈scope.names,y.2≠.cell)(hk:scope.kind=.function)(hn:∀y∈scope.names,y.2=.local->scope.names.lookup y.1=some .local)(hcs:AllP (λp=>X.env.cells.lookup p.1=some p.2) cl)(qK:AllP (λp=>(p.2=.cell\/p.2=.free)->∃c,cl.lookup p.1=some c) L)(hfr:AllP (λp=>X.N[p.2]?=some p.1/\(X.env.kindOf p.1=some .cell\/X.env.kindOf p.1=some .free)/\(L.lookup p.1=some .cell\/L.lookup p.1=some .free)) fr):JG X scope cl own fr:=
 ⟨hcl,hc,hk,hn,λy c h=>hcs.mem (y,c) (Ydb h),λy h=>by
  rw [hL] at h;rcases h with h | h
  ·exact qK.mem _ (Ydb h) (.inl rfl)
  ·exact qK.mem _ (Ydb h) (.inr rfl),λp hp=>by
  rw [hL];exact hfr.mem p hp⟩
theorem G0 {k:NameKind}{P:Prop}(h:k=.cell\/k=.free)(h1:(k == .cell)=false:=by rfl)(h2:(k == .free)=false:=by rfl):P:=by
 rcases h with z | z
 ·subst z;exact absurd h1 (by decide)
 ·subst z;exact absurd h2 (by decide)
theorem Vi:bootBuiltins "min" = some (.builtin "min"):=by first | rfl | decide +kernel
section
variable {H0 H H':Hp}{d p:Addr}{o:HO}
end
theorem Gv {t u:TS}{D:ZaD}{σ:St}{H:Hp}(Pm:St->Hp->Prop)(h2:∀ σ' H',Pm σ' H'->u D σ' H')(h1:(∀ σ' H',Pm σ' H'->u D σ' H')->t { D with nx:=u D } σ H):Zfo t u D σ H:=h1 h2
theorem Xp {α:Type}:∀(ps rs:List α)(k:Nat)(y:α),ps[k]?=some y->((rs++[y])++ps.eraseIdx k).Perm (rs++ps)
 | [],_,k,y,h=>by simp at h
 | x::r,rs,0,y,h=>by
  simp at h;subst h;rw [Ybq];exact List.Perm.refl _
 | x::r,rs,k+1,y,h=>by
  have ih:=Xp r [] k y (by simpa using h);rw [List.eraseIdx_cons_succ,Ybq];refine Yfh rs ?_;have ih':(y::r.eraseIdx k).Perm r:=by simpa using ih
  exact (List.Perm.swap x y _).trans (ih'.cons x)
section
variable {X:Cx}(K:W.Frag)
end
section
variable {X:Cx}
theorem ZcA:UnR X (unaryOp .USub) (rU λi=>.int (-i)):=by
 intro qQ s σ H x v Q I rx h;obtain ⟨i,rfl,q⟩:=h;obtain ⟨t,rfl⟩:=rx;exact neg_int ⟨.int (-i),H,I.tok _,⟨_,rfl⟩,q⟩
theorem GL {K:W.Frag}{H:Hp}:∀ns:List Int,DatVs K H (ns.map V.int) (ns.map PyData.int)
 | []=>.nil
 | n::ns=>.cons (.int n) (GL ns)
theorem Ug:∀ns:List Int,PyData.canLayAll0 (ns.map PyData.int)=true
 | []=>by simp [PyData.canLayAll0]
 | n::ns=>by
  rw [Yap];simp [PyData.canLayAll0,PyData.canLay0,Ug ns]
theorem Jp:∀ns:List Int,PyData.depthAll (ns.map PyData.int)<=1
 | []=>by simp [PyData.depthAll]
 | n::ns=>by
  have ih:=Jp ns;rw [Yap];simp only [PyData.depthAll,PyData.depth]
  lia
theorem Uw (ns:List Int):SeqAt.shaped (.list (ns.map PyData.int))=true:=by
 unfold SeqAt.shaped;rw [Ycg];have:=Jp ns;refine ⟨by simp only [PyData.canLay0];exact Ug ns,Yba ?_⟩;simp only [PyData.depth]
 lia
theorem Uh (ns ms:List Int):PyData.eqv (.list (ns.map PyData.int)) (.list (ms.map PyData.int))=decide (ns=ms):=by
 rw [<-W.ked_eqvAll];simp only [PyData.eqv]
theorem ZcB {P:Program}{w:World}{K:W.Frag}{mg:Str->Option Value}{base:Heap}{N:List Str}{qual:Str}{scope:Scope}{f:Addr}{cd:Value}{A:Around}{outer:List Env}{s:Shared}{H:Hp}{E:XK} :
  Ou (CXr P w) (YO (CXr P w) P w K mg base N qual scope f cd A outer s H E) E:=by
 intro qQ σ H1 s1 ev s' I h;obtain ⟨a,C,H',rfl,⟨t,B,os,bare,un,hok,fl,trk,old⟩,hE⟩:=h;have hfr:=I.ok.frames;have nox:∀b:Addr,b ∉ (YO (CXr P w) P w K mg base N qual scope f cd A outer s H E).ex:=λb z=>absurd (show b∈([]:List Addr) from z) (by simp);refine wpAny_leaves_onW hfr rfl fl λh2 fl2 sm=>?_;obtain ⟨u2,k2⟩:=ZaS (t:=t) (a:=a) (C:=C) un hok fl.2.2.1 trk old fl2.1 sm;have u1:Un (frs (envOfC qual scope s.heap.objs.size f cd::outer)) [] H H1 s.heap s1.heap:=Un.mono I.base (λb hb=>by
  have hb':b∈frs outer:=hb;obtain ⟨env,he,q⟩:=Yct.mp hb';exact Yct.mpr ⟨env,Ybb _ he,q⟩) (λb hb=>absurd hb (nox b))
 have u3:=u1.trans u2;have nst:∀b o,s.heap.get? b=some o->b ∉ frs outer->b ∉ frs (envOfC qual scope s.heap.objs.size f cd::outer):=λb o e hb z=>by
  rcases Yat.mp (I.stkSub b z) with q | q
  ·exact absurd (Ybi (Yah e) I.ok.above) (by rw [q];exact Ycb _)
  ·exact hb q
 have inst:∀b,b∈frs outer->b∈frs (envOfC qual scope s.heap.objs.size f cd::outer):=λb hb=>by
  obtain ⟨env,he,q⟩:=Yct.mp hb;exact Yct.mpr ⟨env,Ybb _ he,q⟩
 refine ⟨a,C,H',rfl,⟨t,B,os.trans I.os,bare,⟨λb o e n hb hx=>u3.keep b o e n (nst b o e hb) hx,λb o e n hb hx=>u3.slot b o e n (inst b hb) hx,u3.free,u3.there,u3.tups,u3.frzs,u3.tbls⟩,k2,fl2,λb o e n=>?_,λb o0 o e0 e nb=>?_⟩,hE⟩
 ·cases q':H' b with
  | none=>exact absurd q' n
  | some u=>
   obtain ⟨v,q⟩:=(hok b u q').there;have e1:=trk b v q n;have e2:=fl2.1 b v e1;have e':h2.get? b=some o:=e;rw [e'] at e2;cases e2;exact e1
 ·obtain ⟨o1,e1⟩:=u1.there b o0 e0 (by simp);obtain ⟨o2,e2⟩:=un.there b o1 e1 (by simp);have e3:=old b o1 o2 e1 e2 (nst b o0 e0 nb);have e4:=fl2.1 b o2 e3;have e':h2.get? b=some o:=e;rw [e'] at e4;cases e4;exact e3
noncomputable def Zgq (K:W.Frag)(neg:Bool):R2:=λx y H Q=>∃p xs d ds,y=.ref p/\(SqL K H p xs\/SqT K H p xs)/\DatV K H x d/\DatVs K H xs ds/\SeqAt.shaped d=true/\(∀e∈ds,SeqAt.shaped e=true)/\Q (.bl (neg != ds.any λe=>PyData.eqv e d)) H
open Classical in
noncomputable def OQ (h:Heap)(u:Value):PyData:=if q:∃d as,Reads h u d as/\SeqAt.shaped d=true then choose q else .none
theorem ZaW {h:Heap}{u:Value}{d:PyData}{as:List Addr}(r:Reads h u d as)(hs:SeqAt.shaped d=true):OQ h u=d:=by
 have q:∃d as,Reads h u d as/\SeqAt.shaped d=true:=⟨d,as,r,hs⟩;unfold OQ;rw [dif_pos q];obtain ⟨as',r',s'⟩:=Classical.choose_spec q;exact SeqAt.Reads.unique _ _ _ _ _ (SeqAt.canLay_of_shaped s') r' r
theorem ZbX {h:Heap}:∀{us:List Value}{ds:List PyData}{as:List Addr},ReadsAll h us ds as->(∀e∈ds,SeqAt.shaped e=true)->(∀u∈us,∃as',Reads h u (OQ h u) as'/\SeqAt.shaped (OQ h u)=true)/\us.map (OQ h)=ds
 | _,_,_,.nil,_=>⟨λu hu=>by simp at hu,rfl⟩
 | _,_,_,.cons r rs,hs=>by
  obtain ⟨i1,i2⟩:=ZbX rs λe he=>hs e (Ybb _ he);have h0:=hs _ (Ybe ..);have e0:=ZaW r h0;refine ⟨λu hu=>?_,by rw [Yap,e0,i2]⟩;rcases Yat.mp hu with rfl | hu
  ·rw [e0];exact ⟨_,r,h0⟩
  ·exact i1 u hu
theorem ZaX {h:Heap}{us:List Value}{ds:List PyData}{d:PyData}(e:us.map (OQ h)=ds):us.any (λu=>PyData.eqv (OQ h u) d)=ds.any λe=>PyData.eqv e d:=by
 rw [<-e,List.any_map]
 rfl
theorem ZdQ {neg:Bool}{c:CmpOp}(hc:(neg=false/\c=.In)\/(neg=true/\c=.NotIn))(hu:X.A.units+65<cLine):OpR X (compareOp c) (Zgq X.K neg):=by
 intro qQ s σ H x y v u Q I rx ry h;obtain ⟨p,xs,d,ds,rfl,hq,hd,hds,sd,sds,q⟩:=h;cases ry;obtain ⟨as,ra⟩:=hd.reads I rx;have hu1:X.A.in1.units+64<cLine:=by rw [Ydr];lia
 have key:∀its:List Value,Vals xs its->(∀w∈its,SeqAt.EqAt X.A.in1 s w v (PyData.eqv (OQ s.heap w) d))/\its.toArray.any (λw=>PyData.eqv (OQ s.heap w) d)=ds.any λe=>PyData.eqv e d:=λits r=>by
  obtain ⟨bs,rb⟩:=hds.reads I r;obtain ⟨k1,k2⟩:=ZbX rb sds;refine ⟨λw hw=>?_,?_⟩
  ·obtain ⟨as',r',s'⟩:=k1 w hw;exact W.keq_at r' ra s' sd hu1
  ·rw [List.any_toArray];exact ZaX k2
 rcases hq with hq | hq
 ·obtain ⟨its,r,pl,hz⟩:=I.list hq;obtain ⟨k1,k2⟩:=key its r;rcases hc with ⟨rfl,rfl⟩ | ⟨rfl,rfl⟩
  ·refine SeqAt.in_listAt (λw=>PyData.eqv (OQ s.heap w) d) pl.isList (λw hw=>k1 w (by simpa using hw)) ⟨.bl _,H,I,rfl,?_⟩;rw [k2];simpa using q
  ·refine SeqAt.notIn_listAt (λw=>PyData.eqv (OQ s.heap w) d) pl.isList (λw hw=>k1 w (by simpa using hw)) ⟨.bl _,H,I,rfl,?_⟩;rw [k2];simpa using q
 ·obtain ⟨its,r,pl,hz⟩:=I.tuple hq;obtain ⟨k1,k2⟩:=key its r;rcases hc with ⟨rfl,rfl⟩ | ⟨rfl,rfl⟩
  ·refine SeqAt.in_tupleAt (λw=>PyData.eqv (OQ s.heap w) d) pl (λw hw=>k1 w (by simpa using hw)) ⟨.bl _,H,I,rfl,?_⟩;rw [k2];simpa using q
  ·refine SeqAt.notIn_tupleAt (λw=>PyData.eqv (OQ s.heap w) d) pl (λw hw=>k1 w (by simpa using hw)) ⟨.bl _,H,I,rfl,?_⟩;rw [k2];simpa using q
theorem ZcC (K:W.Frag)(hu:X.A.units+65<cLine)(h:X.K=K:=by rfl):OpR X (compareOp .NotIn) (Zgq K true):=h▸ZdQ (.inr ⟨rfl,rfl⟩) hu
end
section
variable {X:Cx}
noncomputable def Ite (K:W.Frag)(a:Addr):It:=
 ⟨λi H=>∃xs x,SqL K H a xs/\xs[i]?=some x,λi H x H'=>∃T y,x=.ref T/\H T=none/\H'=upd H T (.tup [.int (i:Nat),y])/\∀xs,SqL K H a xs->xs[i]?=some y,λi H=>∃xs,SqL K H a xs/\xs.length<=i⟩
theorem Zl {P:Program}{w:World}{K:W.Frag}{elts:List Expr}{k:Nat}{pos:Pos}(a e it:Addr)(hne:e≠it) :
  ZbQ P w K (.Tuple elts k pos) (Ite K a) [e,it] e (λi h=>(∃old,IsEnum h e it ((i:Nat):Int) old)/\h.IsListIter it a i) where
 mem:=by simp
 obj:=λi h st b hb=>by
  obtain ⟨⟨old,he⟩,⟨o,ei,c,d⟩⟩:=st;rcases Yat.mp hb with rfl | hb
  ·exact ⟨_,he,λv z=>by
    have z':Data.fields _=Data.cell v:=z;cases z'⟩
  ·have eb:b=it:=by simpa using hb
   subst eb;exact ⟨o,ei,λv z=>by rw [d] at z;cases z⟩
 keep:=λi h h' st q=>by
  obtain ⟨⟨old,he⟩,hi⟩:=st;exact ⟨⟨old,q e (by simp) _ he⟩,hi.at λo ho=>q it (by simp) o ho⟩
 item:=by
  intro X hP hw hK hc i qQ s σ H E I hf st hg;subst hP hw hK;obtain ⟨xs,x,hq,hx⟩:=hg;obtain ⟨its,rv,p,hz⟩:=I.list hq;obtain ⟨u,hu,ru⟩:=rv.get hx;obtain ⟨⟨old,he⟩,hit⟩:=st;refine wpAny_pyNext_enum_item he hit p.isList (x:=u) (by simpa using hu) hne λh1 heo hit1 ht1 hz1 hk1=>?_;refine ⟨_,rfl,wpAny_letOwnedTupleGo_enum (s:={ s with heap:=h1,toks:=s.toks+1 }) heo λh2 he2 hs2=>?_⟩;have hs2':Heap.SameBut e h1 h2:=hs2;have hfr:H s.heap.objs.size=none:=I.fresh;have hel:e<s.heap.objs.size:=Yah he;have kk:∀b o,b ∉ [e,it]->s.heap.get? b=some o->h2.get? b=some o:=λb o hb q=>by
   have n1:b≠e:=λz=>hb (by simp [z]);have n2:b≠it:=λz=>hb (by simp [z]);exact (hs2'.2 b n1).trans (hk1 b o n1 n2 q)
  have nT:∀b o,s.heap.get? b=some o->b≠s.heap.objs.size:=λb o q=>Yam (Yah q);have trk:∀c u,H c=some u->c ∉ [e,it]:=λc u q z=>by
   rw [(hf c z).1] at q;cases q
  refine ⟨.ref s.heap.objs.size,upd H s.heap.objs.size (.tup [.int (i:Nat),x]),I.call' (ch:=[e,it]) rfl ⟨λb o q _ _ hb=>kk b o hb q,λb o q _ _ hb=>⟨o.slots,kk b o hb q⟩,λb o q n _=>by rw [Gi (nT b o q)];exact n,
   λb o q hb=>⟨o,kk b o hb q⟩,λb ys q=>by rw [Gi (Gf q hfr)];exact q,λb o u q=>by rw [Gi (Gf q hfr)];exact q,λb ps q=>⟨#[],by rw [Gi (Gf q hfr),q];simp⟩⟩ (λb v q=>?_) I.bare (λb hb=>?_),
   rfl,⟨_,x,rfl,hfr,rfl,λys hy=>by rw [I.list_inj hy hq];exact hx⟩,⟨⟨_,by rw [Int.natCast_add];exact he2⟩,hit1.extBut hs2'.extBut (Ne.symm hne)⟩,λb hb=>?_⟩
  ·by_cases hb:b=s.heap.objs.size
   ·subst hb;rw [Gb] at q;cases q;refine ⟨by have h16:=Ybh.symm;rw [<-h16];show 2<=16777216;lia,[.int (i:Nat) s.toks,u],.cons ⟨_,rfl⟩ (.cons ru .nil),⟨_,(hs2'.2 _ (Ydm hel)).trans ht1,rfl,_,rfl⟩⟩
   ·rw [Gi hb] at q;refine (I.hok b v q).stay (λc v' hc z=>kk c v' ?_ z) (λc z=>by rw [Gi (Gf z hfr)];exact z) λc ys z=>by rw [Gi (Gf z hfr)];exact z
    rcases hc with rfl | hc
    ·exact trk _ _ q
    ·exact trk _ _ hc
  ·obtain ⟨f0,f1,f2,f3,f4,f5⟩:=hf b hb;exact ⟨f3,f1,f4,f5⟩
  ·have ho:∃o,s.heap.get? b=some o:=by
    rcases Yat.mp hb with rfl | hb
    ·exact ⟨_,he⟩
    ·have eb:b=it:=by simpa using hb
     subst eb;obtain ⟨o,ei,_⟩:=hit;exact ⟨o,ei⟩
   obtain ⟨o,ho⟩:=ho;rw [Gi (nT b o ho)];exact (hf b hb).1
 done:=by
  intro X hP hw hK hc i qQ s σ H E I hf st hg;subst hP hw hK;obtain ⟨xs,hq,hx⟩:=hg;obtain ⟨its,rv,p,hz⟩:=I.list hq;obtain ⟨⟨old,he⟩,hit⟩:=st;obtain ⟨f0,f1,f2,f3,f4,f5⟩:=hf it (by simp);have hl:=rv.length;exact wpAny_pyNext_enum_end (I.ok.hd hc) he hit p.isList (by simp;lia) λh' eb=>⟨rfl,I.turned (t':=s.toks) (λb o hb q=>eb b o hb q) f0 f1 f3 f4 f5⟩
 self:=λ_ _ _ _ _ ⟨⟨_,he⟩,_⟩ h=>wpAny_pyIter_enum he h
noncomputable def ZdR (K:W.Frag)(ta:TA):TI:=λσ H R=>ta σ H λvs H1=>∃a xs,vs=[.ref a]/\SqL K H1 a xs/\R (Ite K a) H1
theorem ZcD {elts:List Expr}{k:Nat}{p0:Pos}{l:Expr}{ta:TA}{p pos:Pos}(hg:Gl X "enumerate")(hm:X.mg "enumerate" = none)(ha:PA X [l] ta)(hs:starEach [l] X.env=[(false,eval l X.env)]:=by rfl) :
  PI X (.Tuple elts k p0) (.Call (.Name "enumerate" p) [l] [] pos) (ZdR X.K ta):=by
 intro qQ s σ H R I h;refine Call_ (Op I hg hm boot_enumerate (Yfk (thn (ha pos qQ s σ H _ I h) λus s1 ⟨vs,H1,I1,r1,q1⟩=>?_) hs rfl));obtain ⟨a,xs,e,hq,q⟩:=q1;subst e;obtain ⟨u,rfl,ru⟩:=r1.one;cases ru;obtain ⟨its,rv,pl,hz⟩:=I1.list hq;refine call_enumerate_list pl.isList λh' hE hI hsz hk=>?_;refine wpAny_pyIter_enum hE ?_;refine ⟨s1.heap.objs.size+1,[s1.heap.objs.size+1,s1.heap.objs.size],_,_,H1,rfl,I1.kept (t':=s1.toks) hk,Zl a _ _ (Nat.succ_ne_self _),⟨⟨_,hE⟩,hI⟩,λb hb=>?_,q⟩;have e:s1.heap.objs.size<=b:=by
  rcases Yat.mp hb with rfl | hb
  ·exact Yda _
  ·have eb:b=s1.heap.objs.size:=by simpa using hb
   rw [eb];exact Yae _
 exact I1.fpOk e (I1.hok.fresh e)
theorem ZfL (K:W.Frag){elts:List Expr}{k:Nat}{p0:Pos}{l:Expr}{ta:TA}{p pos:Pos}(hg:Gl X "enumerate")(hm:X.mg "enumerate" = none)(ha:PA X [l] ta)(h:X.K=K:=by rfl)(hs:starEach [l] X.env=[(false,eval l X.env)]:=by rfl) :
  PI X (.Tuple elts k p0) (.Call (.Name "enumerate" p) [l] [] pos) (ZdR K ta):=h▸ZcD hg hm ha hs
end
section
variable {X:Cx}{k:Nat}{f:Addr}{fd:FuncData}{ps:List Str}{sp:Sp}{dvs:List V}{ds:List Value}{fx:Str}{fp qG bpos np hpos pos:Pos}{e:Expr}{es:List Expr}{t:TA}
end
section
variable {X:Cx}{a b c d:Expr}{ta tb tc td:TE}{pos:Pos}
theorem ZaY:bootBuiltins "all" = some (.builtin "all"):=by first | rfl | decide +kernel
theorem ZaZ:bootBuiltins "set" = some (.type "set"):=by first | rfl | decide +kernel
theorem Wd:∀{bs:List Bool}{us:List Value},Vals (bs.map V.bl) us->us=bs.map Value.bool
 | [],_,.nil=>rfl
 | b::bs,_,.cons r t=>by rw [Yap,<-Wd t];cases r;rfl
theorem Zm (bs:List Bool):(List.range bs.length).all (λi=>bs.getD i false)=bs.all id:=by
 induction bs with
 | nil=>rfl
 | cons b bs ih=>
  rw [Ybn,List.range_succ_eq_map,List.all_cons,List.all_map,List.all_cons];show (b && _)=(b && _)
  congr 1
theorem ZgP (K:W.Frag)(hc:X.calm=true)(h:X.K=K:=by rfl):JR X (.builtin "all") (λxs H Q=>∃(p:Addr)(bs:List Bool),xs=[.ref p]/\SqL K H p (bs.map V.bl)/\Q (.bl (bs.all id)) H):=by
 subst h;intro qQ s σ H xs us Q I rv h;obtain ⟨p,bs,rfl,hq,q⟩:=h;obtain ⟨u,rfl,ru⟩:=rv.one;cases ru;obtain ⟨its,r,pl,hz⟩:=I.list hq;have e:=Wd r;have hh:X.A.in1.handled=none:=I.ok.hd hc;obtain ⟨o,eo,_⟩:=id pl.isList;have hlt:p<s.heap.objs.size:=Yah eo;refine call_all_walk (wpAny_pyIter_list pl.isList ?_);refine ⟨s.heap.objs.size,_,_,_,_,_,λi=>bs.getD i false,rfl,Walks.list hh s.heap.objs.size p (Yam hlt) its.toArray,⟨⟨_,Yay _ rfl,rfl,rfl⟩,pl.isList.at λo e=>Yag _ e⟩,?_,λh' tk hk=>?_⟩
 ·intro i v s' Q' E' hv hq';have hv':its[i]?=some v:=by simpa using hv
  rw [e,Ybk] at hv';cases z:bs[i]? with
  | none=>rw [z] at hv';cases hv'
  | some b=>
   rw [z] at hv';cases hv';have eb:bs.getD i false=b:=by rw [Ydz,z];rfl
   exact Ydl (by rw [<-eb];exact hq')
 ·have hl:its.toArray.size=bs.length:=by rw [Yan,e,Yad]
  have I1:Inv X qQ σ H { s with heap:=s.heap.push { cls:=.type "list_iterator", data:=.fields #[.ref p,.int 0 0] } }:=I.kept (t':=s.toks) λb o e=>Yag _ e;refine ⟨.bl _,H,I.kept λb o e'=>hk b o ?_ (Yag _ e'),?_,q⟩
  ·intro z;have:b=s.heap.objs.size:=by simpa using z
   exact absurd (Yah e') (by rw [this];exact Ycb _)
  ·show Value.bool _=Value.bool _;rw [hl,Zm]
end
section
variable {κ:Type}[DecidableEq κ]
noncomputable def JP (kvs:List (κ×V))(k:κ):Option V:=(kvs.find? λkv=>decide (kv.1=k)).map (·.2)
noncomputable def JL (kvs:List (κ×V))(k:κ)(v:V):List (κ×V):=
 if (kvs.any λkv=>decide (kv.1=k))=true then kvs.map (λkv=>if kv.1=k then (kv.1,v) else kv) else kvs++[(k,v)]
theorem G9 {p:κ×V}{r:List (κ×V)}{k:κ}(e:p.1=k):JP (p::r) k=some p.2:=by simp [JP,Ycv,e]
theorem Ja {p:κ×V}{r:List (κ×V)}{k:κ}(e:¬ p.1=k):JP (p::r) k=JP r k:=by simp [JP,Ycv,e]
theorem Ui (k:κ):∀kvs:List (κ×V),(kvs.any λkv=>decide (kv.1=k))=(JP kvs k).isSome
 | []=>rfl
 | p::r=>by
  rw [List.any_cons];by_cases e:p.1=k
  ·simp only [G9 e,Yba e,Bool.true_or,Option.isSome_some]
  ·rw [Ja e,Ybj e,Bool.false_or];exact Ui k r
theorem Xq (k j:κ)(y:V):∀kvs:List (κ×V),JP (kvs.map λkv=>if kv.1=k then (kv.1,y) else kv) j=(JP kvs j).map λx=>if j=k then y else x
 | []=>rfl
 | p::r=>by
  have ih:=Xq k j y r;rw [Yap];by_cases h:p.1=k
  ·rw [if_pos h];by_cases e:p.1=j
   ·rw [G9 (p:=(p.1,y)) e,G9 e,Option.map_some,if_pos (e.symm.trans h)]
   ·rw [Ja (p:=(p.1,y)) e,Ja e,ih]
  ·rw [if_neg h];by_cases e:p.1=j
   ·rw [G9 (p:=p) e,G9 e,Option.map_some,if_neg (λz=>h (e.trans z))]
   ·rw [Ja (p:=p) e,Ja e,ih]
theorem We (k j:κ)(y:V):∀kvs:List (κ×V),JP kvs k=none->JP (kvs++[(k,y)]) j=if j=k then some y else JP kvs j
 | [],_=>by
  by_cases e:k=j
  ·rw [if_pos e.symm];exact G9 (p:=(k,y)) e
  ·rw [if_neg (λz=>e z.symm)];exact Ja (p:=(k,y)) e
 | p::r,hn=>by
  rw [List.cons_append];have hk:¬ p.1=k:=λz=>by rw [G9 z] at hn;cases hn
  rw [Ja hk] at hn;have ih:=We k j y r hn;by_cases e:p.1=j
  ·rw [G9 e,G9 e,if_neg (λz=>hk (e.trans z))]
  ·rw [Ja e,Ja e,ih]
theorem Jn (kvs:List (κ×V))(k j:κ)(y:V):JP (JL kvs k y) j=if j=k then some y else JP kvs j:=by
 unfold JL;by_cases a:(kvs.any λkv=>decide (kv.1=k))=true
 ·rw [if_pos a,Xq];rw [Ui] at a;by_cases e:j=k
  ·obtain ⟨x,hx⟩:=Option.isSome_iff_exists.mp a;rw [if_pos e,e,hx,Option.map_some,if_pos rfl]
  ·rw [if_neg e];cases JP kvs j with
   | none=>rfl
   | some x=>rw [Option.map_some,if_neg e]
 ·rw [if_neg a];refine We k j y kvs ?_;rw [Ui] at a;cases q:JP kvs k with
  | none=>rfl
  | some x=>rw [q] at a;exact (a rfl).elim
theorem Je (kvs:List (κ×V))(k:κ)(v:V):(JL kvs k v).length<=kvs.length+1:=by
 unfold JL;split
 ·rw [Yad];lia
 ·rw [Yak,Ybn,List.length_nil];lia
theorem RelO.isSome_eq {o:Option V}{u:Option Value}(r:RelO o u):o.isSome=u.isSome:=by
 cases o with
 | none=>cases u with
  | none=>rfl
  | some _=>exact (show False from r).elim
 | some _=>cases u with
  | none=>exact (show False from r).elim
  | some _=>rfl
theorem KV.val {kvs:List (κ×V)}{vs:List (κ×Value)}(r:KV kvs vs)(k:κ):RelO (JP kvs k) (valueAt vs k):=by
 unfold KV at r
 induction r with
 | nil=>exact True.intro
 | @cons p q ps qs h t ih=>
  obtain ⟨h1,h2⟩:=h;by_cases e:p.1=k
  ·have e':q.1=k:=h1.symm.trans e;have b:valueAt (q::qs) k=some q.2:=by simp [valueAt,Ycv,e']
   rw [G9 e,b];exact h2
  ·have e':¬ q.1=k:=λz=>e (h1.trans z);have b:valueAt (q::qs) k=valueAt qs k:=by simp [valueAt,Ycv,e']
   rw [Ja e,b];exact ih
theorem KV.any {kvs:List (κ×V)}{vs:List (κ×Value)}(r:KV kvs vs)(k:κ):(kvs.any λkv=>decide (kv.1=k))=vs.any λkv=>decide (kv.1=k):=by
 unfold KV at r
 induction r with
 | nil=>rfl
 | cons h t ih=>rw [List.any_cons,List.any_cons,ih,h.1]
theorem KV.repl {kvs:List (κ×V)}{vs:List (κ×Value)}(r:KV kvs vs)(k:κ){y:V}{u:Value}(ry:RelV y u) :
  KV (kvs.map λkv=>if kv.1=k then (kv.1,y) else kv) (vs.map λkv=>if kv.1=k then (kv.1,u) else kv):=by
 unfold KV at r ⊢
 induction r with
 | nil=>exact .nil
 | @cons p q ps qs h t ih=>
  rw [Yap,Yap];refine .cons ?_ ih;obtain ⟨h1,h2⟩:=h;by_cases e:p.1=k
  ·rw [if_pos e,if_pos (h1.symm.trans e)];exact ⟨h1,ry⟩
  ·rw [if_neg e,if_neg (λz=>e (h1.trans z))];exact ⟨h1,h2⟩
theorem KV.put {kvs:List (κ×V)}{vs:List (κ×Value)}(r:KV kvs vs)(k:κ){y:V}{u:Value}(ry:RelV y u):KV (JL kvs k y) (stored vs k u):=by
 unfold JL stored;rw [r.any k];by_cases e:(vs.any λkv=>decide (kv.1=k))=true
 ·rw [if_pos e,if_pos e];exact r.repl k ry
 ·rw [if_neg e,if_neg e];exact Paired.snoc r ⟨rfl,ry⟩
theorem KV.length {kvs:List (κ×V)}{vs:List (κ×Value)}(r:KV kvs vs):kvs.length=vs.length:=Ycj r
end
theorem Zn {P:Program}{w:World}{k:Key}{u:Value}(r:RelV (kV k) u):(GY P w).is k u=true:=by
 cases k with
 | inl i=>obtain ⟨t,e⟩:=(show ∃t,u=Value.int i t from r);subst e;exact WC P w i t
 | inr x=>obtain ⟨t,e⟩:=(show ∃t,u=Value.str x t from r);subst e;exact WD P w x t
theorem Wf {P:Program}{w:World}:∀{ks:List Key}{us:List Value},Vals (ks.map kV) us->ItemsAre (GY P w) ks us
 | [],_,r=>by rw [List.map_nil] at r;cases r;exact .nil
 | k::ks,_,r=>by
  rw [Yap] at r;cases r with
  | cons h t=>exact .cons (Zn h) (Wf t)
noncomputable abbrev KT (H:Hp):List (List Key×V)->List (List Key×Addr×Value)->Prop:=Paired λp q=>p.1=q.1/\H q.2.1=some (.tup (p.1.map kV))/\RelV p.2 q.2.2
theorem KT.val {H:Hp}{kvs:List (List Key×V)}{xs:List (List Key×Addr×Value)}(r:KT H kvs xs)(k:List Key):RelO (JP kvs k) ((atKey xs k).map (·.2)):=by
 induction r with
 | nil=>exact True.intro
 | @cons p q ps qs h t ih=>
  obtain ⟨h1,_,h2⟩:=h;by_cases e:p.1=k
  ·have e':q.1=k:=h1.symm.trans e;have b:atKey (q::qs) k=some q.2:=by simp [atKey,Ycv,e']
   rw [G9 e,b];exact h2
  ·have e':¬ q.1=k:=λz=>e (h1.trans z);have b:atKey (q::qs) k=atKey qs k:=by simp [atKey,Ycv,e']
   rw [Ja e,b];exact ih
theorem KT.repl {H:Hp}{kvs:List (List Key×V)}{xs:List (List Key×Addr×Value)}(r:KT H kvs xs)(k:List Key){y:V}{u:Value}(ry:RelV y u) :
  KT H (kvs.map λkv=>if kv.1=k then (kv.1,y) else kv) (xs.map (putAt k u)):=by
 induction r with
 | nil=>exact .nil
 | @cons p q ps qs h t ih=>
  rw [Yap,Yap];refine .cons ?_ ih;obtain ⟨h1,h2,h3⟩:=h;unfold putAt;by_cases e:p.1=k
  ·rw [if_pos e,if_pos (h1.symm.trans e)];exact ⟨h1,h2,ry⟩
  ·rw [if_neg e,if_neg (λz=>e (h1.trans z))];exact ⟨h1,h2,h3⟩
theorem KT.put {H:Hp}{kvs:List (List Key×V)}{xs:List (List Key×Addr×Value)}(r:KT H kvs xs)(k:List Key){b:Addr}{y:V}{u:Value}(hb:H b=some (.tup (k.map kV)))(ry:RelV y u) :
  KT H (JL kvs k y) (storedH xs k b u):=by
 have e:(kvs.any λkv=>decide (kv.1=k))=(atKey xs k).isSome:=by
  rw [Ui,(r.val k).isSome_eq,Option.isSome_map]
 unfold JL storedH;rw [e];by_cases q:(atKey xs k).isSome=true
 ·rw [if_pos q,if_pos q];exact r.repl k ry
 ·rw [if_neg q,if_neg q];exact Paired.snoc r ⟨rfl,hb,ry⟩
theorem KT.keeps {H H':Hp}{kvs:List (List Key×V)}{xs:List (List Key×Addr×Value)}(r:KT H kvs xs)(ht:∀b ys,H b=some (.tup ys)->H' b=some (.tup ys)):KT H' kvs xs:=
 Paired.mapP r λ_ _ z=>⟨z.1,ht _ _ z.2.1,z.2.2⟩
section
variable {P:Program}{w:World}{H:Hp}{h:Heap}{a:Addr}
theorem ZdS {u:HO}(ok:HOk P w H h)(e:Rd H a u):ObjOk P w H h a u:=e.ok ok
theorem Za0 {kvs:List (Key×V)}(ok:HOk P w H h)(e:Rd H a (.dK kvs)):kvs.length<=sizeLine/\(a == sysModules)=false/\∃vs,KV kvs vs/\h.DictOf (GY P w) a vs:=
 show ObjOk P w H h a (.dK kvs) from ZdS ok e
theorem ZdT {kvs:List (Key×V)}(ok:HOk P w H h)(e:H a=some (.dK kvs)):kvs.length<=sizeLine/\(a == sysModules)=false/\∃vs,KV kvs vs/\h.DictOf (GY P w) a vs:=Za0 ok (.inl e)
theorem Xr {ks:List Key}(ok:HOk P w H h)(e:H a=some (.tup (ks.map kV))):(tupleKind (GY P w)).is h ks a:=by
 obtain ⟨_,its,r,o,h1,h2,n,h3⟩:=(show ObjOk P w H h a (.tup (ks.map kV)) from ok a _ e);exact ⟨o,its.toArray,n,h1,h2,h3,by simpa using Wf r⟩
theorem Za1 {kvs:List (List Key×V)}(ok:HOk P w H h)(e:Rd H a (.dT kvs)):kvs.length<=sizeLine/\(a == sysModules)=false /\
  ∃xs,KT H kvs xs/\h.DictOfH (tupleKind (GY P w)) a xs:=by
 obtain ⟨z,y,xs,r,o,es,ep,h1,h2,h3,h4,h5⟩:=(show ObjOk P w H h a (.dT kvs) from ZdS ok e);refine ⟨z,y,xs,r,o,es,ep,h1,h2,h3,h4,λx hx=>?_,h5⟩;have all:∀{l:List (List Key×V)}{m:List (List Key×Addr×Value)},KT H l m->∀x∈m,(tupleKind (GY P w)).is h x.1 x.2.1:=by
  intro l m q
  induction q with
  | nil=>intro x hx;exact nomatch hx
  | @cons p q ps qs hq t ih=>
   intro x hx;rcases Yat.mp hx with e | hx
   ·subst e;exact Xr ok (by rw [<-hq.1];exact hq.2.1)
   ·exact ih x hx
 exact all r x hx
theorem ZfM {kvs:List (List Key×V)}(ok:HOk P w H h)(e:H a=some (.dT kvs)):kvs.length<=sizeLine/\(a == sysModules)=false /\
  ∃xs,KT H kvs xs/\h.DictOfH (tupleKind (GY P w)) a xs:=Za1 ok (.inl e)
end
noncomputable def DGet (H:Hp)(a:Addr)(y:V)(r:Option V):Prop:=
 (∃kvs k,Rd H a (.dK kvs)/\y=kV k/\r=JP kvs k)\/∃kvs k b,Rd H a (.dT kvs)/\y=.ref b/\H b=some (.tup (k.map kV))/\r=JP kvs k
noncomputable def DPut (H:Hp)(a:Addr)(y v:V)(H':Hp):Prop:=
 (∃kvs k,H a=some (.dK kvs)/\y=kV k/\kvs.length<sizeLine/\H'=upd H a (.dK (JL kvs k v))) \/
 ∃kvs k b,H a=some (.dT kvs)/\y=.ref b/\H b=some (.tup (k.map kV))/\kvs.length<sizeLine/\H'=upd H a (.dT (JL kvs k v))
theorem DGet.k {H:Hp}{a:Addr}{kvs:List (Key×V)}{k:Key}(e:H a=some (.dK kvs)):DGet H a (kV k) (JP kvs k):=.inl ⟨kvs,k,.inl e,rfl,rfl⟩
theorem DGet.t {H:Hp}{a b:Addr}{kvs:List (List Key×V)}{k:List Key}(e:H a=some (.dT kvs))(eb:H b=some (.tup (k.map kV))):DGet H a (.ref b) (JP kvs k):=.inr ⟨kvs,k,b,.inl e,rfl,eb,rfl⟩
theorem DPut.k {H:Hp}{a:Addr}{kvs:List (Key×V)}{k:Key}{v:V}(e:H a=some (.dK kvs))(hl:kvs.length<sizeLine):DPut H a (kV k) v (upd H a (.dK (JL kvs k v))):=.inl ⟨kvs,k,e,rfl,hl,rfl⟩
theorem DPut.t {H:Hp}{a b:Addr}{kvs:List (List Key×V)}{k:List Key}{v:V}(e:H a=some (.dT kvs))(eb:H b=some (.tup (k.map kV)))(hl:kvs.length<sizeLine) :
  DPut H a (.ref b) v (upd H a (.dT (JL kvs k v))):=.inr ⟨kvs,k,b,e,rfl,eb,hl,rfl⟩
section
variable {X:Cx}{qQ:List (Addr×Obj)}{σ:St}{H:Hp}{s:Shared}{a:Addr}{y v:V}{u r:Value}{o:Option V}{A:Around}{E:EX}
theorem Inv.big (I:Inv X qQ σ H s):sysModules<s.heap.objs.size:=by
 have h:mainGlobals<s.heap.objs.size:=(I.mod.glob.keeps I.bk).lt;exact Nat.lt_trans (by decide) h
theorem Zo {Q:EX}(hu:A.units+1<cLine)(I:Inv X qQ σ H s)(g:DGet H a y (some v))(ry:RelV y u)(h:∀w' s',Inv X qQ σ H s'->RelV v w'->Q w' s') :
  wpAny (model X.prog X.w) A (getItem (.ref a) u) Q E s:=by
 rcases g with ⟨kvs,k,e,ey,l⟩ | ⟨kvs,k,b,e,ey,eb,l⟩
 ·subst ey;obtain ⟨z,hd,vs,rel,dd⟩:=Za0 I.hok e;obtain ⟨w',hw,rw'⟩:=RelO.some_of (v:=v) (o:=valueAt vs k) (by rw [l];exact rel.val k);exact wpAny_getItem_of (Zn ry) dd.mapOf hw (h w' _ (I.tok _) rw')
 ·subst ey;cases (show u=Value.ref b from ry);obtain ⟨z,hd,xs,rel,dd⟩:=Za1 I.hok e;obtain ⟨w',hw,rw'⟩:=RelO.some_of (v:=v) (o:=(atKey xs k).map (·.2)) (by rw [l];exact rel.val k);obtain ⟨p,hp,hp2⟩:=Ybt.mp hw;refine wpAny_getItem_heap (tupleKind_room_in1 hu) (Xr I.hok eb) dd hp ?_;rw [hp2];exact h w' _ (I.tok _) rw'
theorem ZcE {Q:EX}(hu:A.units+1<cLine)(I:Inv X qQ σ H s)(g:DGet H a y o)(ry:RelV y u)(h:∀s',Inv X qQ σ H s'->Q (.bool (!o.isSome)) s') :
  wpAny (model X.prog X.w) A (compareOp .NotIn u (.ref a)) Q E s:=by
 rcases g with ⟨kvs,k,e,ey,l⟩ | ⟨kvs,k,b,e,ey,eb,l⟩
 ·subst ey;obtain ⟨z,hd,vs,rel,dd⟩:=Za0 I.hok e;refine wpAny_notIn_of (Zn ry) hd dd.mapOf ?_;rw [<-(rel.val k).isSome_eq,<-l];exact h _ (I.tok _)
 ·subst ey;cases (show u=Value.ref b from ry);obtain ⟨z,hd,xs,rel,dd⟩:=Za1 I.hok e;refine wpAny_notIn_heap (tupleKind_room_in1 hu) (Xr I.hok eb) hd dd ?_;have q:=(rel.val k).isSome_eq;rw [Option.isSome_map] at q;rw [<-q,<-l];exact h _ (I.tok _)
theorem Vj {h':Heap}{t':Nat}{ob:HO}(I:Inv X qQ σ H s)(mu:Mut (H a))(hs:Heap.SameBut a s.heap h')(he:∃q,h'.get? a=some q)(new:ObjOk X.prog X.w (upd H a ob) h' a ob) :
  Inv X qQ σ (upd H a ob) { s with heap:=h',toks:=t' }:=
 I.write (x:=a) (e:=a) mu (.inl rfl) (λb q hb z=>(hs.2 b hb).trans z) he new
theorem ZbY {P:Program}{w:World}{H':Hp}{h':Heap}{kvs:List (Key×V)}{vs:List (Key×Value)}(z:kvs.length<=sizeLine)(hd:(a == sysModules)=false)(rel:KV kvs vs)(dd:h'.DictOf (GY P w) a vs) :
  ObjOk P w H' h' a (.dK kvs):=⟨z,hd,vs,rel,dd⟩
theorem Zp {H':Hp}{Q:Unit->Shared->Prop}(hu:A.units+1<cLine)(I:Inv X qQ σ H s)(g:DPut H a y v H')(ry:RelV y u)(rv:RelV v r)(h:∀s',Inv X qQ σ H' s'->Q () s') :
  wpAny (model X.prog X.w) A (setItem (.ref a) u r) Q E s:=by
 rcases g with ⟨kvs,k,e,ey,l,eH⟩ | ⟨kvs,k,b,e,ey,eb,l,eH⟩
 ·subst ey eH;obtain ⟨z,hd,vs,rel,dd⟩:=ZdT I.hok e;have hz:vs.length<=sizeLine:=by rw [<-rel.length];exact z
  have hl:(JL kvs k v).length<=sizeLine:=by have:=Je kvs k v;lia
  refine wpAny_setItem_pairs (hsz:=hz) (Zn ry) dd λh' dd' hs=>h _ ?_;have he:∃q,h'.get? a=some q:=let ⟨q,_,_,hq,_⟩:=dd';⟨q,hq⟩;exact Vj I (by rw [e];exact True.intro) hs he (ZbY hl hd (rel.put k rv) dd')
 ·subst ey eH;cases (show u=Value.ref b from ry);obtain ⟨z,hd,xs,rel,dd⟩:=ZfM I.hok e;have hz:xs.length<=sizeLine:=by rw [<-Ycj rel];exact z
  have hl:(JL kvs k v).length<=sizeLine:=by have:=Je kvs k v;lia
  refine wpAny_setItem_heap (hsz:=hz) (tupleKind_room_in1 hu) (Xr I.hok eb) dd λh' dd' hs=>h _ ?_;obtain ⟨q,es,ep,hq,h2,h3,h4,_,h5⟩:=dd';refine Vj I (by rw [e];exact True.intro) hs ⟨q,hq⟩ ⟨hl,hd,_,(rel.put k eb rv).keeps λc ys ec=>?_,q,es,ep,hq,h2,h3,h4,h5⟩;rw [Gi (GP ec e (λz=>nomatch z))];exact ec
end
section
variable {X:Cx}{qQ:List (Addr×Obj)}{σ:St}{H:Hp}{s:Shared}{a:Addr}{kvs:List (Key×V)}{k:Key}{u:Value}{A:Around}{E:EX}
end
noncomputable def Ze8 (i:Expr):Prop:=∀ov iv,subscripted i false ov iv=operate [ov,iv] (getItem ov iv)
theorem Zq {prog:Program}{w:World}{A:Around}{E:EX}{s:Shared}{env:Env}{value slice:Expr}{pos:Pos}{T id:String}{Q:EX}(hl:typeLookup (.type T) "__getitem__" = pure (some (.builtin id)))(hs:Ze8 slice)(h:wpAny (model prog w) A (eval value env) (λo s₁=>wpAny (model prog w) A (eval slice env) (λi s₂=>s₂.TypeIs o T/\wpAny (model prog w) A (getItem o i) Q E s₂) E s₁) E s) :
  wpAny (model prog w) A (eval (.Subscript value slice pos) env) Q E s:=by
 refine Subscript_ (Ybm h (λo s₁ h₁=>Ybm h₁ (λi s₂ h₂=>?_) λ_ _ x=>x) λ_ _ x=>x);obtain ⟨hT,h₂⟩:=h₂;unfold subscriptTail;refine Yaa ?_;rw [getitemInPython_of_ne hT.not_modules];refine Yaa (wpAny_specialOf hT hl ?_);have fin:wpAny (model prog w) A (subscripted slice false o i) (λr s₃=>wpAny (model prog w) A (letTemporaryGo value o r >>= λ_=>pure r) Q E s₃) E s₂:=by
  rw [hs o i];exact wpAny_operating (Ybm h₂ (λr s₃ h₃=>Yaa (wpAny_letTemporaryGo (Yab h₃))) λ_ _ x=>x)
 first
  | exact Yab (Yaa fin)
  | exact Yaa (Yab (Yaa fin))
  | exact Yaa fin
theorem WH {X:Cx}{qQ:List (Addr×Obj)}{σ:St}{H:Hp}{s:Shared}{a:Addr}{y:V}{o:Option V}(I:Inv X qQ σ H s)(g:DGet H a y o):s.TypeIs (.ref a) "dict" := by
 rcases g with ⟨kvs,k,e,_,_⟩ | ⟨kvs,k,b,e,_,_,_⟩
 ·obtain ⟨_,_,vs,_,dd⟩:=Za0 I.hok e;exact dd.typeIs
 ·obtain ⟨_,_,xs,_,dd⟩:=Za1 I.hok e;exact dd.typeIs
noncomputable def ZfN (td ty:TE):TE:=λσ H Q=>td σ H λx H1=>ty σ H1 λy H2=>∃a v,x=.ref a/\DGet H2 a y (some v)/\Q v H2
noncomputable def ZcF (ty td:TE):TE:=λσ H Q=>ty σ H λy H1=>td σ H1 λx H2=>∃a o,x=.ref a/\DGet H2 a y o/\Q (.bl (!o.isSome)) H2
noncomputable def ZfO (td ty tv:TE):TS:=λD σ H=>tv σ H λv H1=>td σ H1 λx H2=>ty σ H2 λy H3=>∃a H4,x=.ref a/\DPut H3 a y v H4/\D.nx σ H4
section
variable {X:Cx}{o i e value:Expr}{pos pos' tpos:Pos}{td ty tv:TE}
theorem Vk (hu:X.A.units+1<cLine)(ho:PE X o td)(hi:PE X i ty)(hs:Ze8 i):PE X (.Subscript o i pos) (ZfN td ty):=by
 intro qQ s σ H Q I h;refine Zq PySem.F.slot_dict_getitem.lookup hs (thn (ho qQ s σ H _ I h) λu s1 ⟨x,H1,I1,rx,q1⟩=>thn (hi qQ s1 σ H1 _ I1 q1) λiv s2 ⟨y,H2,I2,ry,a,v,ex,g,q2⟩=>?_);subst ex;obtain rfl:u=Value.ref a:=rx;exact ⟨WH I2 g,Zo hu I2 g ry λw' s3 I3 rw'=>⟨v,H2,I3,rw',q2⟩⟩
theorem Wg (hu:X.A.units+1<cLine)(hi:PE X i ty)(ho:PE X o td):PC X .NotIn i o (ZcF ty td):=by
 intro qQ s σ H Q I h;refine thn (hi qQ s σ H _ I h) λiv s1 ⟨y,H1,I1,ry,q1⟩=>thn (ho qQ s1 σ H1 _ I1 q1) λu s2 ⟨x,H2,I2,rx,a,ov,ex,g,q2⟩=>?_;subst ex;obtain rfl:u=Value.ref a:=rx;exact ZcE hu I2 g ry λs3 I3=>⟨.bl (!ov.isSome),H2,I3,rfl,q2⟩
theorem WI (hu:X.A.units+1<cLine)(ho:PE X o td)(hi:PE X i ty)(hv:PE X value tv)(hs:swapsWith value (some (.Subscript o i pos')) pos.line X.env=pure false) :
  PS X (.Assign [.Subscript o i pos'] value pos) (ZfO td ty tv):=by
 intro qQ s σ H D I h;refine wpAny_Assign_Subscript (thn (hv qQ s σ H _ I h) λr s1 ⟨v,H1,I1,rv,q1⟩=>thn (ho qQ s1 σ H1 _ I1 q1) λu s2 ⟨x,H2,I2,rx,q2⟩=>thn (hi qQ s2 σ H2 _ I2 q2) λiv s3 ⟨y,H3,I3,ry,a,H4,ex,g,q3⟩=>?_) hs;subst ex;obtain rfl:u=Value.ref a:=rx;exact Zp hu I3 g ry rv λs4 I4=>⟨σ,H4,I4,q3⟩
end
theorem Za2 {P:Program}{w:World}{H:Hp}(h:Heap)(hb:sysModules<h.objs.size):ObjOk P w H (h.push { cls:=.type "dict", data:=.dict #[] }) h.objs.size (.dK []):=
 ⟨Yao _,Ydk.mpr (Ne.symm (Yam hb)),[],.nil,Heap.DictOf.new h⟩
theorem Za3 {P:Program}{w:World}{H:Hp}(h:Heap)(hb:sysModules<h.objs.size):ObjOk P w H (h.push { cls:=.type "dict", data:=.dict #[] }) h.objs.size (.dT []):=
 ⟨Yao _,Ydk.mpr (Ne.symm (Yam hb)),[],.nil,_,#[],0,Yay _ rfl,⟨rfl,rfl,rfl⟩,rfl,rfl,Yea⟩
noncomputable def ZdU:TE:=λ_ H Q=>∀p,H p=none->Q (.ref p) (upd H p (.dT []))
section
variable {X:Cx}{pos:Pos}
theorem Za4:PE X (.Dict [] [] pos) ZdU:=λqQ s σ H Q I h=>
 wpAny_Dict_empty ⟨.ref s.heap.objs.size,_,I.laid (a:=s.heap.objs.size) (o:=.dT []) (t':=s.toks) (λ_ _ q=>Yag _ q) (Yae _) (Za3 s.heap I.big),rfl,h _ (I.hok.fresh (Yae _))⟩
end
noncomputable def Zr:List (TE×TE)->St->Hp->(List (V×V)->Hp->Prop)->Prop
 | [],_,H,Q=>Q [] H
 | (tk,tv)::r,σ,H,Q=>tk σ H λx H1=>tv σ H1 λy H2=>Zr r σ H2 λps H3=>Q ((x,y)::ps) H3
noncomputable abbrev VV:List (V×V)->List (Value×Value)->Prop:=Paired λp q=>RelV p.1 q.1/\RelV p.2 q.2
noncomputable def PPs (X:Cx)(pos:Pos)(keys:List (Option Expr))(values:List Expr)(trs:List (TE×TE)):Prop:=
 ∀(qQ:List (Addr×Obj))(s:Shared)(σ:St)(H:Hp)(Q:List (V×V)->Hp->Prop),Inv X qQ σ H s->Zr trs σ H Q ->
  wpAny (model X.prog X.w) X.A (evalPairs (pairTrees keys values X.env pos)) (λvs s'=>∃ps H',Inv X qQ σ H' s'/\VV ps vs/\Q ps H') X.xe s
theorem Zs {X:Cx}{pos:Pos}:PPs X pos [] [] []:=λqQ s σ H Q I h=>pairTrees_nil_walk ⟨[],H,I,.nil,h⟩
theorem Uj {X:Cx}{pos:Pos}{k v:Expr}{ks:List (Option Expr)}{vs:List Expr}{tk tv:TE}{trs:List (TE×TE)}(hk:PE X k tk)(hv:PE X v tv)(hr:PPs X pos ks vs trs) :
  PPs X pos (some k::ks) (v::vs) ((tk,tv)::trs):=λqQ s σ H Q I h=>
 pairTrees_cons_walk (thn (hk qQ s σ H _ I h) λu s1 ⟨x,H1,I1,rx,q1⟩=>thn (hv qQ s1 σ H1 _ I1 q1) λw2 s2 ⟨y,H2,I2,ry,q2⟩=>
  thn (hr qQ s2 σ H2 _ I2 q2) λws s3 ⟨ps,H3,I3,rel,q3⟩=>⟨(x,y)::ps,H3,I3,.cons ⟨rx,ry⟩ rel,q3⟩)
noncomputable def Jl (kvs more:List (Key×V)):List (Key×V):=more.foldl (λacc kv=>JL acc kv.1 kv.2) kvs
theorem KV.merge:∀{more:List (Key×V)}{rs:List (Key×Value)}{kvs:List (Key×V)}{vs:List (Key×Value)},KV more rs->KV kvs vs->KV (Jl kvs more) (merged vs rs):=by
 intro more rs kvs vs r;unfold KV at r
 induction r generalizing kvs vs with
 | nil=>intro q;exact q
 | @cons p q ps qs h t ih=>
  intro r0;have e:KV (JL kvs p.1 p.2) (stored vs q.1 q.2):=by
   have:=r0.put p.1 h.2;rw [<-h.1];exact this
  exact ih e
theorem Ox:∀(more kvs:List (Key×V)),(Jl kvs more).length<=kvs.length+more.length
 | [],kvs=>by show kvs.length<=kvs.length+0;lia
 | p::r,kvs=>by
  have h1:=Ox r (JL kvs p.1 p.2);have h2:=Je kvs p.1 p.2;show (Jl (JL kvs p.1 p.2) r).length<=_;rw [Ybn];lia
theorem UU {P:Program}{w:World}:∀{kvs:List (Key×V)}{ws:List (Value×Value)},VV (kvs.map λkv=>(kV kv.1,kv.2)) ws->∃rs,Carries (GY P w) ws rs/\KV kvs rs
 | [],_,r=>by rw [List.map_nil] at r;cases r;exact ⟨[],True.intro,.nil⟩
 | p::kvs,_,r=>by
  rw [Yap] at r;cases r with
  | @cons a b as bs h t=>
   obtain ⟨rs,c,q⟩:=UU (P:=P) (w:=w) t;obtain ⟨b1,b2⟩:=b;exact ⟨(p.1,b2)::rs,⟨Zn h.1,rfl,c⟩,.cons ⟨rfl,h.2⟩ q⟩
noncomputable def ZfP (trs:List (TE×TE)):TE:=λσ H Q=>∀p,H p=none->Zr trs σ (upd H p (.dK [])) λps H2=>H2 p=some (.dK [])/\∃kvs:List (Key×V),ps=kvs.map (λkv=>(kV kv.1,kv.2))/\kvs.length<=15/\Q (.ref p) (upd H2 p (.dK (Jl [] kvs)))
theorem Zt {X:Cx}{pos:Pos}{keys:List (Option Expr)}{values:List Expr}{trs:List (TE×TE)}(h:PPs X pos keys values trs)(qK:keys.all (·.isSome)=true)(hl:keys.length=values.length)(h0:keys≠[])(h15:keys.length<=15):PE X (.Dict keys values pos) (ZfP trs):=by
 intro qQ s σ H Q I q;have hn:=I.hok.fresh (Yae s.heap.objs.size);have I1:=I.laid (a:=s.heap.objs.size) (o:=.dK []) (h':=s.heap.push { cls:=.type "dict", data:=.dict #[] }) (t':=s.toks) (λ_ _ q=>Yag _ q) (Yae _) (Za2 s.heap I.big);refine wpAny_Dict_walk (knd:=GY X.prog X.w) qK hl h0 h15 (thn (h qQ _ σ _ _ I1 (q _ hn)) λws s2 ⟨ps,H2,I2,rel,e,kvs,ep,lk,q2⟩=>?_);subst ep;obtain ⟨rs,c,rk⟩:=UU (P:=X.prog) (w:=X.w) rel;obtain ⟨z,hd,vs0,r0,dd⟩:=ZdT I2.hok e;cases r0;refine ⟨rs,c,dd,λh' dd' hs=>⟨.ref s.heap.objs.size,_,?_,rfl,q2⟩⟩;have hz:(Jl [] kvs).length<=sizeLine:=by
  have h1:=Ox kvs [];rw [List.length_nil] at h1;rw [Ybh];lia
 have he:∃q,h'.get? s.heap.objs.size=some q:=let ⟨q,_,_,hq,_⟩:=dd';⟨q,hq⟩;exact Vj I2 (by rw [e];exact True.intro) hs he (ZbY hz hd (rk.merge .nil) dd')
section
variable {X:Cx}{qQ:List (Addr×Obj)}{σ:St}{H:Hp}{s:Shared}{a:Addr}{y d:V}{u r:Value}{o:Option V}{A:Around}{E:EX}
end
section
variable {X:Cx}{o e f:Expr}{apos qG:Pos}{td ty tx:TE}
end
section
variable {X:Cx}{qQ:List (Addr×Obj)}{σ:St}{H:Hp}{s:Shared}{a:Addr}{kvs:List (Key×V)}{A:Around}{E:EX}
end
section
variable {X:Cx}{qQ:List (Addr×Obj)}{σ:St}{H:Hp}{s:Shared}{a:Addr}{y:V}{u:Value}{A:Around}{E:EX}
end
section
variable {X:Cx}
end
section
variable {prog:Program}{w:World}{A:Around}{E:EX}{s:Shared}
end
section
variable {P:Program}{w:World}{H0:Hp}{h0:Heap}{z TO i1 i2 S:Addr}{ns ms:List Int}{i:Nat}{h h':Heap}{acc:Array Value}
end
section
variable {prog:Program}{w:World}{A:Around}{I S:Addr}{n:Nat}{St:Nat->Heap->Array Value->Prop}{Fi:Heap->Array Value->Prop}
end
section
variable {prog:Program}{w:World}{A:Around}{E:EX}{s:Shared}
namespace ZF
end ZF
end
section
variable {X:Cx}
end
theorem Za5 {K:PySem.W.Frag}{a:Addr}{xs:List V}{g:TG}{tb:TS}{D:ZaD}{σ:St}{H:Hp}(Pv:Nat->St->Hp->Prop)(h0:Pv 0 σ H)(hl:∀i σ H,i<=xs.length->Pv i σ H->SqL K H a xs)(hs:∀i x σ H T,xs[i]?=some x->Pv i σ H->H T=none->g (.ref T) σ (upd H T (.tup [.int (i:Nat),x])) λσ2 H2=>tb { D with nx:=Pv (i+1),ct:=Pv (i+1),bk:=D.nx } σ2 H2)(hd:∀ σ H,Pv xs.length σ H->D.nx σ H) :
  ∃W:Nat->Nat->St->Hp->Prop,(∃m,W 0 m σ H)/\∀i m σ H,W i m σ H ->
   ((Ite K a).stop i H/\D.nx σ H)\/((Ite K a).go i H/\∃N:St->Hp->Prop,(∀ σ' H',N σ' H'->∃m',m'<m/\W (i+1) m' σ' H')/\∀x H',(Ite K a).yld i H x H'->g x σ H' λσ2 H2=>tb { D with nx:=N,ct:=N,bk:=D.nx } σ2 H2):=by
 refine ⟨λi m σ H=>m=xs.length-i/\i<=xs.length/\Pv i σ H,⟨xs.length,by simp,Yao _,h0⟩,?_⟩;rintro i m σ H ⟨rfl,hi,p⟩;have q:=hl i σ H hi p;by_cases hlt:i<xs.length
 ·refine .inr ⟨⟨xs,xs[i],q,by simp [hlt]⟩,Pv (i+1),λσ' H' p'=>⟨xs.length-(i+1),by lia,rfl,hlt,p'⟩,λx H' y=>?_⟩;obtain ⟨T,y',rfl,hT,rfl,hy⟩:=y;exact hs i y' σ H T (hy xs q) p hT
 ·have e:i=xs.length:=by lia
  subst e;exact .inl ⟨⟨xs,q,Yae _⟩,hd σ H p⟩
section
variable {X:Cx}{tg:Expr}
end
section
variable {X:Cx}
end
structure FunD (K:W.Frag)(x qual:Str)(st:Stmt)(dV:Value)(f:Addr)(fd:FuncData):Prop where
 ex:∃(oc:Value)(od:Option Addr)(kV doc pm:Value)(an:Option Addr)(cdv ct:Value)(osl:Array (Option Value)),
  fd=W.fnOf x qual (Jd st) (GQ st) (Gg st) dV kV doc pm an cdv ct/\K.lookup f=some ⟨oc,od,.func fd,osl⟩/\W.codeIn K cdv qual=true
 kp:W.keepIn K (.ref f)=true
section
variable {P:Program}{w:World}{K:W.Frag}{mg:Str->Option Value}{base:Heap}
theorem FunD.ok {x qual:Str}{st:Stmt}{dV:Value}{f:Addr}{fd:FuncData}{N ps:List Str}{k:Nat}{sp:Sp}(F:FunD K x qual st dV f fd)(S:Gy N ps (Gg st))(len:∀vs H Q E,sp vs H Q E->vs.length=ps.length)(jZ:∀(cdv:Value)(A:Around)(outer:List Env)(s:Shared)(H:Hp)(vs:List V)(Q:VK)(E:XK),Room k (A.deeper (envOfC qual (Gg st) s.heap.objs.size f cdv))->sp vs H Q E ->
   ∃t,PSs (YO CX0 P w K mg base N qual (Gg st) f cdv A outer s H E).nox (GQ st) t/\t { nx:=λ_ H'=>Q .non H',rt:=Q } (start N vs) H):G7 P w K mg base CX0 (k+1) f fd ps sp:=by
 obtain ⟨oc,od,kV,doc,pm,an,cdv,ct,osl,rfl,lk,hcd⟩:=F.ex;refine ZaP lk hcd S len λA outer s H vs Q E hr hsp=>?_;obtain ⟨t,h,q⟩:=jZ cdv A outer s H vs Q E hr hsp;exact ⟨t,h.nox,q⟩
theorem ZcG {x qual:Str}{st:Stmt}{f:Addr}{oc:Value}{od an:Option Addr}{osl:Array (Option Value)}{dV kV doc pm cdv ct:Value}(l:K.lookup f=some ⟨oc,od,.func (W.fnOf x qual (Jd st) (GQ st) (Gg st) dV kV doc pm an cdv ct),osl⟩)(c:W.codeIn K cdv qual=true)(k:W.keepIn K (.ref f)=true):FunD K x qual st dV f (W.fnOf x qual (Jd st) (GQ st) (Gg st) dV kV doc pm an cdv ct):=⟨⟨oc,od,kV,doc,pm,an,cdv,ct,osl,rfl,l,c⟩,k⟩
end
end L2
namespace L2
open PySem
noncomputable def itf (M:Nat):Nat->Nat->Nat
 | 0,x=>x
 | k+1,x=>itf M k ((x * 5+1) % M)
theorem Vl (M:Nat):∀(a b x:Nat),itf M (a+b) x=itf M b (itf M a x)
 | 0,b,x=>by rw [Ycw];rfl
 | a+1,b,x=>by rw [Nat.add_right_comm];exact Vl M a b _
noncomputable def Ze9 (M:Nat):Nat->Nat->Nat->Nat
 | 0,_,m=>m
 | n+1,x,m=>Ze9 M n ((x * 5+1) % M) (m ||| 2 ^ x)
theorem Xs {M j:Nat}:∀{n x m:Nat},(Ze9 M n x m).testBit j=true->m.testBit j=true\/∃k,k<n/\itf M k x=j
 | 0,x,m,h=>.inl h
 | n+1,x,m,h=>by
  rcases Xs (n:=n) h with z | ⟨k,h1,h2⟩
  ·rw [Nat.testBit_or,Bool.or_eq_true] at z;rcases z with z | z
   ·exact .inl z
   ·rw [Nat.testBit_two_pow,decide_eq_true_eq] at z;exact .inr ⟨0,by lia,z⟩
  ·exact .inr ⟨k+1,by lia,h2⟩
noncomputable def Xu (M:Nat):Bool:=Ze9 M M 0 0 == 2 ^ M-1 && itf M M 0 == 0
theorem ZgQ:Xu 8=true:=by decide +kernel
theorem ZdV:Xu 32=true:=by decide +kernel
theorem ZbZ:Xu 128=true:=by decide +kernel
theorem Zb0:Xu 512=true:=by decide +kernel
theorem Zu:Xu 2048=true:=by decide +kernel
theorem ZcH {M i j:Nat}(h:Xu M=true)(hi:i<M)(hj:j<M):∃k,k<M/\itf M k i=j:=by
 unfold Xu at h;rw [Ycg,Yaz,Yaz] at h;obtain ⟨h1,h2⟩:=h;have all:∀j,j<M->∃k,k<M/\itf M k 0=j:=λj hj=>by
  have z:(Ze9 M M 0 0).testBit j=true:=by rw [h1,Nat.testBit_two_pow_sub_one];exact Yba hj
  rcases Xs z with z | z
  ·simp at z
  ·exact z
 obtain ⟨a,ha,ea⟩:=all i hi;obtain ⟨b,hb,eb⟩:=all j hj;by_cases hab:a<=b
 ·refine ⟨b-a,by lia,?_⟩;rw [<-ea,<-Vl,Ycx hab];exact eb
 ·refine ⟨b+M-a,by lia,?_⟩;rw [<-ea,<-Vl,show a+(b+M-a)=M+b by lia,Vl,h2];exact eb
noncomputable def adv (mask:Nat)(p:SetTable.Probe):SetTable.Probe:=
 if p.more > 0 then { p with j:=p.j+1,more:=p.more-1 }
 else { p with j:=(SetTable.leap mask p.i p.perturb).1,more:=SetTable.runEnd mask (SetTable.leap mask p.i p.perturb).1-(SetTable.leap mask p.i p.perturb).1,i:=(SetTable.leap mask p.i p.perturb).1,perturb:=(SetTable.leap mask p.i p.perturb).2 }
theorem Zb1 (t:SetTable)(p:SetTable.Probe):t.advance p=adv t.mask p:=rfl
noncomputable def GH (mask:Nat):Nat->SetTable.Probe->SetTable.Probe
 | 0,p=>p
 | n+1,p=>GH mask n (adv mask p)
theorem GR (mask:Nat):∀(a b:Nat)(p:SetTable.Probe),GH mask (a+b) p=GH mask b (GH mask a p)
 | 0,b,p=>by rw [Ycw];rfl
 | a+1,b,p=>by rw [Nat.add_right_comm];exact GR mask a b _
theorem Wh (mask n:Nat)(p:SetTable.Probe):GH mask (n+1) p=adv mask (GH mask n p):=GR mask n 1 p
theorem Wi (mask:Nat)(p:SetTable.Probe):(adv mask p).dummy=p.dummy:=by
 unfold adv;split <;> rfl
theorem UV (mask:Nat):∀(n:Nat)(p:SetTable.Probe),(GH mask n p).dummy=p.dummy
 | 0,_=>rfl
 | n+1,p=>(UV mask n (adv mask p)).trans (Wi mask p)
noncomputable def rs (mask i pt:Nat):SetTable.Probe:={ j:=i,more:=SetTable.runEnd mask i-i,i:=i,perturb:=pt,dummy:=none }
noncomputable def st0 (mask:Nat)(h:Int):SetTable.Probe:=rs mask (SetTable.bits h % (mask+1)) (SetTable.bits h)
theorem ZdW (t:SetTable)(h:Int):t.probeStart h=st0 t.mask h:=rfl
theorem Ux {mask i:Nat}(h:i<=mask):SetTable.runEnd mask i<=mask:=by
 unfold SetTable.runEnd;split <;> lia
theorem Yi (mask i:Nat):SetTable.runEnd mask i-i<=9:=by
 unfold SetTable.runEnd;split <;> lia
theorem Uy (mask i:Nat):i<=SetTable.runEnd mask i:=by
 unfold SetTable.runEnd;split <;> lia
theorem J6 (mask i pt:Nat):∀k,k<=SetTable.runEnd mask i-i->GH mask k (rs mask i pt)={ j:=i+k,more:=SetTable.runEnd mask i-i-k,i:=i,perturb:=pt,dummy:=none }
 | 0,_=>rfl
 | k+1,h=>by
  rw [Wh,J6 mask i pt k (by lia)];unfold adv;rw [if_pos (by show SetTable.runEnd mask i-i-k > 0;lia)];show SetTable.Probe.mk _ _ _ _ _=_
  congr 1
theorem Oy (mask i pt:Nat):GH mask (SetTable.runEnd mask i-i+1) (rs mask i pt)=rs mask (SetTable.leap mask i pt).1 (SetTable.leap mask i pt).2:=by
 rw [Wh,J6 mask i pt _ (Yae _)];unfold adv;rw [if_neg (by show ¬ (SetTable.runEnd mask i-i-(SetTable.runEnd mask i-i) > 0);lia)]
 rfl
theorem UW (x mask:Nat):x % (mask+1)<=mask:=Nat.le_of_lt_succ (Nat.mod_lt _ (Nat.succ_pos _))
noncomputable def lps (mask:Nat):Nat->Nat×Nat->Nat×Nat
 | 0,x=>x
 | m+1,x=>lps mask m (SetTable.leap mask x.1 x.2)
theorem Zv (mask:Nat):∀(a b:Nat)(x:Nat×Nat),lps mask (a+b) x=lps mask b (lps mask a x)
 | 0,b,x=>by rw [Ycw];rfl
 | a+1,b,x=>by rw [Nat.add_right_comm];exact Zv mask a b _
theorem Xv (mask:Nat):∀(m:Nat)(x:Nat×Nat),∃n,n<=10 * m/\GH mask n (rs mask x.1 x.2)=rs mask (lps mask m x).1 (lps mask m x).2
 | 0,x=>⟨0,Yae _,rfl⟩
 | m+1,x=>by
  obtain ⟨n,h1,h2⟩:=Xv mask m (SetTable.leap mask x.1 x.2);refine ⟨SetTable.runEnd mask x.1-x.1+1+n,?_,?_⟩
  ·have:=Yi mask x.1
   lia
  ·rw [GR,Oy];exact h2
theorem Xw (mask:Nat):∀(m i:Nat),lps mask m (i,0)=(itf (mask+1) m i,0)
 | 0,i=>rfl
 | m+1,i=>by
  show lps mask m (SetTable.leap mask i 0)=_;have e:SetTable.leap mask i 0=((i * 5+1) % (mask+1),0):=by unfold SetTable.leap;simp
  rw [e];exact Xw mask m _
theorem Xx (mask:Nat):∀(m i b:Nat),(lps mask m (i,b)).2=b / 32 ^ m
 | 0,i,b=>by simp [lps]
 | m+1,i,b=>by
  show (lps mask m (SetTable.leap mask i b)).2=_;have e:SetTable.leap mask i b=((SetTable.leap mask i b).1,b / 32):=rfl;rw [e,Xx mask m _ _,Nat.div_div_eq_div_mul,Nat.pow_succ,Nat.mul_comm]
theorem Zb2 (mask:Nat):∀(m i b:Nat),i<=mask->(lps mask m (i,b)).1<=mask
 | 0,i,b,h=>h
 | m+1,i,b,h=>Zb2 mask m _ _ (UW _ _)
theorem ZcI (h:Int):SetTable.bits h<2 ^ 64:=by
 unfold SetTable.bits;have h1:=Ycd h (show (2 ^ 64:Int)≠0 by decide);have h2:=Yce h (show (0:Int)<2 ^ 64 by decide)
 lia
theorem Wj {mask j:Nat}(hc:Xu (mask+1)=true)(h:Int)(hj:j<=mask):∃m,m<mask+14/\(lps mask m (SetTable.bits h % (mask+1),SetTable.bits h)).1=j:=by
 have hb:=ZcI h;generalize SetTable.bits h=b at hb ⊢;have h13:(lps mask 13 (b % (mask+1),b)).2=0:=by
  rw [Xx];exact Nat.div_eq_of_lt (Nat.lt_trans hb (by decide))
 have hi:(lps mask 13 (b % (mask+1),b)).1<=mask:=Zb2 mask 13 _ _ (UW _ _);obtain ⟨k,hk,ek⟩:=ZcH hc (Nat.lt_succ_of_le hi) (Nat.lt_succ_of_le hj);refine ⟨13+k,by lia,?_⟩;rw [Zv];have e:lps mask 13 (b % (mask+1),b)=((lps mask 13 (b % (mask+1),b)).1,0):=by rw [<-h13]
 rw [e,Xw];exact ek
theorem Zw {mask j:Nat}(hc:Xu (mask+1)=true)(h:Int)(hj:j<=mask):∃n,n+10<10 * SetTable.turns mask/\(GH mask n (st0 mask h)).j=j:=by
 obtain ⟨m,hm,em⟩:=Wj hc h hj;obtain ⟨n,hn,en⟩:=Xv mask m (SetTable.bits h % (mask+1),SetTable.bits h);refine ⟨n,by unfold SetTable.turns;lia,?_⟩;show (GH mask n (rs mask _ _)).j=j;rw [en];exact em
theorem ZdX {mask:Nat}{p:SetTable.Probe}(h:p.j+p.more<=mask):(adv mask p).j+(adv mask p).more<=mask:=by
 unfold adv;split
 ·show p.j+1+(p.more-1)<=mask
  lia
 ·have h1:(SetTable.leap mask p.i p.perturb).1<=mask:=UW _ _;have h2:=Ux h1;have h3:=Uy mask (SetTable.leap mask p.i p.perturb).1;show (SetTable.leap mask p.i p.perturb).1+(SetTable.runEnd mask (SetTable.leap mask p.i p.perturb).1-(SetTable.leap mask p.i p.perturb).1)<=mask
  lia
theorem Zx {mask:Nat}:∀{n:Nat}{p:SetTable.Probe},p.j+p.more<=mask->(GH mask n p).j+(GH mask n p).more<=mask
 | 0,_,h=>h
 | n+1,p,h=>Zx (n:=n) (ZdX h)
theorem ZdY (mask:Nat)(h:Int):(st0 mask h).j+(st0 mask h).more<=mask:=by
 have h1:SetTable.bits h % (mask+1)<=mask:=UW _ _;have h2:=Ux h1;have h3:=Uy mask (SetTable.bits h % (mask+1));show SetTable.bits h % (mask+1)+(SetTable.runEnd mask (SetTable.bits h % (mask+1))-SetTable.bits h % (mask+1))<=mask
 lia
theorem Zy (mask n:Nat)(h:Int):(GH mask n (st0 mask h)).j<=mask:=by
 have:=Zx (n:=n) (ZdY mask h)
 lia
noncomputable def Rise (xs:Array Nat):Prop:=xs.toList.Pairwise (· < ·)
theorem Rise.lt {xs:Array Nat}(h:Rise xs){q r a b:Nat}(hqr:q<r)(ha:xs[q]?=some a)(hb:xs[r]?=some b):a<b:=by
 rw [<-Yaq] at ha hb;obtain ⟨h1,e1⟩:=Yau.mp ha;obtain ⟨h2,e2⟩:=Yau.mp hb;have:=List.pairwise_iff_getElem.mp h q r h1 h2 hqr;rw [e1,e2] at this;exact this
theorem Vm {xs:Array Nat}{j:Nat}(hr:Rise xs):∀(jQ lo hi:Nat),hi-lo<=jQ->lo<=hi->hi<=xs.size ->
  (∀q a,q<lo->xs[q]?=some a->a<j)->(∀q a,hi<=q->xs[q]?=some a->j<=a) ->
  SetTable.below.go xs j jQ lo hi<=xs.size/\(∀q a,q<SetTable.below.go xs j jQ lo hi->xs[q]?=some a->a<j)/\(∀q a,SetTable.below.go xs j jQ lo hi<=q->xs[q]?=some a->j<=a)
 | 0,lo,hi,h0,h1,h2,hl,hh=>by
  have e:hi=lo:=by lia
  subst e;exact ⟨h2,hl,hh⟩
 | jQ+1,lo,hi,h0,h1,h2,hl,hh=>by
  unfold SetTable.below.go;by_cases hlt:lo<hi
  ·rw [if_pos hlt];have hm:(lo+hi) / 2<xs.size:=by lia
   have em:xs[(lo+hi) / 2]?=some xs[(lo+hi) / 2]:=Yav hm;have ed:xs.getD ((lo+hi) / 2) j=xs[(lo+hi) / 2]:=by
    rw [Yel,em];rfl
   dsimp only;rw [ed];by_cases hc:xs[(lo+hi) / 2]<j
   ·rw [if_pos hc];refine Vm hr jQ _ _ (by lia) (by lia) h2 (λq a hq ha=>?_) hh;by_cases hq':q=(lo+hi) / 2
    ·rw [hq',em] at ha;cases ha;exact hc
    ·exact Nat.lt_trans (hr.lt (by lia) ha em) hc
   ·rw [if_neg hc];refine Vm hr jQ _ _ (by lia) (by lia) (by lia) hl (λq a hq ha=>?_);by_cases hq':q=(lo+hi) / 2
    ·rw [hq',em] at ha;cases ha;lia
    ·have:=hr.lt (show (lo+hi) / 2<q by lia) em ha
     lia
  ·rw [if_neg hlt];have e:hi=lo:=by lia
   subst e;exact ⟨h2,hl,hh⟩
theorem OR {xs:Array Nat}{j:Nat}(hr:Rise xs):SetTable.below xs j<=xs.size/\(∀q a,q<SetTable.below xs j->xs[q]?=some a->a<j)/\(∀q a,SetTable.below xs j<=q->xs[q]?=some a->j<=a):=by
 unfold SetTable.below;refine Vm hr xs.size 0 xs.size (by lia) (by lia) (Yae _) (λq a hq=>absurd hq (Yds _)) λq a hq ha=>?_;rw [Yfi hq] at ha;cases ha
theorem Uk {xs:Array Nat}{i j:Nat}(hr:Rise xs)(h:xs[i]?=some j):SetTable.below xs j=i:=by
 obtain ⟨h1,h2,h3⟩:=OR (j:=j) hr;rcases Nat.lt_trichotomy (SetTable.below xs j) i with z | z | z
 ·have hs:SetTable.below xs j<xs.size:=by
   have:=(Array.getElem?_eq_some_iff.mp h).1
   lia
  have:=hr.lt z (Yav hs) h;have:=h3 _ _ (Yae _) (Yav hs)
  lia
 ·exact z
 ·have:=h2 i j z h
  lia
theorem Yj (t:SetTable)(hr:Rise t.place)(hd:t.dummies=#[])(j:Nat):(t.slot j=.empty/\j ∉ t.place.toList)\/∃i,t.slot j=.live i/\t.place[i]?=some j:=by
 unfold SetTable.slot;dsimp only;by_cases h:t.place[SetTable.below t.place j]?=some j
 ·refine .inr ⟨SetTable.below t.place j,?_,h⟩;rw [if_pos (by rw [h];exact Yex _)]
 ·refine .inl ⟨?_,λhm=>?_⟩
  ·rw [if_neg (by rw [Yaz];exact h),hd];have e:SetTable.has #[] j=false:=by unfold SetTable.has;simp
   rw [e]
   rfl
  ·obtain ⟨i,hi,e⟩:=Ydd hm;have e':t.place[i]?=some j:=by
    rw [<-Yaq,Ybd hi,e]
   rw [Uk hr e'] at h;exact h e'
theorem Zz (t:SetTable)(hr:Rise t.place){i j:Nat}(h:t.place[i]?=some j):t.slot j=.live i:=by
 unfold SetTable.slot;dsimp only;rw [Uk hr h,if_pos (by rw [h];exact Yex _)]
theorem JH {xs:Array Nat}{i j:Nat}(h:xs[i]?=some j):j∈xs.toList:=by
 rw [<-Yaq] at h;exact Ybg h
section
variable {t:SetTable}{ha:Nat->Int}{h:Int}
theorem ZA (hr:Rise t.place)(hd:t.dummies=#[]):∀(F:Nat)(p:SetTable.Probe),(∃n,n<F/\(GH t.mask n p).j ∉ t.place.toList) ->
  (∃n,SetTable.probe.go t ha h F p=some (.empty (GH t.mask n p).j p.dummy)/\(GH t.mask n p).j ∉ t.place.toList/\∀q,q<n->∃i,t.place[i]?=some (GH t.mask q p).j/\ha i≠h) \/
  (∃n i,SetTable.probe.go t ha h F p=some (.candidate (GH t.mask n p).j i (GH t.mask (n+1) p))/\t.place[i]?=some (GH t.mask n p).j/\ha i=h/\∀q,q<n->∃i,t.place[i]?=some (GH t.mask q p).j/\ha i≠h)
 | 0,p,⟨n,hn,_⟩=>absurd hn (Yds _)
 | F+1,p,⟨n,hn,hf⟩=>by
  rcases Yj t hr hd p.j with ⟨e,hm⟩ | ⟨i,e,hi⟩
  ·refine .inl ⟨0,?_,hm,λq hq=>absurd hq (Yds _)⟩;unfold SetTable.probe.go;rw [e]
   rfl
  ·by_cases hh:ha i=h
   ·refine .inr ⟨0,i,?_,hi,hh,λq hq=>absurd hq (Yds _)⟩;unfold SetTable.probe.go;rw [e];dsimp only;rw [if_pos (by rw [hh];exact Yex _),Zb1]
    rfl
   ·have hs:SetTable.probe.go t ha h (F+1) p=SetTable.probe.go t ha h F (adv t.mask p):=by
     rw [SetTable.probe.go,e];dsimp only;rw [if_neg (by rw [Yaz];exact hh),Zb1]
    cases n with
    | zero=>exact absurd (JH hi) hf
    | succ n=>
     rw [hs];rcases ZA hr hd F (adv t.mask p) ⟨n,by lia,hf⟩ with ⟨m,g1,g2,g3⟩ | ⟨m,i',g1,g2,g3,g4⟩
     ·refine .inl ⟨m+1,?_,g2,λq hq=>?_⟩
      ·rw [g1,Wi];rfl
      ·cases q with
       | zero=>exact ⟨i,hi,hh⟩
       | succ q=>exact g3 q (by lia)
     ·refine .inr ⟨m+1,i',g1,g2,g3,λq hq=>?_⟩;cases q with
      | zero=>exact ⟨i,hi,hh⟩
      | succ q=>exact g4 q (by lia)
theorem UX {mask:Nat}{l:List Nat}(h:l.length<=mask):∃j,j<=mask/\j ∉ l:=by
 apply Classical.byContradiction;intro hn;have hs:List.range (mask+1) ⊆ l:=λj hj=>Classical.byContradiction λhm=>hn ⟨j,by have:=Ycr.mp hj;lia,hm⟩;have:=Yde List.nodup_range hs;rw [List.length_range] at this
 lia
end
theorem isN {ow:Array (Option Nat)}{x:Nat}(hx:x<ow.size):(ow.getD x (some 0)).isNone=true↔ow[x]?=some none:=by
 rw [Yel,Yav hx];show ow[x].isNone=true↔some ow[x]=some none;cases ow[x] <;> simp
theorem Wl {mask:Nat}{ow:Array (Option Nat)}(hz:ow.size=mask+1):∀(F i pt:Nat),i<=mask ->
  (∃m,m<F/\ow[(lps mask m (i,pt)).1]?=some none) ->
  ∃n,SetTable.layClean.free mask ow F i pt=some (GH mask n (rs mask i pt)).j/\ow[(GH mask n (rs mask i pt)).j]?=some none/\∀q,q<n->ow[(GH mask q (rs mask i pt)).j]?≠some none
 | 0,i,pt,_,⟨m,hm,_⟩=>absurd hm (Yds _)
 | F+1,i,pt,hi,⟨m,hm,em⟩=>by
  have hre:=Ux hi;have hrg:=Uy mask i;unfold SetTable.layClean.free;cases hf:List.find? (λk=>(ow.getD (i+k) (some 0)).isNone) (List.range (SetTable.runEnd mask i+1-i)) with
  | some k=>
   obtain ⟨p1,p2,p3⟩:=List.find?_range_eq_some.mp hf;have hk:=Ycr.mp p2;refine ⟨k,?_,?_,λq hq=>?_⟩
   ·rw [J6 mask i pt k (by lia)]
   ·rw [J6 mask i pt k (by lia)];show ow[i+k]?=some none;exact (isN (by lia)).mp p1
   ·rw [J6 mask i pt q (by lia)];show ow[i+q]?≠some none;intro z;have h1:=p3 q hq;rw [(isN (by lia)).mpr z] at h1;cases h1
  | none=>
   have qK:=List.find?_eq_none.mp hf;have hno:∀q,q<=SetTable.runEnd mask i-i->ow[i+q]?≠some none:=λq hq z=>qK q (Ycr.mpr (by lia)) ((isN (by lia)).mpr z);cases m with
   | zero=>exact absurd em (hno 0 (Yao _))
   | succ m=>
    obtain ⟨n,g1,g2,g3⟩:=Wl hz F (SetTable.leap mask i pt).1 (SetTable.leap mask i pt).2 (UW _ _) ⟨m,by lia,em⟩;refine ⟨SetTable.runEnd mask i-i+1+n,?_,?_,λq hq=>?_⟩
    ·rw [GR,Oy];exact g1
    ·rw [GR,Oy];exact g2
    ·by_cases hq':q<=SetTable.runEnd mask i-i
     ·rw [J6 mask i pt q hq'];exact hno q hq'
     ·have e:q=SetTable.runEnd mask i-i+1+(q-(SetTable.runEnd mask i-i+1)):=by lia
      rw [e,GR,Oy];exact g3 _ (by lia)
noncomputable def Xy (mask:Nat)(acc:Option (Array (Option Nat)×Nat))(h:Int):Option (Array (Option Nat)×Nat):=
 acc.bind λx=>(SetTable.layClean.free mask x.1 (SetTable.turns mask) (SetTable.bits h % (mask+1)) (SetTable.bits h)).bind λj=>some (x.1.setIfInBounds j (some x.2),x.2+1)
theorem Vn (mask:Nat)(qY:Array Int):SetTable.layClean mask qY=(qY.toList.foldl (Xy mask) (some (Array.replicate (mask+1) none,0))).map (·.1):=by
 unfold SetTable.layClean;rw [Array.foldl_toList]
 rfl
structure Lc (mask:Nat)(ow:Array (Option Nat))(js:List Nat)(hs:List Int):Prop where
 sz:ow.size=mask+1
 len:js.length=hs.length
 at_:∀(q j:Nat),js[q]?=some j↔ow[j]?=some (some q)
 rch:∀(q:Nat)(h:Int)(j:Nat),hs[q]?=some h->js[q]?=some j->∃n,(GH mask n (st0 mask h)).j=j/\∀r,r<n->ow[(GH mask r (st0 mask h)).j]?≠some none
theorem Lc.nil (mask:Nat):Lc mask (Array.replicate (mask+1) none) [] []:=
 ⟨Array.size_replicate,rfl,λq j=>⟨λz=>by simp at z,λz=>by
  rw [Array.getElem?_replicate] at z;split at z <;> simp at z⟩,λq h j z=>by simp at z⟩
theorem Lc.step {mask:Nat}{ow:Array (Option Nat)}{js:List Nat}{hs:List Int}(L:Lc mask ow js hs)(hc:Xu (mask+1)=true)(hl:hs.length<=mask)(h:Int) :
  ∃j,Xy mask (some (ow,hs.length)) h=some (ow.setIfInBounds j (some hs.length),hs.length+1)/\Lc mask (ow.setIfInBounds j (some hs.length)) (js++[j]) (hs++[h]):=by
 have hjl:=L.len;obtain ⟨j0,hj0,hn0⟩:=UX (mask:=mask) (l:=js) (by lia);have e0:ow[j0]?=some none:=by
  have hs0:j0<ow.size:=by rw [L.sz];lia
  rw [Yav hs0];cases q:ow[j0] with
  | none=>rfl
  | some k=>
   exact absurd (Ybg ((L.at_ k j0).mpr (by rw [Yav hs0,q]))) hn0
 obtain ⟨m,hm,em⟩:=Wj hc h hj0;obtain ⟨n,g1,g2,g3⟩:=Wl L.sz (SetTable.turns mask) (SetTable.bits h % (mask+1)) (SetTable.bits h) (UW _ _) ⟨m,by unfold SetTable.turns;lia,by rw [em];exact e0⟩;have est:rs mask (SetTable.bits h % (mask+1)) (SetTable.bits h)=st0 mask h:=rfl;rw [est] at g1 g2 g3;have hjlt:(GH mask n (st0 mask h)).j<ow.size:=by rw [L.sz];have:=Zy mask n h;lia
 refine ⟨(GH mask n (st0 mask h)).j,?_,?_⟩
 ·unfold Xy;rw [Option.bind_some,g1]
  rfl
 ·generalize hj:(GH mask n (st0 mask h)).j=j at g2 hjlt ⊢;have hget:∀x,(ow.setIfInBounds j (some hs.length))[x]?=if j=x then some (some hs.length) else ow[x]?:=λx=>by
   rw [Array.getElem?_setIfInBounds,if_pos hjlt]
  have hjs:j ∉ js:=λhm=>by
   obtain ⟨q,hq,e⟩:=Ydd hm;have:=(L.at_ q j).mp (by rw [Ybd hq,e]);rw [g2] at this;cases this
  have occ:∀x,ow[x]?≠some none->(ow.setIfInBounds j (some hs.length))[x]?≠some none:=λx hx=>by
   rw [hget];split
   ·simp
   ·exact hx
  refine ⟨by rw [Array.size_setIfInBounds];exact L.sz,by simp [hjl],λq x=>?_,λq g x e1 e2=>?_⟩
  ·rw [hget];by_cases hq:q<js.length
   ·rw [Ydc hq];by_cases hx:j=x
    ·rw [if_pos hx];constructor
     ·intro z;exact absurd (hx▸Ybg z) hjs
     ·intro z;have:hs.length=q:=by simpa using z
      lia
    ·rw [if_neg hx];exact L.at_ q x
   ·rw [Ydn (by lia)];by_cases hx:j=x
    ·rw [if_pos hx];by_cases hq':q=js.length
     ·subst hq';simp [hx,hjl]
     ·constructor
      ·intro z;have:([j]:List Nat)[q-js.length]?=none:=List.getElem?_eq_none (by simp;lia);rw [this] at z;cases z
      ·intro z;have:hs.length=q:=by simpa using z
       lia
    ·rw [if_neg hx];constructor
     ·intro z;have:=Ybg z;simp at this;exact absurd this.symm hx
     ·intro z;have:=(L.at_ q x).mpr z;rw [List.getElem?_eq_none (by lia)] at this;cases this
  ·by_cases hq:q<hs.length
   ·rw [Ydc hq] at e1;rw [Ydc (by lia)] at e2;obtain ⟨n',r1,r2⟩:=L.rch q g x e1 e2;exact ⟨n',r1,λr hr=>occ _ (r2 r hr)⟩
   ·rw [Ydn (by lia)] at e1 e2;have h1:=Ybg e1;have h2:=Ybg e2;simp at h1 h2;subst h1 h2;exact ⟨n,hj,λr hr=>occ _ (g3 r hr)⟩
theorem ZB {mask:Nat}(hc:Xu (mask+1)=true):∀(rest:List Int)(ow:Array (Option Nat))(js:List Nat)(hs:List Int),Lc mask ow js hs->hs.length+rest.length<=mask ->
  ∃ow' js',rest.foldl (Xy mask) (some (ow,hs.length))=some (ow',(hs++rest).length)/\Lc mask ow' js' (hs++rest)
 | [],ow,js,hs,L,_=>⟨ow,js,by simp,by simpa using L⟩
 | h::rest,ow,js,hs,L,hl=>by
  rw [Ybn] at hl;obtain ⟨j,e,L'⟩:=L.step hc (by lia) h;obtain ⟨ow',js',e',L''⟩:=ZB hc rest _ _ (hs++[h]) L' (by simp;lia);refine ⟨ow',js',?_,by simpa using L''⟩;rw [List.foldl_cons,e];have qV:(hs++[h]).length=hs.length+1:=by simp
  rw [qV] at e';rw [e'];simp
theorem O1 {α β:Type}(f:α->Option β):∀(l:List α),(∀x∈l,(f x).isSome=true)->∀r:Nat,(l.filterMap f)[r]?=(l[r]?).bind f
 | [],_,r=>by simp
 | x::l,h,r=>by
  obtain ⟨y,hy⟩:=Option.isSome_iff_exists.mp (h x (Ybe));rw [List.filterMap_cons_some hy];cases r with
  | zero=>simp [hy]
  | succ r=>
   rw [Yey,Yey];exact O1 f l (λz hz=>h z (Ybb _ hz)) r
structure ZgR (t:SetTable)(od:Array Nat)(mask finger moves:Nat)(led plain:Bool)(qY:Array Int):Prop where
 tm:t.mask=mask
 tl:t.led=led
 tp:t.plain=plain
 td:t.dummies=#[]
 rise:Rise t.place
 le:∀j∈t.place.toList,j<=mask
 perm:od.toList.Perm (List.range qY.size)
 sz:t.place.size=qY.size
 rch:∀(r q j:Nat)(h:Int),od[r]?=some q->t.place[r]?=some j->qY[q]?=some h->∃n,(GH mask n (st0 mask h)).j=j/\∀r',r'<n->(GH mask r' (st0 mask h)).j∈t.place.toList
theorem ZC {mask:Nat}(hc:Xu (mask+1)=true)(finger moves:Nat)(led plain:Bool)(qY:Array Int)(hz:qY.size<=mask) :
  ∃t od,SetTable.laid mask finger moves led plain qY=some (t,od)/\ZgR t od mask finger moves led plain qY:=by
 obtain ⟨ow,js,e,L⟩:=ZB hc qY.toList _ [] [] (Lc.nil mask) (by simpa using hz);simp only [List.nil_append,List.length_nil] at e L;have hn:js.length=qY.size:=by rw [L.len,Yai]
 have e':SetTable.layClean mask qY=some ow:=by rw [Vn,e];rfl
 generalize hlive:(List.range (mask+1)).filterMap (λj=>(ow.getD j none).map (j,·))=live;have mem:∀j q,(j,q)∈live↔j<=mask/\ow[j]?=some (some q):=by
  intro j q;rw [<-hlive,Yct];constructor
  ·rintro ⟨a,ha,hb⟩;have ha':=Ycr.mp ha;have hs':a<ow.size:=by rw [L.sz];lia
   rw [Yel,Yav hs'] at hb;cases hq:ow[a] with
   | none=>rw [hq] at hb;cases hb
   | some k=>
    rw [hq] at hb;have hb':(a,k)=(j,q):=Ybl hb;cases hb';exact ⟨by lia,by rw [Yav hs',hq]⟩
  ·rintro ⟨h1,h2⟩;refine ⟨j,Ycr.mpr (by lia),?_⟩;rw [Yel,h2]
   rfl
 have pw1:(live.map (·.1)).Pairwise (· < ·):=by
  rw [Yby,<-hlive];refine List.Pairwise.filterMap (R:=(· < ·)) _ (λa a' haa b hb b' hb'=>?_) List.pairwise_lt_range;obtain ⟨x,_,rfl⟩:=Ybt.mp hb;obtain ⟨x',_,rfl⟩:=Ybt.mp hb';exact haa
 have pw2:(live.map (·.2)).Nodup:=by
  unfold List.Nodup;rw [Yby];have:=List.Pairwise.and_mem.mp (Yby.mp pw1);refine this.imp λ{a b} hab z=>?_;obtain ⟨ha,hb,hlt⟩:=hab;have h1:=(L.at_ a.2 a.1).mpr ((mem a.1 a.2).mp ha).2;have h2:=(L.at_ b.2 b.1).mpr ((mem b.1 b.2).mp hb).2;rw [z,h2] at h1;have:=Ybl h1
  lia
 have hperm:(live.map (·.2)).Perm (List.range qY.size):=by
  refine (List.perm_ext_iff_of_nodup pw2 List.nodup_range).mpr λq=>?_;rw [Ycr,Yar];constructor
  ·rintro ⟨⟨j,q'⟩,hm,rfl⟩;have h1:=(L.at_ q' j).mpr ((mem j q').mp hm).2;have:=(Yau.mp h1).1;show q'<_
   lia
  ·intro hq;have hq':q<js.length:=by lia
   have h1:=(L.at_ q js[q]).mp (Ybd hq');have h2:=(Array.getElem?_eq_some_iff.mp h1).1;rw [L.sz] at h2;exact ⟨(js[q],q),(mem _ _).mpr ⟨by lia,h1⟩,rfl⟩
 refine ⟨_,_,by unfold SetTable.laid;rw [e'];rfl,rfl,rfl,rfl,rfl,?_,?_,?_,?_,?_⟩
 ·unfold Rise;dsimp only;rw [hlive];exact pw1
 ·dsimp only;rw [hlive];intro j hj;obtain ⟨⟨a,q⟩,hm,rfl⟩:=Yar.mp (show j∈live.map (·.1) from hj);exact ((mem a q).mp hm).1
 ·dsimp only;rw [hlive];exact hperm
 ·dsimp only;rw [hlive,Yan,Yad];have:=hperm.length_eq;rw [Yad,List.length_range] at this;exact this
 ·dsimp only;rw [hlive];intro r q j h e1 e2 e3;rw [List.getElem?_toArray,Ybk] at e1 e2;cases hl:live[r]? with
  | none=>rw [hl] at e1;cases e1
  | some x=>
   rw [hl] at e1 e2;have e1':x.2=q:=Ybl e1;have e2':x.1=j:=Ybl e2;subst e1' e2';have h1:=(L.at_ x.2 x.1).mpr ((mem x.1 x.2).mp (Ybg hl)).2;obtain ⟨n,r1,r2⟩:=L.rch x.2 h x.1 (by rw [Yaq];exact e3) h1;refine ⟨n,r1,λr' hr'=>?_⟩;have h2:=r2 r' hr';have hle:=Zy mask r' h;have hs':(GH mask r' (st0 mask h)).j<ow.size:=by rw [L.sz];lia
   rw [Yav hs'] at h2;cases hq:ow[(GH mask r' (st0 mask h)).j] with
   | none=>rw [hq] at h2;exact absurd rfl h2
   | some k=>
    show _∈live.map (·.1);exact Yar.mpr ⟨(_,k),(mem _ _).mpr ⟨hle,by rw [Yav hs',hq]⟩,rfl⟩
noncomputable def ins {α:Type}(l:List α)(p:Nat)(x:α):List α:=l.take p++x::l.drop p
theorem Xz {α:Type}{l:List α}{p:Nat}{x:α}(hp:p<=l.length)(i:Nat):(ins l p x)[i]?=if i<p then l[i]? else if i=p then some x else l[i-1]?:=by
 unfold ins;have hl:(l.take p).length=p:=by rw [Ybs];lia
 by_cases h:i<p
 ·rw [if_pos h,Ydc (by lia),Yem,if_pos h]
 ·rw [if_neg h,Ydn (by lia),hl];by_cases h':i=p
  ·subst h';simp
  ·rw [if_neg h'];have e:i-p=(i-p-1)+1:=by lia
   rw [e,Yey,Yen]
   congr 1
   lia
theorem Vo {α:Type}{l:List α}{p:Nat}{x:α}(hp:p<=l.length):(ins l p x).length=l.length+1:=by
 unfold ins;simp
 lia
theorem ZcJ {α β:Type}(f:α->β)(l:List α)(p:Nat)(x:α):(ins l p x).map f=ins (l.map f) p (f x):=by
 unfold ins;simp
theorem ins_mem {α:Type}{l:List α}{p:Nat}{x y:α}:y∈ins l p x↔y=x\/y∈l:=by
 unfold ins;rw [Yal,Yat];constructor
 ·rintro (h | h | h)
  ·exact .inr (List.mem_of_mem_take h)
  ·exact .inl h
  ·exact .inr (List.mem_of_mem_drop h)
 ·rintro (h | h)
  ·exact .inr (.inl h)
  ·rw [<-Ydf p l,Yal] at h;rcases h with h | h
   ·exact .inl h
   ·exact .inr (.inr h)
structure TOk (t:SetTable)(hs:List Int):Prop where
 mask:t.mask=7\/t.mask=31\/t.mask=127\/t.mask=511\/t.mask=2047
 dum:t.dummies=#[]
 len:t.place.size=hs.length
 rise:Rise t.place
 le:∀j∈t.place.toList,j<=t.mask
 rch:∀(i:Nat)(h:Int)(j:Nat),hs[i]?=some h->t.place[i]?=some j->∃n,(GH t.mask n (st0 t.mask h)).j=j/\∀q,q<n->(GH t.mask q (st0 t.mask h)).j∈t.place.toList
theorem TOk.cov {t:SetTable}{hs:List Int}(T:TOk t hs):Xu (t.mask+1)=true:=by
 rcases T.mask with e | e | e | e | e <;> rw [e]
 ·exact ZgQ
 ·exact ZdV
 ·exact ZbZ
 ·exact Zb0
 ·exact Zu
theorem TOk.fill {t:SetTable}{hs:List Int}(T:TOk t hs):t.fill=hs.length:=by
 unfold SetTable.fill;rw [T.dum,T.len]
 rfl
theorem TOk.fits {t:SetTable}{hs:List Int}(T:TOk t hs)(h:hs.length<=t.mask):t.fits hs.length=true:=by
 unfold SetTable.fits;rw [Ycg,Yaz,decide_eq_true_eq,T.fill];exact ⟨T.len,h⟩
theorem TOk.odd {t:SetTable}{hs:List Int}(T:TOk t hs):t.gaveWay=false:=by
 unfold SetTable.gaveWay;rcases T.mask with e | e | e | e | e <;> rw [e] <;> rfl
theorem TOk.fresh (f m:Nat)(led:Bool):TOk (SetTable.fresh f m led) []:=
 ⟨.inl rfl,rfl,rfl,List.Pairwise.nil,λj hj=>by simp [SetTable.fresh] at hj,λi h j e=>by simp at e⟩
theorem TOk.empty {t:SetTable}{hs:List Int}(T:TOk t hs)(hl:hs.length<=t.mask)(h:Int):∃n,n+10<10 * SetTable.turns t.mask/\(GH t.mask n (st0 t.mask h)).j ∉ t.place.toList:=by
 obtain ⟨j,h1,h2⟩:=UX (mask:=t.mask) (l:=t.place.toList) (by rw [Yai,T.len];exact hl);obtain ⟨n,h3,h4⟩:=Zw T.cov h h1;exact ⟨n,h3,by rw [h4];exact h2⟩
theorem ZfQ {t:SetTable}{j:Nat}:(t.put j).2=SetTable.below t.place j:=rfl
theorem JW {t:SetTable}{j:Nat}:(t.put j).1.place.toList=ins t.place.toList (SetTable.below t.place j) j:=by
 show (SetTable.insertAt t.place (SetTable.below t.place j) j).toList=_;rw [SetTable.toList_insertAt]
 rfl
theorem TOk.put {t:SetTable}{hs:List Int}(T:TOk t hs){h:Int}{n:Nat}(hn:(GH t.mask n (st0 t.mask h)).j ∉ t.place.toList)(hr:∀q,q<n->(GH t.mask q (st0 t.mask h)).j∈t.place.toList) :
  SetTable.below t.place (GH t.mask n (st0 t.mask h)).j<=hs.length/\TOk (t.put (GH t.mask n (st0 t.mask h)).j).1 (ins hs (SetTable.below t.place (GH t.mask n (st0 t.mask h)).j) h):=by
 have hle:=Zy t.mask n h;generalize hj:(GH t.mask n (st0 t.mask h)).j=j at hn hle ⊢;obtain ⟨b1,b2,b3⟩:=OR (j:=j) T.rise;have hb:SetTable.below t.place j<=hs.length:=by rw [<-T.len];exact b1
 have hb':SetTable.below t.place j<=t.place.toList.length:=by rw [Yai];exact b1
 have pm:∀x,x∈t.place.toList->x∈(t.put j).1.place.toList:=λx hx=>by rw [JW];exact ins_mem.mpr (.inr hx)
 refine ⟨hb,T.mask,?_,?_,?_,λx hx=>?_,λi g x e1 e2=>?_⟩
 ·show (if SetTable.has t.dummies j=true then SetTable.eraseAt t.dummies (SetTable.below t.dummies j) else t.dummies)=#[];rw [T.dum];have e:SetTable.has #[] j=false:=by unfold SetTable.has;simp
  rw [e]
  rfl
 ·rw [Vo hb,<-Yai,JW,Vo hb',Yai,T.len]
 ·unfold Rise;rw [JW];unfold ins;rw [Ybu];refine ⟨List.Pairwise.sublist (List.take_sublist _ _) T.rise,?_,λa ha b hb2=>?_⟩
  ·refine Yeb.mpr ⟨λb hb2=>?_,List.Pairwise.sublist (List.drop_sublist _ _) T.rise⟩;obtain ⟨k,hk,e⟩:=Ydd hb2;rw [List.getElem_drop] at e;rw [Ydx] at hk;have e':t.place[SetTable.below t.place j+k]?=some b:=by
    rw [<-Yaq,Ybd (by lia),e]
   have h1:=b3 _ _ (Nat.le_add_right _ _) e';have h2:j≠b:=λz=>hn (z▸JH e')
   lia
  ·have hlt:a<j:=by
    obtain ⟨k,hk,e⟩:=Ydd ha;rw [List.getElem_take] at e;rw [Ybs] at hk;have e':t.place[k]?=some a:=by rw [<-Yaq,Ybd (by lia),e]
    exact b2 k a (by lia) e'
   rcases Yat.mp hb2 with rfl | hb2
   ·exact hlt
   ·obtain ⟨k,hk,e⟩:=Ydd hb2;rw [List.getElem_drop] at e;rw [Ydx] at hk;have e':t.place[SetTable.below t.place j+k]?=some b:=by
     rw [<-Yaq,Ybd (by lia),e]
    have h1:=b3 _ _ (Nat.le_add_right _ _) e'
    lia
 ·rw [JW] at hx;rcases ins_mem.mp hx with rfl | hx
  ·exact hle
  ·exact T.le x hx
 ·rw [<-Yaq,JW,Xz hb'] at e2;rw [Xz hb] at e1;by_cases c1:i<SetTable.below t.place j
  ·rw [if_pos c1] at e1 e2;obtain ⟨m,r1,r2⟩:=T.rch i g x e1 (by rw [<-Yaq];exact e2);exact ⟨m,r1,λq hq=>pm _ (r2 q hq)⟩
  ·rw [if_neg c1] at e1 e2;by_cases c2:i=SetTable.below t.place j
   ·rw [if_pos c2] at e1 e2;cases e1;cases e2;exact ⟨n,hj,λq hq=>pm _ (hr q hq)⟩
   ·rw [if_neg c2] at e1 e2;obtain ⟨m,r1,r2⟩:=T.rch (i-1) g x e1 (by rw [<-Yaq];exact e2);exact ⟨m,r1,λq hq=>pm _ (r2 q hq)⟩
noncomputable abbrev Za6 (es:Array (Int×Value)):List Int:=es.toList.map (·.1)
structure SOk (t:SetTable)(es:Array (Int×Value)):Prop where
 T:TOk t (Za6 es)
 room:es.size * 5<t.mask * 3
theorem Jf (es:Array (Int×Value)):(Za6 es).length=es.size:=by rw [Yad,Yai]
theorem SOk.le {t:SetTable}{es:Array (Int×Value)}(S:SOk t es):(Za6 es).length<=t.mask:=by
 have:=S.room;rw [Jf]
 lia
theorem SOk.fits {t:SetTable}{es:Array (Int×Value)}(S:SOk t es):t.fits es.size=true:=by
 have:=S.T.fits S.le;rw [Jf] at this;exact this
theorem SOk.fresh (f m:Nat)(led:Bool):SOk (SetTable.fresh f m led) #[]:=⟨TOk.fresh f m led,by show 0 * 5<7 * 3;decide⟩
theorem WJ (es:Array (Int×Value))(p:Nat)(h:Int)(x:Value):Za6 (SetTable.insertAt es p (h,x))=ins (Za6 es) p h:=by
 unfold Za6;rw [SetTable.toList_insertAt];exact ZcJ (·.1) es.toList p (h,x)
theorem Vp (es:Array (Int×Value))(p:Nat)(x:Int×Value):(SetTable.insertAt es p x).size=es.size+1:=by
 rw [<-Yai,(SetTable.insertAt_perm es p x).length_eq,Yai,Ych]
theorem SOk.put {t:SetTable}{es:Array (Int×Value)}(S:SOk t es){h:Int}{n:Nat}(x:Value)(hn:(GH t.mask n (st0 t.mask h)).j ∉ t.place.toList)(hr:∀q,q<n->(GH t.mask q (st0 t.mask h)).j∈t.place.toList) :
  TOk (t.put (GH t.mask n (st0 t.mask h)).j).1 (Za6 (SetTable.insertAt es (t.put (GH t.mask n (st0 t.mask h)).j).2 (h,x)))/\(t.put (GH t.mask n (st0 t.mask h)).j).1.fits (es.size+1)=true:=by
 obtain ⟨h1,h2⟩:=S.T.put hn hr;rw [ZfQ,WJ];refine ⟨h2,?_⟩;have h3:=h2.fits (by rw [Vo h1,Jf];show es.size+1<=t.mask;have:=S.room;rcases S.T.mask with e | e | e | e | e <;> lia);rw [Vo h1,Jf] at h3;exact h3
theorem Wm {es:Array (Int×Value)}{od:Array Nat}(h:od.toList.Perm (List.range es.size))(r:Nat):(od.filterMap (es[·]?))[r]?=(od[r]?).bind (es[·]?):=by
 rw [<-Yaq,Array.toList_filterMap,O1 _ _ (λx hx=>?_),Yaq];have:=Ycr.mp (h.mem_iff.mp hx);rw [Yav this]
 rfl
theorem JF {es:Array (Int×Value)}{od:Array Nat}(h:od.toList.Perm (List.range es.size)):(od.filterMap (es[·]?)).toList.Perm es.toList:=by
 rw [Array.toList_filterMap];exact (h.filterMap _).trans (by rw [PySem.filterMap_getElem?_range])
theorem Za7 {t:SetTable}{es:Array (Int×Value)}(T:TOk t (Za6 es))(hn:es.size=5/\t.mask=7\/es.size=19/\t.mask=31\/es.size=77/\t.mask=127\/es.size=307/\t.mask=511) :
  ∃t2 od,t.relaid (es.map (·.1)) (SetTable.grown es.size)=some (t2,od)/\od.toList.Perm (List.range es.size)/\SOk t2 (od.filterMap (es[·]?))/\t2.led=t.led/\t2.plain=t.plain/\SetTable.sizeAbove (SetTable.grown es.size)<=2048:=by
 have hsz:(es.map (·.1)).size=es.size:=Array.size_map;have hm:∃m,SetTable.sizeAbove (SetTable.grown es.size)-1=m/\(m=31\/m=127\/m=511\/m=2047)/\es.size * 5<m * 3/\SetTable.sizeAbove (SetTable.grown es.size)<=2048:=by
  rcases hn with ⟨e,_⟩ | ⟨e,_⟩ | ⟨e,_⟩ | ⟨e,_⟩ <;> rw [e]
  ·exact ⟨31,by decide,.inl rfl,by decide,by decide⟩
  ·exact ⟨127,by decide,.inr (.inl rfl),by decide,by decide⟩
  ·exact ⟨511,by decide,.inr (.inr (.inl rfl)),by decide,by decide⟩
  ·exact ⟨2047,by decide,.inr (.inr (.inr rfl)),by decide,by decide⟩
 obtain ⟨m,e,hmm,jJ,h128⟩:=hm;have hc:Xu (m+1)=true:=by
  rcases hmm with rfl | rfl | rfl | rfl
  ·exact ZdV
  ·exact ZbZ
  ·exact Zb0
  ·exact Zu
 obtain ⟨t2,od,e2,L⟩:=ZC hc t.finger (t.movedTo m) t.led t.plain (es.map (·.1)) (by rw [hsz];lia);have hp:=L.perm;rw [hsz] at hp;refine ⟨t2,od,by unfold SetTable.relaid;rw [e];exact e2,hp,⟨⟨by rw [L.tm];exact .inr hmm,L.td,?_,L.rise,by rw [L.tm];exact L.le,λi h j e1 e3=>?_⟩,?_⟩,L.tl,L.tp,h128⟩
 ·rw [L.sz,hsz,Jf];have:=(JF hp).length_eq;rw [Yai,Yai] at this;exact this.symm
 ·rw [L.tm];have e1':((od[i]?).bind (es[·]?)).map (·.1)=some h:=by
   rw [<-Wm hp,<-Yaq,<-Ybk];exact e1
  cases hq:od[i]? with
  | none=>rw [hq] at e1';cases e1'
  | some q=>
   rw [hq] at e1';exact L.rch i q j h hq e3 (by rw [Array.getElem?_map];exact e1')
 ·rw [L.tm];have:=(JF hp).length_eq;rw [Yai,Yai] at this;rw [this];exact jJ
theorem ZD {t:SetTable}{es:Array (Int×Value)}(S:SOk t es)(h76:es.size+1<=1228){t1:SetTable}{hs1:List Int}(T1:TOk t1 hs1)(hl:hs1.length=es.size+1)(hm:t1.mask=t.mask) :
  (t1.tooFull=true/\(es.size+1=5/\t1.mask=7\/es.size+1=19/\t1.mask=31\/es.size+1=77/\t1.mask=127\/es.size+1=307/\t1.mask=511))\/(t1.tooFull=false/\(es.size+1) * 5<t1.mask * 3):=by
 have hr:=S.room;have e:t1.tooFull=decide ((es.size+1) * 5>=t1.mask * 3):=by
  unfold SetTable.tooFull;rw [T1.fill,hl]
 rw [e];by_cases h:(es.size+1) * 5>=t1.mask * 3
 ·refine .inl ⟨Yba h,?_⟩;rcases T1.mask with q | q | q | q | q
  ·left;lia
  ·right;left;lia
  ·right;right;left;lia
  ·right;right;right;lia
  ·lia
 ·exact .inr ⟨Ybj h,by lia⟩
end L2
namespace L2
open PySem PySem.Spec PyProof.Rows
theorem sit_slot_next:Slot "set_iterator" "__next__" "set_iterator.__next__" := by
 refine .of (owner := "set_iterator") (n := "__next__") ?_ (by decide +kernel) (by decide +kernel) (by decide +kernel) ?_ ?_
 ·rw [typeLookup_type,builtinLookup_eq_fast];kernel_rfl
 ·first | exact .inl (by decide +kernel) | exact .inr (by decide +kernel)
 ·rw [isSubtype_type];kernel_rfl
theorem Oz:Slot "set_iterator" "__iter__" "set_iterator.__iter__" := by
 refine .of (owner := "set_iterator") (n := "__iter__") ?_ (by decide +kernel) (by decide +kernel) (by decide +kernel) ?_ ?_
 ·rw [typeLookup_type,builtinLookup_eq_fast];kernel_rfl
 ·first | exact .inl (by decide +kernel) | exact .inr (by decide +kernel)
 ·rw [isSubtype_type];kernel_rfl
theorem Of:entryFor table "set_iterator.__next__" = some Builtin.«set_iterator.__next__»:=by
 first | exact entryFor_of_tree (by kernel_rfl) | exact entryFor_of_fast (by kernel_rfl)
theorem OA (a:Value):argsOk "set_iterator.__next__" ⟨[a],[]⟩:=by
 unfold argsOk;kernel_rfl
theorem UK:entryFor table "set.__iter__" = some Builtin.«frozenset.__iter__»:=by
 first | exact entryFor_alias (id' := "frozenset.__iter__") (by kernel_rfl) (by decide +kernel) (by decide +kernel) (by kernel_rfl) | exact entryFor_alias (id' := "frozenset.__iter__") (by kernel_rfl) rfl (by decide +kernel) (by kernel_rfl)
noncomputable def JX (w:World):Bool:=w.params.followText "set-order"
section
variable {P:Program}{w:World}{A:Around}{E:EX}{s:Shared}
theorem Uz {Q:Bool->Shared->Prop}(h:Q (JX w) s):wpAny (model P w) A setsByText Q E s:=by
 unfold setsByText;exact Yaa (wpAny_askSetting (Yab h))
theorem Wn {h:Heap}{a:Addr}{o:Obj}{es:Array (Int×Value)}{ep:Nat}{t:SetTable}(ho:h.get? a=some o)(hd:o.data=.set es ep t)(es':Array (Int×Value))(t':SetTable) :
  (h.update a (Obj.putSet es' t')).get? a=some { o with data:=.set es' (ep+1) t' }:=by
 have:=Yei (Obj.putSet es' t') ho (by rw [putSet_of es' t' hd];rfl);rw [putSet_of es' t' hd] at this;exact this
noncomputable def G5 (w:World):Obj:={ cls:=.type "set", dict:=none,data:=.set #[] 0 (.fresh 0 0 (!JX w)) }
theorem Za8 (a:Value){Q1:EX}(h:Q1 (.ref s.heap.objs.size) { s with heap:=s.heap.push (G5 w) }) :
  codeAny (model P w) A (.call (.builtin "set.__new__") ⟨[.type "set", a],[]⟩) (wants Q1 E) s:=by
 apply codeAny_of_tree;show wpAny _ A.in1 (checkBuiltinCall "set.__new__" ⟨[.type "set", a],[]⟩ >>= λ_=>again (.builtin "set.__new__" ⟨[.type "set", a],[]⟩)) _ _ s;apply Yaa;apply wpAny_of_eq (F.newCall_set_1 a);refine Yab ⟨Yec F.plain_set_new _,?_⟩;apply Ycu F.entry_set_new;rw [Yed F.plain_set_new _];unfold Builtin.«set.__new__» Builtin.Frozenset.newClass;have hsb:=sub_set_self;obtain ⟨hp,g,d,tk,os⟩:=s;dsimp only
 wp_walk
 apply wpAny_askSetting;apply Yab;dsimp only;simp only [newObj];apply Yaa;apply wpAny_alloc;apply Yab;apply Yab;exact h
theorem Za9 {I:Addr}{fp wr:List Addr}{G:Array GenState->Array GenState->Prop}{n:Nat}{Pv:Nat->Value->Prop}{St:Nat->Shared->Prop}{R:Result->Shared->Prop}(W:WalksS P w A.in1 I fp wr G n Pv St)(S:Addr)(hSf:S ∉ fp)(J:Nat->Obj->Prop)(Kp:Heap->Prop)(hK:∀h h':Heap,Kp h->(∀b o,b ∉ S::wr->h.get? b=some o->h'.get? b=some o)->Kp h')(hadd:∀(i:Nat)(v:Value)(s1:Shared)(o:Obj)(Q:Bool->Shared->Prop)(E1:EX),i<n->Pv i v->Kp s1.heap->s1.heap.get? S=some o->J i o ->
   (∀(b:Bool)(h':Heap)(tk:Nat)(o':Obj),s1.toks<=tk->Heap.SameBut S s1.heap h'->h'.get? S=some o'->J (i+1) o'->Q b { s1 with heap:=h',toks:=tk })->wpAny (model P w) A.in1 (setAdd S v) Q E1 s1) :
  ∀(k i:Nat)(s:Shared)(o:Obj),n-i=k->i<=n->St i s->Kp s.heap->s.heap.get? S=some o->J i o ->
   (∀(s':Shared)(o':Obj),Moved (S::wr) G s s'->s'.heap.get? S=some o'->J n o'->R (.ok (.ret .none)) s') ->
   codeAny (model P w) A (.builtin "set.update.loop" ⟨[.ref S,.ref I],[]⟩) R s:=by
 have hSw:S ∉ wr:=λz=>hSf (W.sub _ z);have up:∀b∈wr,b∈S::wr:=λb z=>Ybb _ z;intro k
 induction k with
 | zero=>
  intro i s o hk hi st kp ho hj hR;have e:i=n:=by lia
  subst e;apply Ycu PyProof.Rows.F.entry_set_update_loop;rw [Yed PyProof.Rows.F.plain_set_update_loop _];apply Yaa;refine W.done s _ _ st λs1 hm=>?_;apply Yab;exact hR s1 o (hm.mono up) (hm.heap S _ hSw ho) hj
 | succ k ih=>
  intro i s o hk hi st kp ho hj hR;have hlt:i<n:=by lia
  apply Ycu PyProof.Rows.F.entry_set_update_loop;rw [Yed PyProof.Rows.F.plain_set_update_loop _];apply Yaa;refine W.item i s _ _ hlt st λv s1 hv st1 hm=>?_;have ho1:=hm.heap S _ hSw ho;have kp1:Kp s1.heap:=hK _ _ kp λb o' hb e=>hm.heap b o' (λz=>hb (up _ z)) e;apply Yaa;apply Ybp;refine hadd i v s1 o _ _ hlt hv kp1 ho1 hj λb h' tk o' htk sb ho' hj'=>?_;refine Yab ⟨Yec PyProof.Rows.F.plain_set_update_loop _,ih (i+1) _ o' (by lia) hlt (W.frame _ s1 _ _ st1 htk λb hb o2 e=>?_) (hK _ _ kp1 λb o2 hb e=>?_) ho' hj' λs2 o2 hm2 ho2 hj2=>?_⟩
  ·rw [sb.2 b (λz:b=S=>hSf (z▸hb))];exact e
  ·show h'.get? b=some o2;rw [sb.2 b (λz:b=S=>hb (by rw [z];exact Ybe))];exact e
  ·refine hR s2 o2 (Moved.trans W.gtrans ((hm.mono up).then_heap htk λb o3 hb e=>?_) hm2) ho2 hj2;rw [sb.2 b (λz:b=S=>hb (by rw [z];exact Ybe))];exact e
theorem ZE {l:Addr}{items:Array Value}{Q:EX}(hh:A.handled=none)(hl:s.heap.IsList l items)(J:Nat->Obj->Prop)(Kp:Heap->Prop)(h0:J 0 (G5 w))(hK0:∀h':Heap,(∀b o,b<s.heap.objs.size->s.heap.get? b=some o->h'.get? b=some o)->Kp h')(hadd:∀(i:Nat)(v:Value)(s1:Shared)(o:Obj)(Q:Bool->Shared->Prop)(E1:EX),i<items.size->items[i]?=some v->Kp s1.heap->s1.heap.get? s.heap.objs.size=some o->J i o ->
   (∀(b:Bool)(h':Heap)(tk:Nat)(o':Obj),s1.toks<=tk->Heap.SameBut s.heap.objs.size s1.heap h'->h'.get? s.heap.objs.size=some o'->J (i+1) o'->Q b { s1 with heap:=h',toks:=tk })->wpAny (model P w) A.in1.in1.in1 (setAdd s.heap.objs.size v) Q E1 s1)(h:∀(h':Heap)(tk:Nat)(o':Obj),h'.get? s.heap.objs.size=some o'->J items.size o'->(∀b o,b<s.heap.objs.size->s.heap.get? b=some o->h'.get? b=some o)->Q (.ref s.heap.objs.size) { s with heap:=h',toks:=tk }) :
  wpAny (model P w) A (call (.type "set") [.ref l]) Q E s:=by
 obtain ⟨c,tl,hmro⟩:=F.called_set.mro;have hmade:=F.called_set.made;have hsub:=F.called_set.sub;apply wpAny_call;apply codeAny_of_tree;show wpAny _ _ (callAny (.type "set") _) _ _ _;refine Yab ⟨Code.quiet_builtin _ (by decide +kernel),?_⟩;apply Ycu F.entry_type_call;rw [Around.under_plain (weight_type_call_type "set" [.ref l] []) rfl];have h1:=F.called_set.notType;have h2:=F.called_set.canCreate;have hct:=F.typeCall_set_1 (.ref l)
 repeat (any_goals (first | assumption | wp_step))
 refine codeAny_mono (Za8 (.ref l) (E:=E) (Q1:=λobj s1=>obj=.ref s.heap.objs.size/\s1={ s with heap:=s.heap.push (G5 w) }) ⟨rfl,rfl⟩) λr s1 hr=>?_;cases r with
 | error e=>exact hr
 | ok fl=>
  cases fl with
  | ret obj=>
   obtain ⟨rfl,rfl⟩:=hr;have hS:(s.heap.push (G5 w)).get? s.heap.objs.size=some (G5 w):=Yay _ rfl;have hT:Shared.TypeIs { s with heap:=s.heap.push (G5 w) } (.ref s.heap.objs.size) "set" := ⟨_,hS,rfl⟩;have hli:=F.called_set.init.lookup;have hbi:=F.called_set.init.bind (.ref s.heap.objs.size)
   repeat (any_goals (first | assumption | wp_step))
   refine codeAny_mono (codeAny_call_builtin (R:=wants (λr s2=>r=.none/\∃(h':Heap)(tk:Nat)(o':Obj),s2={ s with heap:=h',toks:=tk }/\h'.get? s.heap.objs.size=some o'/\J items.size o' /\
     (∀b o,b<s.heap.objs.size->s.heap.get? b=some o->h'.get? b=some o)) E) F.called_set.init.plain F.entry_set_init (check_set_init_1 hT ?_)) λr2 s2 hr2=>?_
   ·obtain ⟨ol,hol,hcl,nl,hdl⟩:=hl;obtain ⟨ocls,odict,odata,oslots⟩:=ol;simp only at hcl hdl;subst hcl;subst hdl;have hol':(s.heap.push (G5 w)).get? l=some { cls:=.type "list", dict:=odict,data:=.seq items nl,slots:=oslots }:=Yag _ hol;have hsls:=F.sub_list_set;have hslf:=F.sub_list_frozenset;have hne:(Value.type "list" == Value.type "dict")=false:=by decide
    have hl1:(s.heap.push (G5 w)).IsList l items:=⟨_,hol',rfl,nl,rfl⟩;have hS':(s.heap.push (G5 w)).get? s.heap.objs.size=some { cls:=.type "set", dict:=none,data:=.set #[] 0 (.fresh 0 0 (!JX w)) }:=hS;unfold Builtin.«set.__init__» noKeywords Builtin.Frozenset.updateFrom;generalize hPI:pyIter=PI
    wp_walk
    subst hPI;apply wpAny_pyIter_list hl1;apply Yaa;apply wpAny_runValue;have hlS:l<s.heap.objs.size:=Yah hol;have hh3:A.in1.in1.in1.handled=none:=by simp [hh]
    have hz:(s.heap.push (G5 w)).objs.size=s.heap.objs.size+1:=Ybx ..;have hneI:l≠(s.heap.push (G5 w)).objs.size:=by rw [hz];exact Yam (Ydg hlS)
    have hSf:s.heap.objs.size ∉ [(s.heap.push (G5 w)).objs.size,l]:=by
     rw [hz];intro z;rcases Yat.mp z with z | z
     ·exact Yam (Nat.lt_succ_self _) z
     ·exact Ydm hlS (Yaw.mp z)
    have kold:∀b o,b<s.heap.objs.size->s.heap.get? b=some o->((s.heap.push (G5 w)).push { cls:=.type "list_iterator", data:=.fields #[.ref l,.int 0 0] }).get? b=some o:=
     λb o _ e=>Yag _ (Yag _ e)
    refine Za9 ((Walks.list hh3 _ l hneI items).toS) s.heap.objs.size hSf J (λh'=>∀b o,b<s.heap.objs.size->s.heap.get? b=some o->h'.get? b=some o) ?_ ?_ (items.size-0) 0 _ (G5 w) (by lia) (Yao _)
     ⟨⟨_,Yay _ rfl,rfl,rfl⟩,(hl1.push _)⟩ kold (Yag _ hS) h0 ?_
    ·intro ha hb hab hst b o hlt e;refine hst b o ?_ (hab b o hlt e);intro z;rcases Yat.mp z with z | z
     ·exact Yam hlt z
     ·exact Yam (Ydg hlt) ((Yaw.mp z).trans hz)
    ·intro i v s1 o Q1 E1 hi hv kp ho hj hq;exact hadd i v s1 o Q1 E1 hi hv (hK0 _ kp) ho hj hq
    ·intro s' o' hm ho' hj';obtain ⟨h',g',d',tk',os'⟩:=s';have eg:g'=s.gens:=hm.gens;have ed:d'=s.drawn:=hm.drawn;have eo:os'=s.os:=hm.os;subst eg;subst ed;subst eo;apply Yab;refine Yab ⟨rfl,h',tk',o',rfl,ho',hj',λb o hb e=>?_⟩;refine hm.heap b o ?_ (Yag _ (Yag _ e));intro z;rcases Yat.mp z with z | z
     ·exact Yam hb z
     ·exact Yam (Ydg hb) ((Yaw.mp z).trans hz)
   ·cases r2 with
    | error e=>exact hr2
    | ok fl2=>
     cases fl2 with
     | ret r=>
      obtain ⟨rfl,h',tk,o',rfl,ho',hj',hk'⟩:=hr2
      repeat (any_goals (first | assumption | wp_step))
      exact h _ _ _ ho' hj' hk'
     | _=>exact hr2.elim
  | _=>exact hr.elim
theorem ZG {α:Type}(next:Nat->Nat):∀(jQ k:Nat)(left:List α)(out:Array α),left.length=jQ->(pickOrder.go next jQ k left out).toList.Perm (out.toList++left)
 | 0,k,left,out,h=>by
  have:left=[]:=List.length_eq_zero_iff.mp h;subst this;unfold pickOrder.go;simp
 | jQ+1,k,left,out,h=>by
  have hlt:next k % left.length<left.length:=Nat.mod_lt _ (by lia)
  unfold pickOrder.go;rw [Ybd hlt];dsimp only;refine (ZG next jQ (k+1) _ _ (by rw [List.length_eraseIdx,if_pos hlt];lia)).trans ?_;rw [Yee];exact Xp left out.toList _ _ (Ybd hlt)
theorem ZH {α:Type}(next:Nat->Nat)(xs:Array α):(pickOrder next xs).toList.Perm xs.toList:=by
 unfold pickOrder;have:=ZG next xs.size 0 xs.toList #[] (by simp)
 simpa using this
noncomputable def OB (t:SetTable):Nat->Nat
 | 0=>0
 | i+1=>t.place.getD i 0+1
theorem Yk {t:SetTable}(hr:Rise t.place){i:Nat}(hi:i<=t.place.size):SetTable.below t.place (OB t i)=i:=by
 obtain ⟨b1,b2,b3⟩:=OR (j:=OB t i) hr;have lo:∀q a,q<i->t.place[q]?=some a->a<OB t i:=λq a hq ha=>by
  cases i with
  | zero=>lia
  | succ i=>
   have hi':i<t.place.size:=by lia
   have e:t.place.getD i 0=t.place[i]:=by rw [Yel,Yav hi'];rfl
   show a<t.place.getD i 0+1;rw [e];by_cases hq':q=i
   ·subst hq';rw [Yav hi'] at ha;cases ha;exact Nat.lt_succ_self _
   ·have:=hr.lt (show q<i by lia) ha (Yav hi')
    lia
 have hi2:∀q a,i<=q->t.place[q]?=some a->OB t i<=a:=λq a hq ha=>by
  cases i with
  | zero=>exact Yao _
  | succ i=>
   have hi':i<t.place.size:=by lia
   have e:t.place.getD i 0=t.place[i]:=by rw [Yel,Yav hi'];rfl
   show t.place.getD i 0+1<=a;rw [e];exact hr.lt (show i<q by lia) (Yav hi') ha
 rcases Nat.lt_trichotomy (SetTable.below t.place (OB t i)) i with z | z | z
 ·have hs:SetTable.below t.place (OB t i)<t.place.size:=by lia
  have h1:=lo _ _ z (Yav hs);have h2:=b3 _ _ (Yae _) (Yav hs)
  lia
 ·exact z
 ·have hs:i<t.place.size:=by lia
  have h1:=hi2 _ _ (Yae _) (Yav hs);have h2:=b2 _ _ z (Yav hs)
  lia
noncomputable def SAt (w:World)(h:Heap)(a:Addr)(es:Array (Int×Value))(ep:Nat)(t:SetTable):Prop:=
 (∃o,h.get? a=some o/\o.ExactSet/\o.data=.set es ep t)/\SOk t es/\t.plain=true/\t.led=!JX w
noncomputable def Ju (w:World)(a:Addr)(es:Array (Int×Value))(ep:Nat):List (Int×Value):=if JX w then (pickOrder (w.params.setOrder a ep) es).toList else es.toList
theorem Jv (a:Addr)(es:Array (Int×Value))(ep:Nat):(Ju w a es ep).Perm es.toList:=by
 unfold Ju;split
 ·exact ZH _ _
 ·exact .refl _
noncomputable def O8 (w:World)(t:SetTable)(i:Nat):Nat:=if JX w then 0 else OB t i
noncomputable def IsSetIter (w:World)(h:Heap)(it a:Addr)(t:SetTable)(i n ep:Nat):Prop:=
 ∃o,h.get? it=some o/\o.cls=.type "set_iterator" /\ o.data=.fields #[.int (O8 w t i) 0,.int i 0,.ref a,.int n 0,.int ep 0]
theorem IsSetIter.typeIs {it a:Addr}{t:SetTable}{i n ep:Nat}(h:IsSetIter w s.heap it a t i n ep):s.TypeIs (.ref it) "set_iterator" := let ⟨o,h1,h2,_⟩:=h;⟨o,h1,h2⟩
theorem SAt.typeIs {a:Addr}{es:Array (Int×Value)}{ep:Nat}{t:SetTable}(h:SAt w s.heap a es ep t):s.TypeIs (.ref a) "set" := let ⟨⟨o,h1,h2,_⟩,_⟩:=h;⟨o,h1,h2.1⟩
theorem Yl {a:Addr}{es:Array (Int×Value)}{ep:Nat}{t:SetTable}{Q:Array (Int×Value)->Shared->Prop}(h:SAt w s.heap a es ep t)(hq:∀r:Array (Int×Value),r.toList=Ju w a es ep->Q r s) :
  wpAny (model P w) A (setWalk a) Q E s:=by
 obtain ⟨⟨o,ho,hx,hd⟩,S,hpl,hled⟩:=h;unfold setWalk;apply Yaa;apply Yef ho hd S.fits;dsimp only;apply Yaa;apply Uz;unfold Ju at hq;cases hb:JX w with
 | true=>
  rw [hb] at hq;rw [if_pos rfl];apply Yaa;apply wpAny_askSetting;exact Yab (hq _ rfl)
 | false=>
  rw [hb] at hq hled;rw [if_neg Yaj];have e1:(!t.plain && decide (es.size > 1))=false:=by rw [hpl];rfl
  show wpAny _ _ (if (!t.plain && decide (es.size > 1))=true then _ else _) _ _ s;rw [e1,if_neg Yaj];apply Yaa;show wpAny _ _ (if (!t.led && decide (es.size > 1))=true then _ else _) _ _ s;have e2:(!t.led && decide (es.size > 1))=false:=by rw [hled];rfl
  rw [e2,if_neg Yaj];apply Yab;exact Yab (hq es rfl)
theorem UY {a:Addr}{es:Array (Int×Value)}{ep i:Nat}{t:SetTable}{Q:Option (Value×Nat)->Shared->Prop}(h:SAt w s.heap a es ep t)(hi:i<=es.size)(hq:Q (((Ju w a es ep)[i]?).map λe=>(e.2,O8 w t (i+1))) s):wpAny (model P w) A (setNext a (O8 w t i) i ep) Q E s:=by
 obtain ⟨⟨o,ho,hx,hd⟩,S,hpl,hled⟩:=id h;have qV:t.place.size=es.size:=by rw [S.T.len,Jf]
 unfold setNext;apply Yaa;apply Yef ho hd S.fits;dsimp only;apply Yaa;apply Uz;cases hb:JX w with
 | true=>
  rw [if_pos rfl,if_neg (by simp)];apply Yaa;refine Yl h λr hr=>?_;refine Yab ?_;have e0:∀k,O8 w t k=0:=λk=>by unfold O8;rw [hb];rfl
  rw [e0] at hq ⊢;rw [<-Yaq,hr];exact hq
 | false=>
  rw [hb] at hled;rw [if_neg Yaj];have e1:(!t.plain && decide (es.size > 1))=false:=by rw [hpl];rfl
  show wpAny _ _ (if (!t.plain && decide (es.size > 1))=true then _ else _) _ _ s;rw [e1,if_neg Yaj];apply Yaa;show wpAny _ _ (if (!t.led && !es.isEmpty)=true then _ else _) _ _ s;have e2:(!t.led && !es.isEmpty)=false:=by rw [hled];rfl
  rw [e2,if_neg Yaj];apply Yab;have e3:∀k,O8 w t k=OB t k:=λk=>by unfold O8;rw [hb];rfl
  rw [e3] at hq ⊢;rw [Yk S.T.rise (by lia)];have e4:Ju w a es ep=es.toList:=by unfold Ju;rw [hb];rfl
  rw [e4,Yaq] at hq;by_cases hlt:i<es.size
  ·rw [Yav hlt] at hq ⊢;have hp:i<t.place.size:=by lia
   rw [Yav hp];have e5:OB t (i+1)=t.place[i]+1:=by
    show t.place.getD i 0+1=_;rw [Yel,Yav hp]
    rfl
   rw [e5] at hq;exact Yab hq
  ·rw [Yfi (by lia)] at hq ⊢;exact Yab hq
theorem SAt.ext {h h':Heap}{a:Addr}{es:Array (Int×Value)}{ep:Nat}{t:SetTable}(x:SAt w h a es ep t)(k:∀o,h.get? a=some o->h'.get? a=some o):SAt w h' a es ep t:=
 let ⟨⟨o,h1,h2⟩,r⟩:=x;⟨⟨o,k _ h1,h2⟩,r⟩
theorem IsSetIter.ext {h h':Heap}{it a:Addr}{t:SetTable}{i n ep:Nat}(x:IsSetIter w h it a t i n ep)(k:∀o,h.get? it=some o->h'.get? it=some o):IsSetIter w h' it a t i n ep:=
 let ⟨o,h1,h2⟩:=x;⟨o,k _ h1,h2⟩
theorem WK {it a:Addr}{es:Array (Int×Value)}{ep i:Nat}{t:SetTable}{e:Int×Value}{Q:Option Value->Shared->Prop}(hit:IsSetIter w s.heap it a t i es.size ep)(hs:SAt w s.heap a es ep t)(he:(Ju w a es ep)[i]?=some e)(hne:a≠it)(hq:∀h':Heap,IsSetIter w h' it a t (i+1) es.size ep->Heap.SameBut it s.heap h'->Q (some e.2) { s with heap:=h' }) :
  wpAny (model P w) A (pyNext (.ref it)) Q E s:=by
 obtain ⟨o,ho,hc,hd⟩:=id hit;obtain ⟨⟨oa,hoa,hxa,hda⟩,S,hpl,hled⟩:=id hs;have hwl:(Ju w a es ep).length=es.size:=by rw [(Jv a es ep).length_eq,Yai]
 have hi:i<es.size:=by
  have:=(Yau.mp he).1
  lia
 unfold pyNext;apply Yaa;apply Ydq;refine Yew (name:=Str.ofString "__next__") hit.typeIs sit_slot_next (Ycl sit_slot_next hit.typeIs Of ?_ (OA _));unfold Builtin.«set_iterator.__next__»;apply Yaa;apply Yab;apply Yaa;apply wpAny_fieldsOf ho hd;dsimp only;apply Yaa;apply wpAny_setEntries_of hoa hda S.fits;rw [if_neg (by simp)];apply Yaa;have hn:=λE1=>UY (P:=P) (A:=A.in1) (E:=E1) (s:=s) (i:=i) hs (Nat.le_of_lt hi) (Q:=λr s1=>r=some (e.2,O8 w t (i+1))/\s1=s) ⟨by rw [he];rfl,rfl⟩;refine Ybm (by simpa using hn _) (λr s1 hr=>?_) λ_ _ x=>x;obtain ⟨rfl,rfl⟩:=hr;dsimp only;apply Yaa;apply wpAny_setField ho hd (by simp);have ho2:=Yei (Obj.mapFields (·.setIfInBounds 0 (rawInt ((O8 w t (i+1):Nat):Int)))) ho (Obj.isFreed_of_fields (Obj.data_mapFields hd _));have hd2:=Obj.data_mapFields hd (·.setIfInBounds 0 (rawInt ((O8 w t (i+1):Nat):Int)));apply Yaa;apply wpAny_setField ho2 hd2 (by simp);refine Yab ⟨_,rfl,Yab (hq _ ⟨_,Yei _ ho2 (Obj.isFreed_of_fields (Obj.data_mapFields hd2 _)),?_,?_⟩ ((Yeo ..).trans (Yeo ..)))⟩
 ·rw [Obj.cls_mapFields,Obj.cls_mapFields];exact hc
 ·rw [Obj.data_mapFields hd2];simp [rawInt]
theorem Ym {it a:Addr}{es:Array (Int×Value)}{ep:Nat}{t:SetTable}{Q:Option Value->Shared->Prop}(hh:A.handled=none)(hit:IsSetIter w s.heap it a t es.size es.size ep)(hs:SAt w s.heap a es ep t)(hq:∀h':Heap,Heap.ExtBut it s.heap h'->Q none { s with heap:=h' }):wpAny (model P w) A (pyNext (.ref it)) Q E s:=by
 obtain ⟨o,ho,hc,hd⟩:=id hit;obtain ⟨⟨oa,hoa,hxa,hda⟩,S,hpl,hled⟩:=id hs;have hwl:(Ju w a es ep).length=es.size:=by rw [(Jv a es ep).length_eq,Yai]
 unfold pyNext;apply Yaa;apply Ydq;refine Yew (name:=Str.ofString "__next__") hit.typeIs sit_slot_next (Ycl sit_slot_next hit.typeIs Of ?_ (OA _));unfold Builtin.«set_iterator.__next__»;apply Yaa;apply Yab;apply Yaa;apply wpAny_fieldsOf ho hd;dsimp only;apply Yaa;apply wpAny_setEntries_of hoa hda S.fits;rw [if_neg (by simp)];apply Yaa;have hn:=λE1=>UY (P:=P) (A:=A.in1) (E:=E1) (s:=s) (i:=es.size) hs (Yae _) (Q:=λr s1=>r=none/\s1=s) ⟨by rw [List.getElem?_eq_none (by lia)];rfl,rfl⟩;refine Ybm (by simpa using hn _) (λr s1 hr=>?_) λ_ _ x=>x;obtain ⟨rfl,rfl⟩:=hr;dsimp only;apply Yaa;apply wpAny_setField ho hd (by simp);apply Yaa;simp only [newExc,newTuple];apply Yaa;refine Ydp ?_ (by size_fits);refine Yaa (m:=firstArgMember _ _) (wpAny_of_eq (a:=Value.none) (by first | (simp only [firstArgMember];rfl) | rfl) ?_);refine Ydp ?_ (by size_fits);simp only [raiseNew];apply Yaa;apply wpAny_handled;rw [show A.in1.handled=none from hh];refine wpAny_throw ?_;apply Yaa;refine Yez (b:=true) (T := "StopIteration") ⟨_,Yay _ rfl,rfl⟩ isSubtype_stop ?_;exact Yab (hq _ (((Yeo ..).extBut.push _).push _))
theorem Yn {a:Addr}{es:Array (Int×Value)}{ep:Nat}{t:SetTable}{Q:EX}(h:SAt w s.heap a es ep t)(hq:Q (.ref s.heap.objs.size) { s with heap:=s.heap.push { cls:=.type "set_iterator", data:=.fields #[.int 0 0,.int 0 0,.ref a,.int es.size 0,.int ep 0] } }):wpAny (model P w) A (pyIter (.ref a)) Q E s:=by
 obtain ⟨⟨o,ho,hx,hd⟩,S,hpl,hled⟩:=id h;refine wpAny_pyIter_slot h.typeIs F.slot_set_iter (Ycl F.slot_set_iter h.typeIs UK ?_ (F.args_set_iter_1 _));unfold Builtin.«frozenset.__iter__»;apply Yaa;refine Yab ?_;apply Yaa;unfold Builtin.Frozenset.sizeOf;apply Yaa;apply wpAny_setEntries_of ho hd S.fits;apply Yab;apply Yaa;apply Yaa;apply Yef ho hd S.fits;dsimp only;apply Yaa;apply Uz;apply Yab;have e1:(!JX w && (!t.plain && decide (es.size > 1)))=false:=by rw [hpl];simp
 show wpAny _ _ (if (!JX w && (!t.plain && decide (es.size > 1)))=true then _ else _) _ _ _;rw [e1,if_neg Yaj];apply Yaa;apply Yab;apply Yaa;apply wpAny_setEpoch_of ho hd S.fits;apply Yaa;refine Ydp (Yab ⟨_,rfl, "set_iterator", _,⟨_,Yay _ rfl,rfl⟩,sit_slot_next.lookup,?_⟩);simpa [rawInt] using hq
theorem Zba {r:Addr}{Q:Bool->Shared->Prop}(hT:s.TypeIs (.ref r) "set")(h:Q false s):wpAny (model P w) A (Builtin.List.listLengthHint (.ref r)) Q E s:=by
 unfold Builtin.List.listLengthHint;apply Yaa;refine wpAny_specialOf hT F.slot_set_len.lookup ?_;generalize hid:("set.__len__" : String)=nm
 wp_delta
 rw [show splitId nm=some ("set", "__len__") from by subst hid;decide +kernel];subst hid;apply Yaa;refine Yez (T := "set") (b:=true) hT (by rw [isSubtype_type];kernel_rfl) ?_;refine wpAny_ite_split (λz=>absurd z (by decide)) λ_=>?_;refine wpAny_ite_split (λ_=>?_) λz=>absurd (by decide +kernel) z;apply Yaa;apply Ydo hT;exact Yab h
theorem ZcK {a:Addr}{es:Array (Int×Value)}{ep:Nat}{t:SetTable}:W.KdlSrc P w "set" a a es.size (λi v=>∃e,(Ju w a es ep)[i]?=some e/\v=e.2) (λh=>SAt w h a es ep t) where
 type:=λ_ h=>h.typeIs
 there:=λ_ h=>by
  obtain ⟨⟨o,ho,_⟩,_⟩:=h;exact ⟨Yah ho,Yah ho⟩
 keep:=λ_ _ h k=>h.ext λo e=>k a (.inl rfl) o e
 notList:=by decide
 notTuple:=by decide
 hint:=λ_ _ _ _ h q=>Zba h.typeIs q
 iter:=λA s hh h=>by
  have hlt:a<s.heap.objs.size:=by
   obtain ⟨⟨o,ho,_⟩,_⟩:=h;exact Yah ho
  have hwl:(Ju w a es ep).length=es.size:=by rw [(Jv a es ep).length_eq,Yai]
  refine ⟨{ cls:=.type "set_iterator", data:=.fields #[.int 0 0,.int 0 0,.ref a,.int es.size 0,.int ep 0] },λi h'=>IsSetIter w h' s.heap.objs.size a t i es.size ep/\SAt w h' a es ep t,λ_ _ q=>Yn h q,?_,?_⟩
  ·refine ⟨λb hb=>?_,λi h1 h2 st k=>⟨st.1.ext λo e=>k _ (by simp) o e,st.2.ext λo e=>k a (by simp) o e⟩,λi s1 Q E hi st hq=>?_,λs1 Q E st hq=>?_,λi s1 Q E st hq=>?_⟩
   ·rw [Yaw.mp hb];exact Ybe
   ·have he:(Ju w a es ep)[i]?=some (Ju w a es ep)[i]:=Ybd (by lia);refine WK st.1 st.2 he (Yam hlt) λh' hi' sb=>?_;refine hq _ h' s1.toks ⟨_,he,rfl⟩ ⟨hi',st.2.ext λo e=>?_⟩ λb o hb e=>?_
    ·rw [sb.2 a (Yam hlt)];exact e
    ·rw [sb.2 b (λz=>hb (by rw [z];exact Ybe))];exact e
   ·refine Ym hh st.1 st.2 λh' he=>hq h' s1.toks λb o hb e=>he b o (λz=>hb (by rw [z];exact Ybe)) e
   ·refine wpAny_pyIter_slot st.1.typeIs Oz (Ycl Oz st.1.typeIs (b:=Builtin.«dict_keyiterator.__iter__») ?_ ?_ ?_)
    ·exact entryFor_alias (id' := "dict_keyiterator.__iter__") (by kernel_rfl) rfl (by decide +kernel) (by kernel_rfl)
    ·show wpAny _ _ (ret (Value.ref s.heap.objs.size)) _ _ s1;exact Yab ⟨_,rfl, "set_iterator", _,st.1.typeIs,sit_slot_next.lookup,hq⟩
    ·unfold argsOk;kernel_rfl
  ·refine ⟨⟨_,Yay _ rfl,rfl,?_⟩,h.ext λo e=>Yag _ e⟩;have:O8 w t 0=0:=by unfold O8;split <;> rfl
   rw [this]
   rfl
end
theorem Vq {α:Type}{l:List α}{i:Nat}{x y:α}(h:l[i]?=some x):y∈l.take (i+1)↔y∈l.take i\/y=x:=by
 rw [List.take_succ,h];simp
section
variable {X:Cx}(K:W.Frag)
end
section
variable {P:Program}{w:World}{A:Around}{E:EX}{s:Shared}
end
section
variable {X:Cx}
end
section
variable {X:Cx}(P:Program)(w:World)(K:W.Frag)
end
section
variable {X:Cx}
end
section
variable {P:Program}{w:World}{A:Around}{E:EX}{s:Shared}
theorem Wo {ks:List Int}{vs:List Value}(h:ItemsAre (intKind P w) ks vs):∀v∈vs,∃i t,v=Value.int i t:=by
 induction h with
 | nil=>intro v hv;simp at hv
 | @cons k v' ks vs h1 _ ih=>
  intro v hv;rcases Yat.mp hv with rfl | hv
  ·cases v with
   | int i t=>exact ⟨i,t,rfl⟩
   | _=>cases h1
  ·exact ih v hv
noncomputable def hAt (es:Array (Int×Value))(i:Nat):Int:=(es[i]?.map (·.1)).getD 0
section
variable {a b:Addr}{o:Obj}{es:Array (Int×Value)}{ep:Nat}{t:SetTable}{ps:List (Int×Int)}{r:Int×Int}{Q:SetFound->Shared->Prop}
end
end
section
variable {X:Cx}(K:W.Frag)
noncomputable abbrev Tri:=Int×Int×Int
inductive Trs (H:Hp):List V->List Tri->Prop
 | nil:Trs H [] []
 | cons {p:Addr} {a b c:Int} {xs:List V} {rs:List Tri}:H p=some (.tup [.int a,.int b,.int c])->Trs H xs rs->Trs H (.ref p::xs) ((a,b,c)::rs)
theorem Trs.len {H:Hp}{xs:List V}{rs:List Tri}(h:Trs H xs rs):xs.length=rs.length:=by
 induction h with
 | nil=>rfl
 | cons _ _ ih=>rw [Ybn,Ybn,ih]
theorem Trs.snoc {H:Hp}{xs:List V}{rs:List Tri}(h:Trs H xs rs){p:Addr}{a b c:Int}(e:H p=some (.tup [.int a,.int b,.int c])):Trs H (xs++[.ref p]) (rs++[(a,b,c)]):=by
 induction h with
 | nil=>exact .cons e .nil
 | cons e1 _ ih=>exact .cons e1 ih
theorem Trs.keep {H H':Hp}{xs:List V}{rs:List Tri}(h:Trs H xs rs)(k:∀p ys,H p=some (.tup ys)->H' p=some (.tup ys)):Trs H' xs rs:=by
 induction h with
 | nil=>exact .nil
 | cons e1 _ ih=>exact .cons (k _ _ e1) ih
theorem Trs.same {H H':Hp}{xs:List V}{rs:List Tri}(h:Trs H xs rs)(k:Same H H'):Trs H' xs rs:=h.keep λp ys e=>k p _ e
theorem Trs.get {H:Hp}:∀{xs:List V}{rs:List Tri},Trs H xs rs->∀{i:Nat}{x:V},xs[i]?=some x->∃t r,x=.ref t/\H t=some (.tup [.int r.1,.int r.2.1,.int r.2.2])/\rs[i]?=some r
 | _,_,.nil,_,_,h=>by simp at h
 | _,_,.cons (a:=a) (b:=b) (c:=c) e _,0,_,h=>by
  simp at h;subst h;exact ⟨_,(a,b,c),rfl,e,rfl⟩
 | _,_,.cons _ t,i+1,_,h=>by
  rw [Yey] at h ⊢;exact Trs.get t h
theorem Trs.at {H:Hp}{xs:List V}{rs:List Tri}(h:Trs H xs rs){i:Nat}{r:Tri}(e:rs[i]?=some r):∃t,xs[i]?=some (.ref t)/\H t=some (.tup [.int r.1,.int r.2.1,.int r.2.2]):=by
 have hi:i<xs.length:=by rw [h.len];exact (Yau.mp e).1
 obtain ⟨t,r',e1,e2,e3⟩:=h.get (Ybd hi);rw [e] at e3;cases e3;exact ⟨t,by rw [Ybd hi,e1],e2⟩
noncomputable def trD (r:Tri):PyData:=.tuple [.int r.1,.int r.2.1,.int r.2.2]
theorem Trs.dats {K:W.Frag}{H:Hp}{xs:List V}{rs:List Tri}(h:Trs H xs rs):DatVs K H xs (rs.map trD):=by
 induction h with
 | nil=>exact .nil
 | cons e _ ih=>exact .cons (.tup (SqT.of e) (.cons (.int _) (.cons (.int _) (.cons (.int _) .nil)))) ih
theorem ZcL (r q:Tri):PyData.eqv (trD r) (trD q)=decide (r=q):=by
 obtain ⟨a,b,c⟩:=r;obtain ⟨d,e,f⟩:=q;simp only [trD,PyData.eqv,PyData.eqvAll,Prod.mk.injEq];by_cases h1:a=d <;> by_cases h2:b=e <;> by_cases h3:c=f <;> simp [h1,h2,h3]
theorem ZI:∀rs qs:List Tri,PyData.eqvAll (rs.map trD) (qs.map trD)=decide (rs=qs)
 | [],[]=>by simp [PyData.eqvAll]
 | [],_::_=>by simp [PyData.eqvAll]
 | _::_,[]=>by simp [PyData.eqvAll]
 | r::rs,q::qs=>by
  rw [Yap,Yap];simp only [PyData.eqvAll,ZcL,ZI rs qs];by_cases h1:r=q <;> by_cases h2:rs=qs <;> simp [h1,h2]
theorem ZJ:∀rs:List Tri,PyData.canLayAll0 (rs.map trD)=true
 | []=>by simp [PyData.canLayAll0]
 | r::rs=>by
  rw [Yap];simp [PyData.canLayAll0,trD,PyData.canLay0,ZJ rs]
theorem Wp:∀rs:List Tri,PyData.depthAll (rs.map trD)<=2
 | []=>by simp [PyData.depthAll]
 | r::rs=>by
  have ih:=Wp rs;rw [Yap];simp only [PyData.depthAll,trD,PyData.depth]
  lia
theorem Zgr (h:X.K=K:=by rfl):SlR X (Zgj K):=h▸ZbT
theorem ZcM {tg:Expr}{l:Expr}{tl:TE}(hl:PE X l tl)(h:X.K=K:=by rfl):PI X tg l (Zgf K tl):=h▸ZdA hl
end
noncomputable def Nd (ts:List Tri)(c:Int)(r:Tri):Prop:=2<=c/\ts[(c-2).toNat]?=some r
noncomputable def At (ts:List Tri)(c lo:Int):Prop:=c=0\/c=1\/∃r,Nd ts c r/\lo<r.1
noncomputable def TabOk (ts:List Tri):Prop:=∀(i:Nat)(r:Tri),ts[i]?=some r->(0<=r.1/\r.1<30)/\At ts r.2.1 r.1/\At ts r.2.2 r.1
theorem Nd.one {ts:List Tri}{c:Int}{r r':Tri}(h:Nd ts c r)(h':Nd ts c r'):r=r':=by
 have:=h.2.symm.trans h'.2;cases this
 rfl
theorem Nd.lt {ts:List Tri}{c:Int}{r:Tri}(h:Nd ts c r):c<ts.length+2:=by
 have:=(Yau.mp h.2).1;have:=h.1
 lia
theorem Nd.app {ts:List Tri}{c:Int}{r:Tri}(h:Nd ts c r)(us:List Tri):Nd (ts++us) c r:=
 ⟨h.1,by rw [Ydc (Yau.mp h.2).1];exact h.2⟩
theorem Nd.last (ts:List Tri)(r:Tri):Nd (ts++[r]) (ts.length+2) r:=by
 refine ⟨by lia,?_⟩;have e:((ts.length:Int)+2-2).toNat=ts.length:=by lia
 rw [e,Ydn (Yae _),Nat.sub_self]
 rfl
theorem At.app {ts:List Tri}{c lo:Int}(h:At ts c lo)(us:List Tri):At (ts++us) c lo:=by
 rcases h with h | h | ⟨r,h,g⟩
 ·exact .inl h
 ·exact .inr (.inl h)
 ·exact .inr (.inr ⟨r,h.app us,g⟩)
theorem At.mono {ts:List Tri}{c lo lo':Int}(h:At ts c lo)(hl:lo'<=lo):At ts c lo':=by
 rcases h with h | h | ⟨r,h,g⟩
 ·exact .inl h
 ·exact .inr (.inl h)
 ·exact .inr (.inr ⟨r,h,by lia⟩)
theorem At.lt {ts:List Tri}{c lo:Int}(h:At ts c lo):0<=c/\c<ts.length+2:=by
 rcases h with rfl | rfl | ⟨r,h,g⟩
 ·lia
 ·lia
 ·have:=h.lt;have:=h.1
  lia
theorem At.nd {ts:List Tri}{c lo:Int}(h:At ts c lo)(hc:1<c):∃r,Nd ts c r/\lo<r.1:=by
 rcases h with h | h | h
 ·lia
 ·lia
 ·exact h
theorem TabOk.nil:TabOk []:=λi r h=>by simp at h
theorem TabOk.snoc {ts:List Tri}{r:Tri}(h:TabOk ts)(h0:0<=r.1/\r.1<30)(h1:At ts r.2.1 r.1)(h2:At ts r.2.2 r.1):TabOk (ts++[r]):=by
 intro i q e;by_cases hi:i<ts.length
 ·rw [Ydc hi] at e;obtain ⟨a,b,c⟩:=h i q e;exact ⟨a,b.app _,c.app _⟩
 ·rw [Ydn (by lia)] at e;have hz:i-ts.length=0:=by
   have:=(Yau.mp e).1;rw [Ybc] at this
   lia
  rw [hz] at e;cases e;exact ⟨h0,h1.app _,h2.app _⟩
theorem TabOk.nd {ts:List Tri}{c:Int}{r:Tri}(h:TabOk ts)(n:Nd ts c r):(0<=r.1/\r.1<30)/\At ts r.2.1 r.1/\At ts r.2.2 r.1:=h _ r n.2
inductive Has (ts:List Tri):Int->List Int->Prop
 | one:Has ts 1 []
 | low {c:Int} {r:Tri} {rs:List Int}:Nd ts c r->Has ts r.2.1 rs->Has ts c rs
 | high {c:Int} {r:Tri} {rs:List Int}:Nd ts c r->Has ts r.2.2 rs->Has ts c (r.1::rs)
theorem Has.zero {ts:List Tri}{rs:List Int}:¬ Has ts 0 rs:=by
 intro h;cases h with
 | low n _=>exact absurd n.1 (by decide)
 | high n _=>exact absurd n.1 (by decide)
theorem Has.at1 {ts:List Tri}{rs:List Int}:Has ts 1 rs↔rs=[]:=by
 constructor
 ·intro h;cases h with
  | one=>rfl
  | low n _=>exact absurd n.1 (by decide)
  | high n _=>exact absurd n.1 (by decide)
 ·rintro rfl;exact .one
theorem Has.small {ts:List Tri}{c:Int}{rs:List Int}(h0:0<=c)(h1:¬ 1<c):Has ts c rs↔(c=1/\rs=[]):=by
 have hc:c=0\/c=1:=by lia
 rcases hc with rfl | rfl
 ·exact ⟨λh=>absurd h Has.zero,λh=>absurd h.1 (by decide)⟩
 ·rw [Has.at1];exact ⟨λh=>⟨rfl,h⟩,λh=>h.2⟩
noncomputable def OM (fs:List Int)(n:Int):Option Int:=if n=0 then some 0 else if n=1 then some 1 else (fs.idxOf? n).map λ(i:Nat)=>(i:Int)+2
theorem idxOf?_app (fs:List Int)(n m:Int)(hn:m ∉ fs):(fs++[m]).idxOf? n=if n=m then some fs.length else fs.idxOf? n:=by
 induction fs with
 | nil=>
  by_cases h:n=m
  ·subst h;simp [List.idxOf?,List.findIdx?_cons]
  ·have:¬ m=n:=λz=>h z.symm;simp [List.idxOf?,List.findIdx?_cons,h,this]
 | cons a fs ih=>
  have h1:m ∉ fs:=λz=>hn (Ybb _ z);have h2:a≠m:=λz=>hn (z▸Ybe);have ih':=ih h1;rw [List.cons_append,List.idxOf?_cons,List.idxOf?_cons,ih',Ybn];by_cases ha:(a == n)=true
  ·have:a=n:=by simpa using ha
   subst this;simp [h2]
  ·by_cases hm:n=m
   ·subst hm;simp [ha]
   ·simp [ha,hm]
theorem Zbb (fs:List Int)(n m:Int)(hn:OM fs m=none):OM (fs++[m]) n=if n=m then some ((fs.length:Int)+2) else OM fs n:=by
 unfold OM at hn ⊢;by_cases h0:m=0
 ·rw [if_pos h0] at hn;cases hn
 rw [if_neg h0] at hn;by_cases h1:m=1
 ·rw [if_pos h1] at hn;cases hn
 rw [if_neg h1] at hn;have hm:m ∉ fs:=by
  intro z;rw [Yfa,List.idxOf?_eq_none_iff] at hn;exact hn z
 rw [idxOf?_app fs n m hm];by_cases hnm:n=m
 ·subst hnm;simp [h0,h1]
 ·simp [hnm]
theorem Zbc {fs:List Int}{n a:Int}(h:OM fs n=some a)(h1:1<n):2<=a/\fs[(a-2).toNat]?=some n:=by
 unfold OM at h;rw [if_neg (by lia),if_neg (by lia)] at h;cases hi:fs.idxOf? n with
 | none=>rw [hi] at h;cases h
 | some i=>
  rw [hi] at h;cases h;refine ⟨by show (2:Int)<=(i:Int)+2;lia,?_⟩;show fs[((i:Int)+2-2).toNat]?=some n;rw [show ((i:Int)+2-2).toNat=i by lia];rw [List.idxOf?_eq_some_iff] at hi;obtain ⟨hl,e,_⟩:=hi;rw [Ybd hl,e]
theorem ZK (fs:List Int):OM fs 0=some 0:=by unfold OM;rw [if_pos rfl]
theorem Zbd (fs:List Int):OM fs 1=some 1:=by unfold OM;rw [if_neg (by decide),if_pos rfl]
theorem ZL {fs:List Int}{m:Int}(h:OM fs m=none):m≠0/\m≠1/\m ∉ fs:=by
 unfold OM at h;by_cases h0:m=0
 ·rw [if_pos h0] at h;cases h
 rw [if_neg h0] at h;by_cases h1:m=1
 ·rw [if_pos h1] at h;cases h
 rw [if_neg h1] at h;refine ⟨h0,h1,λz=>?_⟩;rw [Yfa,List.idxOf?_eq_none_iff] at h;exact h z
noncomputable def Said (ks:List Tri)(fs:List Int)(us:List Tri)(i:Nat):Prop:=∀(j:Nat)(x:Int),j<i->fs[j]?=some x->∃(r:Tri)(a b:Int),Nd ks x r/\OM fs r.2.1=some a/\OM fs r.2.2=some b/\us[j]?=some (r.1,a,b)
theorem Said.at {ks:List Tri}{fs:List Int}{us:List Tri}(S:Said ks fs us fs.length){c lo a:Int}(h:At ks c lo)(e:OM fs c=some a):At us a lo:=by
 rcases h with rfl | rfl | ⟨r,n,g⟩
 ·rw [ZK] at e;cases e;exact .inl rfl
 ·rw [Zbd] at e;cases e;exact .inr (.inl rfl)
 ·obtain ⟨h2,e2⟩:=Zbc e (by have:=n.1;lia);obtain ⟨r',a',b',n',_,_,e'⟩:=S _ _ (Yau.mp e2).1 e2;rw [n'.one n] at e';exact .inr (.inr ⟨_,⟨h2,e'⟩,g⟩)
theorem Said.tab {ks:List Tri}{fs:List Int}{us:List Tri}(T:TabOk ks)(S:Said ks fs us fs.length)(hl:us.length=fs.length):TabOk us:=by
 intro i q e;have hi:i<fs.length:=by rw [<-hl];exact (Yau.mp e).1
 obtain ⟨r,a,b,n,ha,hb,e'⟩:=S i _ hi (Ybd hi);rw [e] at e';cases e';obtain ⟨h1,h2,h3⟩:=T.nd n;exact ⟨h1,S.at h2 ha,S.at h3 hb⟩
theorem Said.snoc {ks:List Tri}{fs:List Int}{us:List Tri}{i:Nat}(S:Said ks fs us i)(hl:us.length=i){x:Int}{r:Tri}{a b:Int}(e:fs[i]?=some x)(n:Nd ks x r)(ha:OM fs r.2.1=some a)(hb:OM fs r.2.2=some b):Said ks fs (us++[(r.1,a,b)]) (i+1):=by
 intro j y hj ey;by_cases h:j<i
 ·obtain ⟨r',a',b',h1,h2,h3,h4⟩:=S j y h ey;exact ⟨r',a',b',h1,h2,h3,by rw [Ydc (by lia)];exact h4⟩
 ·have:j=i:=by lia
  subst this;rw [e] at ey;cases ey;refine ⟨r,a,b,n,ha,hb,?_⟩;rw [Ydn (by lia),hl,Nat.sub_self]
  rfl
noncomputable def UL (r:Tri):List Key:=[.inl r.1,.inl r.2.1,.inl r.2.2]
theorem Zbe {r q:Tri}(h:UL r=UL q):r=q:=by
 obtain ⟨a,b,c⟩:=r;obtain ⟨d,e,f⟩:=q;unfold UL at h;simp only [List.cons.injEq,Sum.inl.injEq,and_true] at h;obtain ⟨rfl,rfl,rfl⟩:=h
 rfl
noncomputable def SeenOk (kvs:List (List Key×V))(ks:List Tri):Prop:=∀r:Tri,∀v:V,JP kvs (UL r)=some v->∃c:Int,v=.int c/\Nd ks c r
theorem SeenOk.add {kvs:List (List Key×V)}{ks:List Tri}(S:SeenOk kvs ks){r:Tri}{c:Int}(hc:c=(ks.length:Int)+2):SeenOk (JL kvs (UL r) (.int c)) (ks++[r]):=by
 intro q v e;rw [Jn] at e;by_cases h:UL q=UL r
 ·rw [if_pos h] at e;cases e;have:=Zbe h;subst this;exact ⟨c,rfl,hc▸Nd.last ks q⟩
 ·rw [if_neg h] at e;obtain ⟨d,e1,e2⟩:=S q v e;exact ⟨d,e1,e2.app _⟩
section
variable {P:Program}{w:World}{A:Around}{E:EX}{s:Shared}{Ad:Addr->List Int->Prop}
noncomputable abbrev GD (P:Program)(w:World)(r:List Int):Int:=tupleKeyHash (intKind P w) r
noncomputable def IsTu (P:Program)(w:World)(h:Heap)(r:List Int)(a:Addr):Prop:=IsTupleKey (intKind P w) h r a
noncomputable def Yo (P:Program)(w:World)(Ad:Addr->List Int->Prop)(h:Heap)(e:Int×Value)(r:List Int):Prop:=e.1=GD P w r/\∃a,e.2=.ref a/\IsTu P w h r a/\Ad a r
theorem IsTu.keep {h h':Heap}{r:List Int}{a:Addr}(x:IsTu P w h r a)(k:∀o,h.get? a=some o->h'.get? a=some o):IsTu P w h' r a:=by
 obtain ⟨o,its,n,h1,h2⟩:=x;exact ⟨o,its,n,k _ h1,h2⟩
theorem JY:∀{h:Heap}{l:List (Int×Value)}{ps:List (List Int)},Paired (Yo P w Ad h) l ps->∀{i:Nat}{e:Int×Value},l[i]?=some e->∃r,ps[i]?=some r/\Yo P w Ad h e r
 | _,_,_,.nil,i,e,z=>by simp at z
 | _,_,_,.cons h0 t,0,e,z=>by simp at z;subst z;exact ⟨_,rfl,h0⟩
 | _,_,_,.cons h0 t,i+1,e,z=>by
  obtain ⟨r,h1,h2⟩:=JY t (i:=i) (e:=e) (by simpa using z);exact ⟨r,by simpa using h1,h2⟩
theorem UZ {h:Heap}{l l':List (Int×Value)}(p:l'.Perm l):∀{σ:List (List Int)},Paired (Yo P w Ad h) l σ->∃ σ',Paired (Yo P w Ad h) l' σ'/\σ'.Perm σ:=by
 induction p with
 | nil=>intro σ h;cases h;exact ⟨[],.nil,.refl _⟩
 | cons x _ ih=>
  intro σ h;cases h with
  | cons h t=>
   obtain ⟨σ',h1,h2⟩:=ih t;exact ⟨_,.cons h h1,h2.cons _⟩
 | swap x y l=>
  intro σ h;cases h with
  | cons h t=>
   cases t with
   | cons h' t=>exact ⟨_,.cons h' (.cons h t),.swap _ _ _⟩
 | trans _ _ ih1 ih2=>
  intro σ h;obtain ⟨σ1,h1,p1⟩:=ih2 h;obtain ⟨σ2,h2,p2⟩:=ih1 h1;exact ⟨σ2,h2,p2.trans p1⟩
theorem Wq:∀{h:Heap}{l k:List (Int×Value)}{σ τ:List (List Int)},Paired (Yo P w Ad h) l σ->Paired (Yo P w Ad h) k τ->Paired (Yo P w Ad h) (l++k) (σ++τ)
 | _,_,_,_,_,.nil,h=>h
 | _,_,_,_,_,.cons h t,k=>.cons h (Wq t k)
theorem UA {a:Addr}{r:List Int}{Q:Bool->Shared->Prop}(hx:IsTu P w s.heap r a)(h:Q false s):wpAny (model P w) A (ofAClassStatement 8 (.ref a)) Q E s:=by
 have hT:=IsTupleKey.typeIs hx;obtain ⟨o,its,n,ho,hc,hd,hi⟩:=hx;unfold ofAClassStatement;apply Yaa;apply Ydo hT;apply Yaa;apply Yab;apply Yaa;apply wpAny_seqItems ho hd;dsimp only;apply Yaa;rw [<-Array.forIn_toList];refine wpAny_forIn_list _ (λrest c s'=>c.1=none/\s'=s/\∀v∈rest,∃i t,v=Value.int i t) _ ?_ ?_ _ _ ⟨rfl,rfl,Wo hi⟩
 ·rintro v rest c s' ⟨hr,rfl,qK⟩;obtain ⟨i,t,rfl⟩:=qK v Ybe;apply Yaa;apply Yab;rw [if_neg Yaj];exact Yab ⟨rfl,rfl,λu hu=>qK u (Ybb _ hu)⟩
 ·rintro ⟨c1,c2⟩ s' ⟨hr,rfl,_⟩;simp only at hr;subst hr;exact Yab h
theorem Yp {b:Addr}{r:List Int}{l:List Value}{Q:Bool->Shared->Prop}(hx:IsTu P w s.heap r b)(hl:∀v∈l,∃a r',v=Value.ref a/\IsTu P w s.heap r' a)(h:Q false s):wpAny (model P w) A (searchCouldBeSeen (.ref b) l) Q E s:=by
 unfold searchCouldBeSeen;apply Yaa;refine wpAny_forIn_list _ (λrest c s'=>c.1=none/\s'=s/\∀v∈rest,∃a r',v=Value.ref a/\IsTu P w s.heap r' a) _ ?_ ?_ _ _ ⟨rfl,rfl,hl⟩
 ·rintro v rest c s' ⟨hr,rfl,qK⟩;obtain ⟨a,r',rfl,hy⟩:=qK v Ybe;have nxt:∀u∈rest,∃a r',u=Value.ref a/\IsTu P w s'.heap r' a:=λu hu=>qK u (Ybb _ hu);dsimp only;by_cases hv:((b == a) || (carriedByValue (.ref b) && carriedByValue (.ref a)))=true
  ·rw [if_pos hv];exact Yab ⟨rfl,rfl,nxt⟩
  ·rw [if_neg hv];apply Yaa;refine wpAny_eqIsQuiet_tuple hx ?_;rw [if_neg (by decide)];apply Yaa;refine wpAny_eqIsQuiet_tuple hy ?_;rw [if_neg (by decide)];apply Yaa;refine UA hx ?_;rw [if_neg Yaj];apply Yaa;refine UA hy ?_;rw [if_neg Yaj];exact Yab ⟨rfl,rfl,nxt⟩
 ·rintro ⟨c1,c2⟩ s' ⟨hr,rfl,_⟩;simp only at hr;subst hr;exact Yab h
section
variable {a b:Addr}{o:Obj}{es:Array (Int×Value)}{ep:Nat}{t:SetTable}{ps:List (List Int)}{r:List Int}{Q:SetFound->Shared->Prop}
theorem Og (hu:A.units<cLine)(ho:s.heap.get? a=some o)(hd:o.data=.set es ep t)(S:SOk t es)(hE:Paired (Yo P w Ad s.heap) es.toList ps)(hx:IsTu P w s.heap r b)(hyes:r∈ps->Q (.there none) s)(hno:r ∉ ps->∀n,(GH t.mask n (st0 t.mask (GD P w r))).j ∉ t.place.toList->(∀q,q<n->(GH t.mask q (st0 t.mask (GD P w r))).j∈t.place.toList)->Q (.free (GH t.mask n (st0 t.mask (GD P w r))).j false) s)(N:Nat)(hN:N+10<10 * SetTable.turns t.mask)(hNe:(GH t.mask N (st0 t.mask (GD P w r))).j ∉ t.place.toList) :
  ∀(jQ q:Nat)(stand:Option SetTable.Probe),stand.getD (st0 t.mask (GD P w r))=GH t.mask q (st0 t.mask (GD P w r))->q<=N->N-q<jQ ->
   (∀m,m<q->∃i:Nat,t.place[i]?=some (GH t.mask m (st0 t.mask (GD P w r))).j/\∀r',ps[i]?=some r'->r'≠r) ->
   wpAny (model P w) A (setSearchFrom a (.ref b) (GD P w r) true jQ stand) Q E s
 | 0,q,stand,_,_,hf,_=>absurd hf (Yds _)
 | jQ+1,q,stand,hst,hq,hf,hold=>by
  have qV:t.place.size=es.size:=by rw [S.T.len,Jf]
  have hpl:=Ycj hE;rw [Yai] at hpl;unfold setSearchFrom;apply Yaa;refine Yef ho hd S.fits ?_;dsimp only;rw [S.T.odd,if_neg Yaj,ZdW,hst];have hbase:(GH t.mask q (st0 t.mask (GD P w r))).dummy=none:=by rw [UV];rfl
  have sp:=ZA (t:=t) (ha:=hAt es) (h:=GD P w r) S.T.rise S.T.dum (10 * SetTable.turns t.mask) (GH t.mask q (st0 t.mask (GD P w r))) ⟨N-q,by lia,by rw [<-GR,show q+(N-q)=N by lia];exact hNe⟩;have live_of:∀m,(∃i:Nat,t.place[i]?=some (GH t.mask m (GH t.mask q (st0 t.mask (GD P w r)))).j/\hAt es i≠GD P w r)->∃i:Nat,t.place[i]?=some (GH t.mask (q+m) (st0 t.mask (GD P w r))).j/\∀r',ps[i]?=some r'->r'≠r:=by
   rintro m ⟨i,h1,h2⟩;refine ⟨i,by rw [GR];exact h1,λr' hr' e=>?_⟩;subst e;apply h2;have hi:i<es.size:=by
    have:=(Yau.mp hr').1
    lia
   obtain ⟨r2,e1,e2⟩:=JY hE (i:=i) (e:=es[i]) (by rw [Yaq,Yav hi]);rw [hr'] at e1;cases e1;unfold hAt;rw [Yav hi];exact e2.1
  have upto:∀n,(∀m,m<n->∃i:Nat,t.place[i]?=some (GH t.mask m (GH t.mask q (st0 t.mask (GD P w r)))).j/\hAt es i≠GD P w r)->∀m,m<q+n->∃i:Nat,t.place[i]?=some (GH t.mask m (st0 t.mask (GD P w r))).j/\∀r',ps[i]?=some r'->r'≠r:=by
   intro n h m hm;rcases Nat.lt_or_ge m q with z | z
   ·exact hold m z
   ·have:=live_of (m-q) (h (m-q) (by lia));rw [show q+(m-q)=m by lia] at this;exact this
  rcases sp with ⟨n,g1,g2,g3⟩ | ⟨n,i,g1,g2,g3,g4⟩
  ·have em:t.probe (hAt es) (GD P w r) (GH t.mask q (st0 t.mask (GD P w r)))=some (.empty (GH t.mask (q+n) (st0 t.mask (GD P w r))).j none):=by
    unfold SetTable.probe;rw [g1,hbase,GR]
   generalize hm:t.probe _ (GD P w r) (GH t.mask q (st0 t.mask (GD P w r)))=mm;have hmm:mm=some (.empty (GH t.mask (q+n) (st0 t.mask (GD P w r))).j none):=by rw [<-hm];exact em
   subst hmm;dsimp only;have all:=upto n g3;rw [<-GR] at g2;refine Yab (hno (λhin=>?_) (q+n) g2 λm hm'=>by obtain ⟨i,hi,_⟩:=all m hm';exact JH hi);obtain ⟨i,hi,e⟩:=Ydd hin;have hi':i<es.size:=by lia
   have hpi:ps[i]?=some r:=by rw [Ybd hi,e]
   obtain ⟨r2,e1,e2⟩:=JY hE (i:=i) (e:=es[i]) (by rw [Yaq,Yav hi']);rw [hpi] at e1;cases e1;have hpj:t.place[i]?=some (t.place[i]'(by lia)):=Yav (by lia);obtain ⟨m,r1,r3⟩:=S.T.rch i (GD P w r) _ (by rw [Ybk,Yaq,Yav hi'];exact Ybf some e2.1) hpj;rcases Nat.lt_trichotomy m (q+n) with z | z | z
   ·obtain ⟨i2,h1,h2⟩:=all m z;rw [r1] at h1;have:i2=i:=by
     have b1:=Uk S.T.rise h1;have b2:=Uk S.T.rise hpj
     lia
    subst this;exact h2 r hpi rfl
   ·subst z;rw [r1] at g2;exact g2 (JH hpj)
   ·exact g2 (r3 (q+n) z)
  ·have em:t.probe (hAt es) (GD P w r) (GH t.mask q (st0 t.mask (GD P w r)))=some (.candidate (GH t.mask (q+n) (st0 t.mask (GD P w r))).j i (GH t.mask (q+n+1) (st0 t.mask (GD P w r)))):=by
    unfold SetTable.probe;rw [g1,<-GR,<-GR,Nat.add_assoc]
   generalize hm:t.probe _ (GD P w r) (GH t.mask q (st0 t.mask (GD P w r)))=mm;have hmm:mm=some (.candidate (GH t.mask (q+n) (st0 t.mask (GD P w r))).j i (GH t.mask (q+n+1) (st0 t.mask (GD P w r)))):=by rw [<-hm];exact em
   subst hmm;dsimp only;rw [<-GR] at g2;have hi':i<es.size:=by
    have:=(Array.getElem?_eq_some_iff.mp g2).1
    lia
   obtain ⟨r2,e1,e2,c,e3,e4,_⟩:=JY hE (i:=i) (e:=es[i]) (by rw [Yaq,Yav hi']);have hnN:q+n<N:=by
    rcases Nat.lt_trichotomy (q+n) N with z | z | z
    ·exact z
    ·subst z;exact absurd (JH g2) hNe
    ·obtain ⟨i2,h1,_⟩:=upto n g4 N z;exact absurd (JH h1) hNe
   have hsame:t.sameMemory t.moves t.mask=some true:=by unfold SetTable.sameMemory;simp
   have hslot:t.slot (GH t.mask (q+n) (st0 t.mask (GD P w r))).j=.live i:=Zz t S.T.rise g2;have hget:es[i]?=some (es[i].1,es[i].2):=Yav hi';rw [hget];rw [e3];rw [e3] at hget;have lst:∀v∈List.map (λx:Int×Value=>x.2) (Array.filter (λx:Int×Value=>x.1 == GD P w r) es).toList,∃a r',v=Value.ref a/\IsTu P w s.heap r' a:=by
    intro v hv;obtain ⟨e,he,rfl⟩:=Yar.mp hv;rw [Array.toList_filter] at he;obtain ⟨j,hj,ej⟩:=Ydd (Yca.mp he).1;obtain ⟨r3,_,_,c3,e5,e6,_⟩:=JY hE (i:=j) (e:=e) (by rw [Ybd hj,ej]);exact ⟨c3,r3,e5,e6⟩
   have hcase:∀{Z:Sem SetFound},wpAny (model P w) A Z Q E s->wpAny (model P w) A (if (!t.led)=true then do
      let u <- searchCouldBeSeen (Value.ref b) (List.map (λx:Int×Value=>x.2) (Array.filter (λx:Int×Value=>x.1 == GD P w r) es).toList)
      if u=true then do
       unsupported "set:the-search-would-show-the-table"
       Z
      else Z
     else Z) Q E s:=by
    intro Z hZ;cases hl:t.led with
    | true=>
     rw [if_neg (show ¬ ((!true)=true) by decide)];exact hZ
    | false=>
     rw [if_pos (show (!false)=true by decide)];apply Yaa;refine Yp hx lst ?_;rw [if_neg Yaj];exact hZ
   refine hcase ?_;apply Yaa;apply Ybp;refine wpAny_eqBool_tuple hu e4 hx ?_;apply Yaa;refine Yef ho hd S.fits ?_;dsimp only;by_cases heq:r2=r
   ·subst heq;rw [Yba rfl,if_pos (show (true && true)=true from rfl)];exact Yab (hyes (Ybg e1))
   ·have hdec:decide (r2=r)=false:=Ybj heq;rw [hdec,if_neg (show ¬ ((true && false)=true) from Yaj),hsame];dsimp only;rw [if_pos rfl,hslot];dsimp only;rw [hget];dsimp only;apply Yaa;have hrr:(c == c)=true:=by simp
    show wpAny _ _ (if (c == c)=true then pure true else _) _ _ s;rw [if_pos hrr];apply Yab;apply Yaa;apply Yab;rw [if_pos rfl];dsimp only;rw [if_neg Yaj];refine Og hu ho hd S hE hx hyes hno N hN hNe jQ (q+n+1) _ rfl (by lia) (by lia) λm hm'=>?_;rcases Nat.lt_or_ge m (q+n) with z | z
    ·exact upto n g4 m z
    ·have:m=q+n:=by lia
     subst this;exact ⟨i,g2,λr' hr'=>by rw [e1] at hr';cases hr';exact heq⟩
end
theorem WL {a:Addr}{r:List Int}{Q:Bool->Shared->Prop}(hx:IsTu P w s.heap r a)(h:Q true s):wpAny (model P w) A (hashByValue 8 (.ref a)) Q E s:=by
 have hT:=IsTupleKey.typeIs hx;obtain ⟨o,its,n,ho,hc,hd,hi⟩:=hx;unfold hashByValue;apply Yaa;refine wpAny_specialOf hT F.slot_tuple_hash.lookup ?_;dsimp only;apply Yaa;apply wpAny_seqItems ho hd;apply Yaa;show wpAny _ _ (forIn its _ _) _ _ s;rw [<-Array.forIn_toList];refine wpAny_forIn_list _ (λrest c s'=>c.1=none/\s'=s/\∀v∈rest,∃i t,v=Value.int i t) _ ?_ ?_ _ _ ⟨rfl,rfl,Wo hi⟩
 ·rintro v rest c s' ⟨hr,rfl,qK⟩;obtain ⟨i,t,rfl⟩:=qK v Ybe;apply Yaa;rw [hashByValue_scannable 7 (x:=.int i t) rfl];apply Yab;rw [if_neg (show ¬ ((!plainKind (Value.int i t))=true) from Yaj)];exact Yab ⟨rfl,rfl,λu hu=>qK u (Ybb _ hu)⟩
 ·rintro ⟨c1,c2⟩ s' ⟨hr,rfl,_⟩;simp only at hr;subst hr;exact Yab h
noncomputable def Zbf (P:Program)(w:World)(Ad:Addr->List Int->Prop)(h0:Heap)(o:Obj)(ps:List (List Int)):Prop:=∃es ep t,o.ExactSet/\o.data=.set es ep t/\Paired (Yo P w Ad h0) es.toList ps/\ps.Nodup/\SOk t es/\t.plain=true/\t.led=!JX w
theorem U0 {h h':Heap}:∀{l:List (Int×Value)}{ps:List (List Int)},Paired (Yo P w Ad h) l ps->(∀b o,h.get? b=some o->h'.get? b=some o)->Paired (Yo P w Ad h') l ps
 | _,_,.nil,_=>.nil
 | _,_,.cons ⟨h1,a,h2,h3,h4⟩ t,k=>.cons ⟨h1,a,h2,h3.keep (λo e=>k a o e),h4⟩ (U0 t k)
theorem ZcN {a b:Addr}{o:Obj}{h0:Heap}{ps:List (List Int)}{r:List Int}{Q:Bool->Shared->Prop}(hu:A.units<cLine)(h00:∀c o',h0.get? c=some o'->s.heap.get? c=some o')(ho:s.heap.get? a=some o)(hS:Zbf P w Ad h0 o ps)(hx:IsTu P w h0 r b)(hA:Ad b r)(h76:ps.length+1<=1228)(h:∀(c:Bool)(h':Heap)(o':Obj)(ps':List (List Int)),Heap.SameBut a s.heap h'->h'.get? a=some o'->Zbf P w Ad h0 o' ps'->ps'.Perm (if r∈ps then ps else ps++[r])->Q c { s with heap:=h' }) :
  wpAny (model P w) A (setAddHashed a (.ref b) (GD P w r)) Q E s:=by
 obtain ⟨es,ep,t,hex,hd,hE,hnd,S,hpl0,hled0⟩:=id hS;have qV:=Ycj hE;rw [Yai] at qV;have hE':=U0 hE h00;have hx':IsTu P w s.heap r b:=hx.keep λo' e=>h00 b o' e;obtain ⟨N,hN,hNe⟩:=S.T.empty S.le (GD P w r);have hturn:10 * SetTable.turns t.mask<=20700:=by
  unfold SetTable.turns;rcases S.T.mask with e | e | e | e | e <;> lia
 unfold setAddHashed setAddHashedIn;apply Ybp;apply Yaa;refine Yef ho hd S.fits ?_;dsimp only;have hbs:byScan (.ref b) es=false:=rfl;rw [hbs,if_neg Yaj];apply Yaa;unfold setSearch;refine Og hu ho hd S hE' hx' ?_ ?_ N hN hNe 100000 0 none rfl (Yao _) (by lia) (λm hm=>absurd hm (Yds _))
 ·intro hin;dsimp only;refine Yab ?_;exact h false s.heap o ps (Heap.SameBut.refl a s.heap) ho hS (by rw [if_pos hin])
 ·intro hnot n hn qK;dsimp only;apply Yaa;refine Yef ho hd S.fits ?_;dsimp only;obtain ⟨T1,hf1⟩:=S.put (.ref b) hn qK;have hz1:(SetTable.insertAt es (t.put (GH t.mask n (st0 t.mask (GD P w r))).j).2 (GD P w r,Value.ref b)).size=es.size+1:=Vp _ _ _;have hperm:=SetTable.insertAt_perm es (t.put (GH t.mask n (st0 t.mask (GD P w r))).j).2 (GD P w r,Value.ref b);rw [Yee] at hperm;have hm1:(t.put (GH t.mask n (st0 t.mask (GD P w r))).j).1.mask=t.mask:=rfl;have hpl1:(t.put (GH t.mask n (st0 t.mask (GD P w r))).j).1.plain=t.plain:=rfl;have hled1:(t.put (GH t.mask n (st0 t.mask (GD P w r))).j).1.led=t.led:=rfl;generalize htp:t.put (GH t.mask n (st0 t.mask (GD P w r))).j=tp at T1 hf1 hz1 hperm hm1 hpl1 hled1 ⊢;obtain ⟨t1,p1⟩:=tp;dsimp only at T1 hf1 hz1 hperm hm1 hpl1 hled1 ⊢;have hE1:Paired (Yo P w Ad h0) (es.toList++[(GD P w r,Value.ref b)]) (ps++[r]):=Wq hE (.cons ⟨rfl,b,rfl,hx,hA⟩ .nil);obtain ⟨ps1,hE2,hp2⟩:=UZ hperm hE1;have hnd1:(ps++[r]).Nodup:=Ycn.mpr ⟨hnd,by simp,λc hc d hd'=>by
   rw [Yaw] at hd';subst hd';intro z;exact hnot (z▸hc)⟩
  generalize hes1:SetTable.insertAt es p1 (GD P w r,Value.ref b)=es1 at T1 hz1 hperm hE2 ⊢;have hz:es1.size<=sizeLine:=by rw [Ybh];lia
  have store:∀(bv:Bool),bv=true->wpAny (model P w) A (do
    storeSet a es1 (if bv=true then t1 else { t1 with plain:=false })
    if (!false && (if bv=true then t1 else { t1 with plain:=false }).tooFull)=true then do
     setRelay a (SetTable.grown (es.size+1))
     pure true
    else pure true) Q E s:=by
   intro bv hbv;obtain ⟨t1',et1,T1',hm1',hp1',hl1'⟩:∃t1':SetTable,(if bv=true then t1 else { t1 with plain:=false })=t1'/\TOk t1' (Za6 es1)/\t1'.mask=t.mask/\t1'.plain=t.plain/\t1'.led=t.led:=by
    subst hbv;exact ⟨t1,rfl,T1,hm1,hpl1,hled1⟩
   rw [et1];apply Yaa;refine wpAny_storeSet_of ho hd ?_ hz;have ho1:=Wn ho hd es1 t1';have sb1:=Yeo s.heap a (Obj.putSet es1 t1');rcases ZD S (by lia) T1' (by rw [Jf];exact hz1) hm1' with ⟨hfull,hwhen⟩ | ⟨hfull,jJ⟩
   ·rw [hfull,if_pos (show (!false && true)=true from rfl)];rw [<-hz1] at hwhen ⊢;obtain ⟨t2,od,eR,hp,S2,hl2,hpl2,h128⟩:=Za7 T1' hwhen;have hfit1:t1'.fits es1.size=true:=by
     have:=T1'.fits (by rw [Jf];rcases hwhen with ⟨q1,q2⟩ | ⟨q1,q2⟩ | ⟨q1,q2⟩ | ⟨q1,q2⟩ <;> lia);rw [Jf] at this;exact this
    apply Yaa;unfold setRelay;apply Yaa;refine Yef ho1 rfl hfit1 ?_;dsimp only;rw [if_neg (by rw [Ybh];lia)];apply Yaa;rw [eR];have hp3:=JF hp;have hz2:(od.filterMap (es1[·]?)).size=es1.size:=by
     have:=hp3.length_eq;rw [Yai,Yai] at this;exact this
    obtain ⟨ps2,hE3,hp4⟩:=UZ hp3 hE2;show wpAny _ _ (if ((od.filterMap (es1[·]?)).size != es1.size)=true then _ else _) _ _ _;rw [if_neg (by rw [hz2];simp)];apply Yab;dsimp only;refine wpAny_storeSet_of ho1 rfl ?_ (by rw [hz2];exact hz);apply Yab;refine h true _ _ ps2 (sb1.trans (Yeo _ a _)) (Wn ho1 rfl _ t2) ⟨_,_,t2,hex,rfl,hE3,(hp4.trans hp2).nodup_iff.mpr hnd1,S2,by rw [hpl2,hp1'];exact hpl0,by rw [hl2,hl1'];exact hled0⟩ ?_;rw [if_neg hnot];exact hp4.trans hp2
   ·rw [hfull,if_neg (show ¬ ((!false && false)=true) from Yaj)];apply Yab;refine h true _ _ ps1 sb1 ho1 ⟨es1,_,t1',hex,rfl,hE2,hp2.nodup_iff.mpr hnd1,⟨T1',by rw [hz1];exact jJ⟩,by rw [hp1'];exact hpl0,by rw [hl1'];exact hled0⟩ ?_;rw [if_neg hnot];exact hp2
  cases hpl:t1.plain with
  | true=>
   rw [if_pos rfl];apply Yaa;refine WL hx' ?_;exact store true rfl
  | false=>
   rw [if_neg Yaj];apply Yaa;apply Yab;exact store true rfl
end
theorem ZM (P:Program)(w:World)(Ad:Addr->List Int->Prop)(h0:Heap):Zbf P w Ad h0 (G5 w) []:=⟨#[],0,_,⟨rfl,rfl,rfl⟩,rfl,.nil,Yea,SOk.fresh 0 0 _,rfl,rfl⟩
section
variable {X:Cx}(K:W.Frag)
theorem U1 {P:Program}{w:World}:∀{r:List Int}{us:List Value},Vals (r.map V.int) us->ItemsAre (intKind P w) r us
 | [],_,.nil=>.nil
 | _::_,_,.cons h t=>by
  obtain ⟨t1,rfl⟩:=h;exact .cons (intKind_is _ _ _ _) (U1 t)
theorem ZcO {P:Program}{w:World}{H:Hp}{h:Heap}(I:HOk P w H h){t:Addr}{r:List Int}(e:H t=some (.tup (r.map V.int))):IsTu P w h r t:=by
 obtain ⟨_,its,rv,o,ho,hc,n,hd⟩:=I t _ e;exact ⟨o,its.toArray,n,ho,hc,hd,U1 rv⟩
inductive Tus (H:Hp):List V->List (List Int)->Prop
 | nil:Tus H [] []
 | cons {p:Addr} {r:List Int} {xs:List V} {rs:List (List Int)}:H p=some (.tup (r.map V.int))->Tus H xs rs->Tus H (.ref p::xs) (r::rs)
theorem Tus.len {H:Hp}{xs:List V}{rs:List (List Int)}(h:Tus H xs rs):xs.length=rs.length:=by
 induction h with
 | nil=>rfl
 | cons _ _ ih=>rw [Ybn,Ybn,ih]
theorem Tus.get {H:Hp}:∀{xs:List V}{rs:List (List Int)},Tus H xs rs->∀{i:Nat}{x:V},xs[i]?=some x->∃t r,x=.ref t/\H t=some (.tup (r.map V.int))/\rs[i]?=some r
 | _,_,.nil,_,_,h=>by simp at h
 | _,_,.cons (r:=r) e _,0,_,h=>by
  simp at h;subst h;exact ⟨_,r,rfl,e,rfl⟩
 | _,_,.cons _ t,i+1,_,h=>by
  rw [Yey] at h ⊢;exact Tus.get t h
end
noncomputable def chT (ks:List Tri)(x:Int):List Int:=match ks[(x-2).toNat]? with | some r=>[r.2.1,r.2.2] | none=>[]
theorem Zb3 {ks:List Tri}{x:Int}{r:Tri}(n:Nd ks x r):chT ks x=[r.2.1,r.2.2]:=by unfold chT;rw [n.2]
noncomputable def ZN (ks:List Tri)(root:Int)(f:List Int):List Int:=root::f.flatMap (chT ks)
theorem ZO (ks:List Tri)(root:Int)(f:List Int)(x:Int):ZN ks root (f++[x])=ZN ks root f++chT ks x:=by
 unfold ZN;rw [List.flatMap_append,List.flatMap_cons,List.flatMap_nil,Ydv]
 rfl
noncomputable def New (f:List Int)(x:Int):Prop:=x≠0/\x≠1/\x ∉ f
theorem New.num {f:List Int}{x:Int}:New f x↔OM f x=none:=by
 constructor
 ·rintro ⟨h0,h1,h2⟩;unfold OM;rw [if_neg h0,if_neg h1,Yfa,List.idxOf?_eq_none_iff];exact h2
 ·intro h;exact ZL h
noncomputable def Ext (ks:List Tri)(root:Int)(f:List Int)(x:Int):Prop:=∃p q,ZN ks root f=p++x::q/\New f x/\∀y∈p,¬ New f y
inductive Rch (ks:List Tri)(root:Int):List Int->Prop
 | nil:Rch ks root []
 | snoc {f:List Int} {x:Int}:Rch ks root f->Ext ks root f x->Rch ks root (f++[x])
noncomputable def Fin (ks:List Tri)(root:Int)(f:List Int):Prop:=∀y∈ZN ks root f,¬ New f y
theorem Vr {K:PySem.W.Frag}{a D:Addr}{xs:List V}{g:TG}{tc:TT}{te:TE}{σ0:St}{R:Hp->Prop}{H1:Hp}(Pv:Nat->List V->Hp->Prop)(h0:Pv 0 [] (upd H1 D (.lst [])))(hl:∀i ys H,i<=xs.length->Pv i ys H->SqT K H a xs)(hs:∀i x ys H,xs[i]?=some x->Pv i ys H->g x σ0 H λσ4 H4=>JA σ0 σ4/\tc σ4 H4 λb H5=>if b=true then te σ4 H5 λy H6=>H6 D=some (.lst ys)/\ys.length<sizeLine/\Pv (i+1) (ys++[y]) (upd H6 D (.lst (ys++[y]))) else Pv (i+1) ys H5)(hd:∀ys H,Pv xs.length ys H->R H):∃W:Nat->Nat->List V->Hp->Prop,(∃m,W 0 m [] (upd H1 D (.lst [])))/\Jt (Itt K a) D g tc te σ0 W R:=by
 refine ⟨λi m ys H=>m=xs.length-i/\i<=xs.length/\Pv i ys H,⟨_,rfl,Yao _,h0⟩,?_⟩;rintro i m ys H ⟨rfl,hi,p⟩;have q:=hl i ys H hi p;by_cases hlt:i<xs.length
 ·refine .inr ⟨⟨xs,xs[i],q,by simp [hlt]⟩,Pv (i+1),λys' H' p'=>⟨xs.length-(i+1),by lia,rfl,hlt,p'⟩,λx H' y=>?_⟩;obtain ⟨e,y⟩:=y;subst e;exact hs i x ys _ (y xs q) p
 ·have e:i=xs.length:=by lia
  subst e;exact .inl ⟨⟨xs,q,Yae _⟩,hd ys H p⟩
set_option maxRecDepth 8000 in
theorem Yq (l:Addr)(items:Array Value)(n:Nat)(b:Addr)(items2:Array Value)(n2:Nat)(dc:Option Addr)(sl:Array (Option Value))(hs0:¬(!items.isEmpty && Builtin.List.listTooLong (items.size+items2.size))=true)(hs1:items.size<=sizeLine)(hs2:items.size+items2.size<=sizeLine+1) :
  Meets (Builtin.«list.extend» ⟨[.ref l,.ref b],[]⟩) (λ_ R s=>s.heap.get? l=some { cls:=.type "list", dict:=none,data:=.seq items n,slots:=#[] }/\s.heap.get? b=some { cls:=.type "tuple", dict:=dc,data:=.seq items2 n2,slots:=sl }/\R (.ok (.ret Value.none)) { s with heap:=s.heap.update l (Obj.mapSeq λx=>x++items2),toks:=s.toks }):=
 .of_wp λprog w A R s h=>by
  obtain ⟨hp,g,d,tk,os⟩:=s;obtain ⟨hl,hb,h⟩:=h;have f1:=AutoSeq1.idx_int;have f2:=AutoSeq1.sub_tuple_tuple;have f3:=AutoSeq1.sub_list_list;have f4:=AutoSeq1.sub_tuple_list;have f5:=AutoSeq1.sub_list_tuple;have hz':(items++items2).size<=sizeLine+1:=by rw [Array.size_append];exact hs2
  wp_walk using (wpAny_updateSeq hl rfl (hz:=hs1) (_hz':=hz')),AutoSeq1.wpAny_loadPart' hl,AutoSeq1.wpAny_loadPart' hb
  exact ⟨_,rfl,h⟩
section
variable {X:Cx}
noncomputable def Zbg:V->List V->Hp->VK->Prop:=λx vs H Q=>∃l b xs zs,x=.ref l/\vs=[.ref b]/\H l=some (.lst xs)/\H b=some (.tup zs)/\xs.length+zs.length<=sizeLine/\Q .non (upd H l (.lst (xs++zs)))
theorem U2:MtM X "list.extend" Zbg:=by
 intro qQ s σ H x vs v us Q I rx rv h;obtain ⟨l,b,xs,zs,rfl,rfl,hH,hB,hz,q⟩:=h;cases rx;obtain ⟨u,rfl,ru⟩:=rv.one;cases ru;obtain ⟨z,its,n,r,hl,e⟩:=I.lstM hH;obtain ⟨_,its2,r2,o,ho,hc,n2,hd⟩:=I.hok b _ hB;have hl2:=r2.length;have hll:=r.length;have hsz:its.toArray.size+its2.toArray.size<=sizeLine:=by rw [Yan,Yan];lia
 have hlong:¬ (!its.toArray.isEmpty && Builtin.List.listTooLong (its.toArray.size+its2.toArray.size))=true:=by
  rw [Xj hsz,Bool.and_false];exact Yaj
 refine call_meets F.slot_list_extend ⟨_,e,rfl⟩ F.entry_list_extend (F.args_list_extend_2 _ _)
  (Yq l its.toArray n b its2.toArray n2 o.dict o.slots hlong (by rw [Yan];lia) (by lia)) ⟨e,?_,?_⟩
 ·rw [ho];cases o;simp only at hc hd;rw [hc,hd]
 refine ⟨.non,_,I.lset (its':=its++its2) hH e (by simp) (r.append r2) ?_,rfl,q⟩;rw [Yak]
 lia
end
theorem ZcP (ks:List Tri)(x:Int):(chT ks x).length<=2:=by
 unfold chT;split <;> simp
theorem Zbh (ks:List Tri)(root:Int)(f:List Int):(ZN ks root f).length<=1+2 * f.length:=by
 unfold ZN;rw [Ybn];have:(f.flatMap (chT ks)).length<=2 * f.length:=by
  induction f with
  | nil=>simp
  | cons x f ih=>
   have:=ZcP ks x;rw [List.flatMap_cons,Yak,Ybn]
   lia
 lia
theorem nodes_le {ks:List Tri}{fs:List Int}(nd:fs.Nodup)(nod:∀x∈fs,∃r,Nd ks x r):fs.length<=ks.length:=by
 have:=Yde (l₂:=(List.range ks.length).map λ(i:Nat)=>(i:Int)+2) nd λx hx=>by
  obtain ⟨r,n⟩:=nod x hx;have h1:=n.lt;have h2:=n.1;exact Yar.mpr ⟨(x-2).toNat,Ycr.mpr (by lia),by lia⟩
 rw [Yad,List.length_range] at this;exact this
structure Wk (ks:List Tri)(root:Int)(fs:List Int)(kvs:List (Key×V))(pr ah:List Int):Prop where
 e:ZN ks root fs=pr++ah
 old:∀y∈pr,¬ New fs y
 seen:∀n:Int,JP kvs (.inl n)=none↔New fs n
 nd:fs.Nodup
 nod:∀x∈fs,∃r,Nd ks x r
 rch:Rch ks root fs
 kl:kvs.length<=fs.length+2
 ok:∀y∈ah,At ks y (-1)
theorem Wk.le {ks:List Tri}{root:Int}{fs:List Int}{kvs:List (Key×V)}{pr ah:List Int}(h:Wk ks root fs kvs pr ah):fs.length<=ks.length:=nodes_le h.nd h.nod
theorem Wk.ahl {ks:List Tri}{root:Int}{fs:List Int}{kvs:List (Key×V)}{pr ah:List Int}(h:Wk ks root fs kvs pr ah):ah.length<=1+2 * ks.length:=by
 have h1:=Zbh ks root fs;rw [h.e,Yak] at h1;have:=h.le
 lia
theorem Wk.skip {ks:List Tri}{root:Int}{fs:List Int}{kvs:List (Key×V)}{pr ah:List Int}{c:Int}(h:Wk ks root fs kvs pr (c::ah))(n:¬ New fs c):Wk ks root fs kvs (pr++[c]) ah:=by
 refine ⟨by rw [h.e,Ybq];rfl,λy hy=>?_,h.seen,h.nd,h.nod,h.rch,h.kl,λy hy=>h.ok y (Ybb _ hy)⟩;rcases Yal.mp hy with z | z
 ·exact h.old y z
 ·rw [Yaw] at z;rw [z];exact n
theorem Wk.take {ks:List Tri}{root:Int}{fs:List Int}{kvs:List (Key×V)}{pr ah:List Int}{c:Int}{r:Tri}{v:V}(T:TabOk ks)(h:Wk ks root fs kvs pr (c::ah))(n:New fs c)(d:Nd ks c r):Wk ks root (fs++[c]) (JL kvs (.inl c) v) (pr++[c]) (ah++[r.2.1,r.2.2]):=by
 obtain ⟨ht,h1,h2⟩:=T.nd d;have new_iff:∀y,New (fs++[c]) y↔(New fs y/\y≠c):=λy=>by
  unfold New;rw [Yal,Yaw];constructor
  ·rintro ⟨a,b,e⟩;exact ⟨⟨a,b,λz=>e (.inl z)⟩,λz=>e (.inr z)⟩
  ·rintro ⟨⟨a,b,e⟩,f⟩;exact ⟨a,b,λz=>z.elim e f⟩
 refine ⟨?_,λy hy=>?_,λm=>?_,?_,λx hx=>?_,.snoc h.rch ⟨pr,ah,h.e,n,h.old⟩,?_,λy hy=>?_⟩
 ·rw [ZO,h.e,Zb3 d];simp
 ·rw [new_iff];rintro ⟨a,b⟩;rcases Yal.mp hy with z | z
  ·exact h.old y z a
  ·exact b (Yaw.mp z)
 ·rw [Jn,new_iff,<-h.seen m];by_cases e:m=c
  ·rw [if_pos (by rw [e])];exact ⟨λz=>(by cases z),λz=>absurd e z.2⟩
  ·rw [if_neg (λz=>e (Sum.inl.inj z))];exact ⟨λz=>⟨z,e⟩,λz=>z.1⟩
 ·exact Ycn.mpr ⟨h.nd,by simp,λa ha b hb=>by rw [Yaw] at hb;subst hb;exact λz=>n.2.2 (z▸ha)⟩
 ·rcases Yal.mp hx with z | z
  ·exact h.nod x z
  ·rw [Yaw] at z;subst z;exact ⟨r,d⟩
 ·have:=Je kvs (.inl c) v;have:=h.kl;rw [Yak,Ybc]
  lia
 ·rcases Yal.mp hy with z | z
  ·exact h.ok y (Ybb _ z)
  ·rcases Yat.mp z with z | z
   ·rw [z];exact h1.mono (by lia)
   ·rw [Yaw] at z;rw [z];exact h2.mono (by lia)
theorem Wk.fin {ks:List Tri}{root:Int}{fs:List Int}{kvs:List (Key×V)}{pr:List Int}(h:Wk ks root fs kvs pr []):Fin ks root fs:=by
 intro y hy;rw [h.e,Ydv] at hy;exact h.old y hy
theorem UB {n k:Nat}(h:k<n):ixN n (k:Int)=some k:=by
 unfold ixN;rw [if_pos (by lia),if_pos (by lia)]
 rfl
mutual
inductive Th (H:Hp):V->PyData->Prop
 | non:Th H .non .none
 | bl (b:Bool):Th H (.bl b) (.bool b)
 | int (i:Int):Th H (.int i) (.int i)
 | str (x:Str):Th H (.str x) (.str x)
 | lst {a:Addr} {xs:List V} {ds:List PyData}:H a=some (.lst xs)->xs.length<=1000->Ths H xs ds->Th H (.ref a) (.list ds)
 | tup {a:Addr} {xs:List V} {ds:List PyData}:H a=some (.tup xs)->xs.length<=1000->Ths H xs ds->Th H (.ref a) (.tuple ds)
inductive Ths (H:Hp):List V->List PyData->Prop
 | nil:Ths H [] []
 | cons {x:V} {d:PyData} {xs:List V} {ds:List PyData}:Th H x d->Ths H xs ds->Ths H (x::xs) (d::ds)
end
mutual
theorem Th.same {H H':Hp}(s:Same H H'):∀{v:V}{d:PyData},Th H v d->Th H' v d
 | _,_,.non=>.non
 | _,_,.bl b=>.bl b
 | _,_,.int i=>.int i
 | _,_,.str x=>.str x
 | _,_,.lst e z h=>.lst (s _ _ e) z (Ths.same s h)
 | _,_,.tup e z h=>.tup (s _ _ e) z (Ths.same s h)
theorem Ths.same {H H':Hp}(s:Same H H'):∀{vs:List V}{ds:List PyData},Ths H vs ds->Ths H' vs ds
 | _,_,.nil=>.nil
 | _,_,.cons h t=>.cons (Th.same s h) (Ths.same s t)
end
section
variable {X:Cx}{e:Expr}{es:List Expr}{d:PyData}{ds:List PyData}{pos:Pos}
end
section
variable {X:Cx}{a:Expr}{ta:TE}{pos:Pos}
theorem XA (K:W.Frag)(h:X.K=K:=by rfl):JR X (.type "tuple") (λxs H Q=>∃p ys,xs=[.ref p]/\((SqL K H p ys/\∀l,H l=none->Q (.ref l) (upd H l (.tup ys)))\/(SqT K H p ys/\Q (.ref p) H))):=h▸Ve
end
open AutoSeq1 (wpAny_loadPart') in
open AutoSeq1 (wpAny_loadPart') in
section
variable {X:Cx}
end
end L2
namespace L2
open PySem PySem.Spec PyProof.Rows
section
variable {prog:Program}{w:World}{A:Around}{E:EX}{s:Shared}
theorem lt_int {x y:Int}{t u:Tok}{Q:EX}(h:Q (.bool (decide (x<y))) s):wpAny (model prog w) A (richCompare .Lt (.int x t) (.int y u)) Q E s:=
 CmpOf.ints_lt (P:=λi v=>∃t,v=.int (if i=0 then x else y) t) (λi=>if i=0 then x else y) (λ_ _ p=>p) 0 1 _ _ s Q E ⟨t,rfl⟩ ⟨u,rfl⟩ h
end
noncomputable def ZdZ (prog:Program)(w:World)(A:Around)(op:CmpOp)(J:Heap->Prop)(P:Nat->Value->Prop)(bt:Nat->Nat->Bool):Prop:=
 ∀(s:Shared)(i j:Nat)(vi vj:Value)(Q E:EX),J s.heap->P i vi->P j vj->Q (.bool (bt i j)) s->wpAny (model prog w) A (richCompare op vi vj) Q E s
section
variable {prog:Program}{w:World}{A:Around}{R:Result->Shared->Prop}{I:Addr}{fp wr:List Addr}{n:Nat}{P:Nat->Value->Prop}{St:Nat->Heap->Prop}{J:Heap->Prop}{kw:List (Str×Value)}
theorem ZP (W:Walks prog w A.in1 I fp wr n P St)(bt:Nat->Nat->Bool)(cmp:ZdZ prog w A.in1 .Lt J P bt)(D:Addr)(hD:D ∉ fp)(keepJ:∀h h':Heap,J h->(∀b o,b ∉ wr->b≠D->h.get? b=some o->h'.get? b=some o)->J h') :
  ∀(left m:Nat)(s:Shared)(best:Value)(c:Nat),n-(m+1)=left->m+1<=n->St (m+1) s.heap->J s.heap->P (argBest bt m) best ->
  s.heap.get? D=some { cls:=.type "list", dict:=none,data:=.seq #[best,best] c,slots:=#[] } ->
  (∀v h' tk,P (argBest bt (n-1)) v->(∀b o,b ∉ wr->b≠D->s.heap.get? b=some o->h'.get? b=some o)->R (.ok (.ret v)) { s with heap:=h',toks:=tk }) ->
  codeAny (model prog w) A (.builtin "min.loop" ⟨[.ref I,.none,.ref D],kw⟩) R s:=by
 have hDw:D ∉ wr:=λz=>hD (W.sub _ z);have nm:(toString "min" ++ toString ".loop" : String) = "min.loop" := by decide
 intro left
 induction left with
 | zero=>
  intro m s best c hl hm st j pb gD hR;have en:m+1=n:=by lia
  refine Ycu F.entry_min_loop ?_;rw [Yed Yep _];show wpAny _ A.in1 (seqItems? (.ref D) >>= _) _ _ s;refine Yaa (wpAny_seqItems gD rfl (show wpAny _ A.in1 (tryCatch (pyNext (.ref I)) _ >>= _) _ _ s from Yaa (wpAny_tryCatch (W.done s _ _ (en▸st) λh' tk kept=>?_))));show wpAny _ A.in1 (updateSeq D (λ_=>#[]) >>= _) _ _ _;refine Yaa (wpAny_updateSeq (kept D _ hDw gD) rfl (Yaa (wpAny_letGo (Yab (hR best _ tk (by rw [<-en];exact pb) λb o nw nD e=>?_)))));exact (Ycm _ _ (Ne.symm nD)).trans (kept b o nw e)
 | succ left ih=>
  intro m s best c hl hm st j pb gD hR;refine Ycu F.entry_min_loop ?_;rw [Yed Yep _];show wpAny _ A.in1 (seqItems? (.ref D) >>= _) _ _ s;refine Yaa (wpAny_seqItems gD rfl (show wpAny _ A.in1 (tryCatch (pyNext (.ref I)) _ >>= _) _ _ s from Yaa (wpAny_tryCatch (W.item (m+1) s _ _ (by lia) st λv h' tk pv st' kept=>?_))));have gD':=kept D _ hDw gD;have j':J h':=keepJ _ _ j λb o nw _ e=>kept b o nw e;show wpAny _ A.in1 (tryCatch (holding [v,v] (richCompare .Lt v best >>= _)) _ >>= _) _ _ _;refine Yaa (wpAny_tryCatch (Ybp (Yaa (cmp _ (m+1) (argBest bt m) v best _ _ j' pv pb (Yaa (Ybp (Ydl (Yaa (wpAny_letGo (Yab ?_))))))))));cases hb:bt (m+1) (argBest bt m) with
  | true=>
   simp only [if_true];refine Yaa (wpAny_updateSeq gD' rfl (Yaa (wpAny_letGo ?_)));rw [nm];refine Yab ⟨Yec Yep _,ih (m+1) _ v _ (by lia) (by lia) (W.frame _ _ _ st' λb bf o e=>?_) (keepJ _ _ j' λb o _ nD e=>(Ycm _ _ (Ne.symm nD)).trans e) (by simp only [argBest,hb,if_true];exact pv) (Yei _ gD' rfl) λv' h2 tk2 pv' k2=>?_⟩
   ·exact (Ycm _ _ (λz:D=b=>hD (by rw [z];exact bf))).trans e
   ·exact hR v' h2 tk2 pv' λb o nw nD e=>k2 b o nw nD ((Ycm _ _ (Ne.symm nD)).trans (kept b o nw e))
  | false=>
   simp only [Ydy,if_false];refine Yaa (wpAny_letGo ?_);rw [nm];refine Yab ⟨Yec Yep _,ih (m+1) _ best c (by lia) (by lia) st' j' (by simp only [argBest,hb,Ydy,if_false];exact pb) gD' λv' h2 tk2 pv' k2=>?_⟩;exact hR v' h2 tk2 pv' λb o nw nD e=>k2 b o nw nD (kept b o nw e)
theorem Yr (W:Walks prog w A.in1 I fp wr n P St)(bt:Nat->Nat->Bool)(cmp:ZdZ prog w A.in1 .Lt J P bt)(D:Addr)(hD:D ∉ fp)(keepJ:∀h h':Heap,J h->(∀b o,b ∉ wr->b≠D->h.get? b=some o->h'.get? b=some o)->J h')(hn:0<n){s:Shared}{c:Nat}(st:St 0 s.heap)(j:J s.heap)(gD:s.heap.get? D=some { cls:=.type "list", dict:=none,data:=.seq #[] c,slots:=#[] })(hR:∀v h' tk,P (argBest bt (n-1)) v->(∀b o,b ∉ wr->b≠D->s.heap.get? b=some o->h'.get? b=some o)->R (.ok (.ret v)) { s with heap:=h',toks:=tk }) :
  codeAny (model prog w) A (.builtin "min.loop" ⟨[.ref I,.none,.ref D],kw⟩) R s:=by
 have hDw:D ∉ wr:=λz=>hD (W.sub _ z);have nm:(toString "min" ++ toString ".loop" : String) = "min.loop" := by decide
 refine Ycu F.entry_min_loop ?_;rw [Yed Yep _];show wpAny _ A.in1 (seqItems? (.ref D) >>= _) _ _ s;refine Yaa (wpAny_seqItems gD rfl (show wpAny _ A.in1 (tryCatch (pyNext (.ref I)) _ >>= _) _ _ s from Yaa (wpAny_tryCatch (W.item 0 s _ _ hn st λv h' tk pv st' kept=>?_))));have gD':=kept D _ hDw gD;have j':J h':=keepJ _ _ j λb o nw _ e=>kept b o nw e;show wpAny _ A.in1 (updateSeq D (λ_=>#[v,v]) >>= _) _ _ _;refine Yaa (wpAny_updateSeq gD' rfl ?_);rw [nm];refine Yab ⟨Yec Yep _,ZP W bt cmp D hD keepJ _ 0 _ v _ rfl hn (W.frame _ _ _ st' λb bf o e=>?_) (keepJ _ _ j' λb o _ nD e=>(Ycm _ _ (Ne.symm nD)).trans e) pv (Yei _ gD' rfl) λv' h2 tk2 pv' k2=>?_⟩
 ·exact (Ycm _ _ (λz:D=b=>hD (by rw [z];exact bf))).trans e
 ·exact hR v' h2 tk2 pv' λb o nw nD e=>k2 b o nw nD ((Ycm _ _ (Ne.symm nD)).trans (kept b o nw e))
end
section
variable {X:Cx}
noncomputable def Zb4 (X:Cx)(f:Value)(ks:List Str)(r:List V->List V->Hp->VK->Prop):Prop:=∀(qQ:List (Addr×Obj))(s:Shared)(σ:St)(H:Hp)(xs:List V)(us:List Value)(zs:List V)(ws:List Value)(Q:VK),Inv X qQ σ H s->Vals xs us->Vals zs ws->r xs zs H Q->wpAny (model X.prog X.w) X.A (call f us (ks.zip ws)) (EP X qQ σ Q) X.xe s
noncomputable def ZgS (r:List V->List V->Hp->VK->Prop)(t tk:TA):TE:=λσ H Q=>t σ H λvs H1=>tk σ H1 λzs H2=>r vs zs H2 Q
theorem ZQ {id:String}{ks:List Str}{r:List V->List V->Hp->VK->Prop}{x:Str}{p pos:Pos}{e:Expr}{es:List Expr}{kws:List Keyword}{t tk:TA}(hc:Zb4 X (.builtin id) ks r)(hg:Gl X x)(hm:X.mg x=none)(hv:bootBuiltins x=some (.builtin id))(ha:PA X (e::es) t)(hkw:PK X kws tk)(hks:(backToKw pos (keywordEach kws X.env)).filterMap (·.1)=ks:=by rfl)(hn:x ≠ "__name__" := by decide)(hdb:(x == ("__debug__" : Str))=false:=by decide)(he:backTo pos (starEach (e::es) X.env)=(false,eval e X.env)::backTo pos (starEach es X.env):=by rfl)(hpl:(backTo pos (starEach (e::es) X.env)).any (·.1)=false:=by rfl)(qK:(backToKw pos (keywordEach kws X.env)).all (·.1.isSome)=true:=by rfl)(hno:(backToKw pos (keywordEach kws X.env)).any (·.1.isNone)=false:=by rfl):PE X (.Call (.Name x p) (e::es) kws pos) (ZgS r t tk):=by
 intro qQ s σ H Q I h;refine Ydw (Op I hg hm hv ?_ hn hdb);refine PyProof.Rows.callWith_kw (thn (ha pos qQ s σ H _ I h) λus s1 ⟨vs,H1,I1,r1,q1⟩=>thn (hkw pos qQ s1 σ H1 _ I1 q1) λws s2 ⟨zs,H2,I2,r2,q2⟩=>?_) he hpl qK hno;rw [hks];exact hc qQ s2 σ H2 vs us zs ws Q I2 r1 r2 q2
end
section
variable {X:Cx}{k:Nat}{f:Addr}{fd:FuncData}{ps:List Str}{sp:Sp}{dvs:List V}{ds:List Value}{fx:Str}{fp qG bpos np:Pos}{e:Expr}{es:List Expr}{t:TA}
end
section
variable {X:Cx}{k:Nat}{f:Addr}{fd:FuncData}{ps:List Str}{sp:Sp}{dvs:List V}{ds:List Value}{fx:Str}{fp qG bpos np hpos pos:Pos}{e:Expr}{es:List Expr}{t:TA}
end
noncomputable def JZ:Bool->Keyed->Array Keyed->Nat->Nat->Nat->StateT SortSt Sem (Option Nat):=sortPriv% PySem.Builtin.gallop
noncomputable def Vs:Array Keyed->Array Keyed->StateT SortSt Sem (Array Keyed):=sortPriv% PySem.Builtin.mergeLo
noncomputable def Vt:Array Keyed->Array Keyed->StateT SortSt Sem (Array Keyed):=sortPriv% PySem.Builtin.mergeHi
noncomputable def UC:Nat->StateT SortSt Sem Unit:=sortPriv% PySem.Builtin.setMinGallop
noncomputable def OS (left:Bool)(key:Keyed)(arr:Array Keyed)(base i:Nat):StateT SortSt Sem (Option Bool):=do
 let x <- elem' arr (base+i)
 if left then lt' x key else return (<- lt' key x).map (!·)
noncomputable def OC (left:Bool)(key:Keyed)(arr:Array Keyed)(base n lo hi:Nat):StateT SortSt Sem (Option Nat):=do
 let mut lo:=lo
 let mut hi:=hi
 for _ in [:n] do
  if lo>=hi then break
  let m:=lo+(hi-lo) / 2
  let some more <- OS left key arr base m | return none
  if more then lo:=m+1
  else hi:=m
 return some hi
noncomputable def Vu (left:Bool)(key:Keyed)(arr:Array Keyed)(base n hint:Nat):StateT SortSt Sem (Option Nat):=do
 let mut lastofs:=0
 let mut ofs:=1
 let maxofs:=n-hint
 for _ in [:n] do
  if ofs>=maxofs then break
  let some more <- OS left key arr base (hint+ofs) | return none
  if !more then break
  lastofs:=ofs
  ofs:=2 * ofs+1
 OC left key arr base n (hint+lastofs+1) (hint+min ofs maxofs)
noncomputable def OT (left:Bool)(key:Keyed)(arr:Array Keyed)(base n hint:Nat):StateT SortSt Sem (Option Nat):=do
 let mut lastofs:=0
 let mut ofs:=1
 let maxofs:=hint+1
 for _ in [:n] do
  if ofs>=maxofs then break
  let some found <- OS left key arr base (hint-ofs) | return none
  if found then break
  lastofs:=ofs
  ofs:=2 * ofs+1
 OC left key arr base n (hint+1-min ofs maxofs) (hint-lastofs)
theorem Ys (left:Bool)(key:Keyed)(arr:Array Keyed)(base n hint:Nat):JZ left key arr base n hint=(do
  let some right <- OS left key arr base hint | return none
  if right then Vu left key arr base n hint else OT left key arr base n hint):=rfl
section
variable {M:Model}{A:Around}{E:EX}{s:Shared}{kd:SortKind}{b:Keyed->Keyed->Bool}{good:Keyed->Prop}
structure WO (b:Keyed->Keyed->Bool):Prop where
 irr:∀x,b x x=false
 tr:∀x y z,b x y=true->b y z=true->b x z=true
 neg:∀x y z,b x z=true->b x y=true\/b y z=true
noncomputable def Oo (M:Model)(A:Around)(E:EX)(s:Shared)(kd:SortKind)(b:Keyed->Keyed->Bool)(good:Keyed->Prop):Prop:=
 ∀(x y:Keyed)(st:SortSt)(Q:Option Bool->SortSt->Prop),good x->good y->kindOf st=kd->Q (some (b x y)) st->wpS M A E s (lt' x y) Q st
theorem Gw {arr:Array Keyed}{i:Nat}{x:Keyed}{st:SortSt}{Q:Keyed->SortSt->Prop}(h:arr[i]?=some x)(q:Q x st):wpS M A E s (elem' arr i) Q st:=by
 rw [elem'_eq,h];exact Yaf q
noncomputable def byd (b:Keyed->Keyed->Bool)(left:Bool)(key:Keyed)(arr:Array Keyed)(base i:Nat):Bool:=match arr[base+i]? with
 | some x=>if left then b x key else !b key x
 | none=>false
theorem J7 {left:Bool}{key:Keyed}{arr:Array Keyed}{base i:Nat}{x:Keyed}{st:SortSt}{Q:Option Bool->SortSt->Prop}(L:Oo M A E s kd b good)(hk:good key)(hx:arr[base+i]?=some x)(gx:good x)(hs:kindOf st=kd)(q:Q (some (byd b left key arr base i)) st):wpS M A E s (OS left key arr base i) Q st:=by
 unfold OS;refine Yac (Gw hx ?_);unfold byd at q;rw [hx] at q;cases left with
 | true=>exact L x key st Q gx hk hs q
 | false=>exact Yac (L key x st _ hk gx hs (Yaf q))
section
variable {left:Bool}{key:Keyed}{arr:Array Keyed}{base n hint:Nat}{st:SortSt}{Q:Option Nat->SortSt->Prop}
structure Gal (b:Keyed->Keyed->Bool)(good:Keyed->Prop)(left:Bool)(key:Keyed)(arr:Array Keyed)(base n:Nat):Prop where
 gk:good key
 it:∀i,i<n->∃x,arr[base+i]?=some x/\good x
 mono:∀i j,i<=j->j<n->byd b left key arr base j=true->byd b left key arr base i=true
theorem GS {lo hi:Nat}(L:Oo M A E s kd b good)(G:Gal b good left key arr base n)(hs:kindOf st=kd)(h1:lo<=hi)(h2:hi<=n)(h3:∀i,i<lo->byd b left key arr base i=true)(h4:∀i,hi<=i->i<n->byd b left key arr base i=false)(q:∀k,k<=n->(∀i,i<k->byd b left key arr base i=true)->(∀i,k<=i->i<n->byd b left key arr base i=false)->Q (some k) st):wpS M A E s (OC left key arr base n lo hi) Q st:=by
 unfold OC;refine Yac (Ybz (λk c st'=>st'=st/\∃lo hi,c=(none,lo,hi)/\lo<=hi/\hi<=n/\hi-lo<=n-k/\(∀i,i<lo->byd b left key arr base i=true)/\(∀i,hi<=i->i<n->byd b left key arr base i=false)) ?_ ?_ ⟨rfl,lo,hi,rfl,h1,h2,by lia,h3,h4⟩)
 ·rintro k c st' _ hk ⟨rfl,lo,hi,rfl,h1,h2,h5,h3,h4⟩;dsimp only;split
  ·rename_i h6;have:lo=hi:=by lia
   subst this;refine Yaf ?_;dsimp only;exact Yaf (q lo h2 h3 h4)
  ·rename_i h6;obtain ⟨x,hx,gx⟩:=G.it (lo+(hi-lo) / 2) (by lia);refine Yac (J7 L G.gk hx gx hs ?_);dsimp only;cases hb:byd b left key arr base (lo+(hi-lo) / 2) with
   | true=>
    refine Yaf ⟨rfl,_,_,rfl,by lia,h2,by lia,λi hi'=>G.mono i (lo+(hi-lo) / 2) (by lia) (by lia) hb,h4⟩
   | false=>
    refine Yaf ⟨rfl,_,_,rfl,by lia,by lia,by lia,h3,λi h8 h9=>?_⟩;cases hc:byd b left key arr base i with
    | false=>rfl
    | true=>rw [G.mono _ i h8 h9 hc] at hb;cases hb
 ·rintro c st' ⟨rfl,lo,hi,rfl,h1,h2,h5,h3,h4⟩;have:lo=hi:=by simp at h5;lia
  subst this;exact Yaf (q lo h2 h3 h4)
theorem Jq (L:Oo M A E s kd b good)(G:Gal b good left key arr base n)(hs:kindOf st=kd)(hn:hint<n)(q:∀k,k<=n->(∀i,i<k->byd b left key arr base i=true)->(∀i,k<=i->i<n->byd b left key arr base i=false)->Q (some k) st):wpS M A E s (JZ left key arr base n hint) Q st:=by
 rw [Ys];obtain ⟨x,hx,gx⟩:=G.it hint hn;have anti:∀i j,byd b left key arr base i=false->i<=j->j<n->byd b left key arr base j=false:=λi j h1 h2 h3=>by
  cases hc:byd b left key arr base j with
  | false=>rfl
  | true=>rw [G.mono _ j h2 h3 hc] at h1;cases h1
 refine Yac (J7 L G.gk hx gx hs ?_);cases hb:byd b left key arr base hint with
 | true=>
  show wpS M A E s (Vu left key arr base n hint) Q st;unfold Vu;refine Yac (Ybz (λk c st'=>st'=st/\∃last ofs,c=(none,last,ofs)/\last<ofs/\k+1<=ofs/\hint+last<n/\byd b left key arr base (hint+last)=true) ?_ ?_ ⟨rfl,0,1,rfl,by lia,by lia,hn,hb⟩)
  ·rintro k c st' _ hk ⟨rfl,last,ofs,rfl,h1,h2,h3,h4⟩;dsimp only;split
   ·rename_i h5;refine Yaf ?_;dsimp only;rw [Nat.min_eq_right h5];exact GS L G hs (by lia) (by lia) (λi hi=>G.mono i _ (show i<=hint+last by lia) h3 h4) (λi h6 h7=>by lia) q
   ·rename_i h5;obtain ⟨y,hy,gy⟩:=G.it (hint+ofs) (by lia);refine Yac (J7 L G.gk hy gy hs ?_);dsimp only;cases hb2:byd b left key arr base (hint+ofs) with
    | true=>exact Yaf ⟨rfl,_,_,rfl,by lia,by lia,by lia,hb2⟩
    | false=>
     refine Yaf ?_;dsimp only;rw [Yfb (by lia)];exact GS L G hs (by lia) (by lia) (λi hi=>G.mono i _ (show i<=hint+last by lia) h3 h4) (λi h6 h7=>anti _ i hb2 h6 h7) q
  ·rintro c st' ⟨rfl,last,ofs,rfl,h1,h2,h3,h4⟩;dsimp only;have h5:n-hint<=ofs:=by simp at h2;lia
   rw [Nat.min_eq_right h5];exact GS L G hs (by lia) (by lia) (λi hi=>G.mono i _ (show i<=hint+last by lia) h3 h4) (λi h6 h7=>by lia) q
 | false=>
  show wpS M A E s (OT left key arr base n hint) Q st;unfold OT;refine Yac (Ybz (λk c st'=>st'=st/\∃last ofs,c=(none,last,ofs)/\last<ofs/\k+1<=ofs/\last<=hint/\byd b left key arr base (hint-last)=false) ?_ ?_ ⟨rfl,0,1,rfl,by lia,by lia,by lia,hb⟩)
  ·rintro k c st' _ hk ⟨rfl,last,ofs,rfl,h1,h2,h3,h4⟩;dsimp only;split
   ·rename_i h5;refine Yaf ?_;dsimp only;rw [Nat.min_eq_right h5];exact GS L G hs (by lia) (by lia) (λi hi=>by lia) (λi h6 h7=>anti _ i h4 h6 h7) q
   ·rename_i h5;obtain ⟨y,hy,gy⟩:=G.it (hint-ofs) (by lia);refine Yac (J7 L G.gk hy gy hs ?_);dsimp only;cases hb2:byd b left key arr base (hint-ofs) with
    | false=>exact Yaf ⟨rfl,_,_,rfl,by lia,by lia,by lia,hb2⟩
    | true=>
     refine Yaf ?_;dsimp only;rw [Yfb (by lia)];exact GS L G hs (by lia) (by lia) (λi hi=>G.mono i (hint-ofs) (by lia) (by lia) hb2) (λi h6 h7=>anti _ i h4 h6 h7) q
  ·rintro c st' ⟨rfl,last,ofs,rfl,h1,h2,h3,h4⟩;dsimp only;have h5:hint+1<=ofs:=by simp at h2;lia
   rw [Nat.min_eq_right h5];exact GS L G hs (by lia) (by lia) (λi hi=>by lia) (λi h6 h7=>anti _ i h4 h6 h7) q
end
end
noncomputable abbrev MLs:=Option (Array Keyed)×Array Keyed×Nat×Nat×Nat×Nat
noncomputable abbrev MLt:=Option (Array Keyed)×Array Keyed×Nat×Nat×Nat×Nat×Nat
noncomputable def Oh (a b out:Array Keyed)(ia ib:Nat):Array Keyed:=out++a.extract ia++b.extract ib
noncomputable def U3 (a b out:Array Keyed)(ia ib:Nat):Array Keyed:=out++b.extract ib++a.extract ia
noncomputable def Zbi (a b:Array Keyed)(mg:Nat):Nat->MLs->StateT SortSt Sem (ForInStep MLs):=λ_ r=>
 let out:=r.2.1;let ia:=r.2.2.1;let ib:=r.2.2.2.1;let qZ:=r.2.2.2.2.1;let qX:=r.2.2.2.2.2
 do
 let x <- elem' b ib
 let y <- elem' a ia
 match <- lt' x y with
 | some bWins=>
  if bWins=true then do
   let z <- elem' b ib
   let out:=out.push z
   let ib:=ib+1
   let qX:=qX+1
   let qZ:=0
   if (ib == b.size)=true then pure (.done (some (Oh a b out ia ib),out,ia,ib,qZ,qX))
   else if qX>=mg then pure (.done (none,out,ia,ib,qZ,qX))
   else pure (.yield (none,out,ia,ib,qZ,qX))
  else do
   let z <- elem' a ia
   let out:=out.push z
   let ia:=ia+1
   let qZ:=qZ+1
   let qX:=0
   if (ia+1 == a.size)=true then pure (.done (some (U3 a b out ia ib),out,ia,ib,qZ,qX))
   else if qZ>=mg then pure (.done (none,out,ia,ib,qZ,qX))
   else pure (.yield (none,out,ia,ib,qZ,qX))
 | _=>pure (.done (some (Oh a b out ia ib),out,ia,ib,qZ,qX))
noncomputable def mlD (a b:Array Keyed)(qJ qZ k:Nat)(out:Array Keyed)(ia ib:Nat):StateT SortSt Sem (ForInStep MLt):=do
 let qX:=k
 let z <- elem' a ia
 let out:=out.push z
 let ia:=ia+1
 if (ia+1 == a.size)=true then pure (.done (some (U3 a b out ia ib),out,ia,ib,qJ,qZ,qX))
 else if (decide (qZ<7) && decide (qX<7))=true then pure (.done (none,out,ia,ib,qJ,qZ,qX))
 else pure (.yield (none,out,ia,ib,qJ,qZ,qX))
noncomputable def mlC (a b:Array Keyed)(qJ qZ qX:Nat)(out:Array Keyed)(ia ib:Nat):StateT SortSt Sem (ForInStep MLt):=do
 let z <- elem' b ib
 let out:=out.push z
 let ib:=ib+1
 if (ib == b.size)=true then pure (.done (some (Oh a b out ia ib),out,ia,ib,qJ,qZ,qX))
 else do
  let y <- elem' a ia
  match <- JZ true y b ib (b.size-ib) 0 with
  | some k=>
   let qX:=k
   if k > 0 then
    let out:=out++b.extract ib (ib+k)
    let ib:=ib+k
    if (ib == b.size)=true then pure (.done (some (Oh a b out ia ib),out,ia,ib,qJ,qZ,qX))
    else mlD a b qJ qZ k out ia ib
   else mlD a b qJ qZ k out ia ib
  | _=>pure (.done (some (Oh a b out ia ib),out,ia,ib,qJ,qZ,qX))
noncomputable def mlB (a b:Array Keyed)(qJ qZ qX:Nat)(out:Array Keyed)(ia ib:Nat):StateT SortSt Sem (ForInStep MLt):=do
 UC qJ
 let x <- elem' b ib
 match <- JZ false x a ia (a.size-ia) 0 with
 | some k=>
  let qZ:=k
  if k > 0 then
   let out:=out++a.extract ia (ia+k)
   let ia:=ia+k
   if (ia+1 == a.size)=true then pure (.done (some (U3 a b out ia ib),out,ia,ib,qJ,qZ,qX))
   else if (ia == a.size)=true then pure (.done (some (Oh a b out ia ib),out,ia,ib,qJ,qZ,qX))
   else mlC a b qJ qZ qX out ia ib
  else mlC a b qJ qZ qX out ia ib
 | _=>pure (.done (some (Oh a b out ia ib),out,ia,ib,qJ,qZ,qX))
noncomputable def Zbj (a b:Array Keyed):Nat->MLt->StateT SortSt Sem (ForInStep MLt):=λ_ r=>
 let out:=r.2.1;let ia:=r.2.2.1;let ib:=r.2.2.2.1;let qJ:=r.2.2.2.2.1;let qZ:=r.2.2.2.2.2.1;let qX:=r.2.2.2.2.2.2
 if qJ > 1 then mlB a b (qJ-1) qZ qX out ia ib else mlB a b qJ qZ qX out ia ib
noncomputable abbrev MLo:=Option (Array Keyed)×Array Keyed×Nat×Nat×Nat
noncomputable def Zbk (a b:Array Keyed):Nat->MLo->StateT SortSt Sem (ForInStep MLo):=λ_ r=>
 let out:=r.2.1;let ia:=r.2.2.1;let ib:=r.2.2.2.1;let qJ:=r.2.2.2.2
 do
 let r <- forIn [:a.size+b.size] ((none,out,ia,ib,0,0):MLs) (Zbi a b qJ)
 match r.1 with
 | some x=>pure (.done (some x,r.2.1,r.2.2.1,r.2.2.2.1,qJ))
 | none=>do
  liftM (rule "list.sort.gallop")
  let r <- forIn [:a.size+b.size] ((none,r.2.1,r.2.2.1,r.2.2.2.1,qJ+1,r.2.2.2.2.1,r.2.2.2.2.2):MLt) (Zbj a b)
  match r.1 with
  | some x=>pure (.done (some x,r.2.1,r.2.2.1,r.2.2.2.1,r.2.2.2.2.1))
  | none=>do
   UC (r.2.2.2.2.1+1)
   pure (.yield (none,r.2.1,r.2.2.1,r.2.2.2.1,r.2.2.2.2.1+1))
theorem Jb {α β:Type}{m:StateT SortSt Sem α}{f g:α->StateT SortSt Sem β}(h:∀x,f x=g x):m >>= f=m >>= g:=by rw [funext h]
theorem Vv {α:Type}{c:Prop}[Decidable c]{x y u v:α}(h1:x=y)(h2:u=v):(if c then x else u)=if c then y else v:=by rw [h1,h2]
theorem UD {β:Type}{r:Std.Legacy.Range}{c:β}{f g:Nat->β->StateT SortSt Sem (ForInStep β)}(h:∀i x,f i x=g i x):forIn r c f=forIn r c g:=by rw [funext λi=>funext (h i)]
theorem WM (a b:Array Keyed):Vs a b=(do
  liftM (rule "list.sort.merge-lo")
  let x <- elem' b 0
  let out:=#[x]
  if (1 == b.size)=true then pure (Oh a b out 0 1)
  else if (0+1 == a.size)=true then pure (U3 a b out 0 1)
  else do
   let st <- get
   let r <- forIn [:a.size+b.size] ((none,out,0,1,gallopOf st):MLo) (Zbk a b)
   match r.1 with
   | some r=>pure r
   | none=>liftM (unsupported "internal:list.sort.merge-bound")):=by
 refine Jb (m:=liftM (rule "list.sort.merge-lo")) λ_=>?_;refine Jb (m:=elem' b 0) λx=>?_;refine Vv (c:=(1 == b.size)=true) rfl ?_;refine Vv (c:=(0+1 == a.size)=true) rfl ?_;refine Jb (m:=get) λst=>?_;refine (Ybf (λm:StateT SortSt Sem MLo=>m >>= _) (UD (r:=[:a.size+b.size]) (c:=((none,#[x],0,1,gallopOf st):MLo)) (g:=Zbk a b) λi r=>?_)).trans ?_;rotate_left
 ·refine Jb λr=>?_;obtain ⟨r1,r2⟩:=r;cases r1 <;> rfl
 unfold Zbk;refine (Ybf (λm:StateT SortSt Sem MLs=>m >>= _) (UD (r:=[:a.size+b.size]) (g:=Zbi a b r.2.2.2.2) λi r=>rfl)).trans ?_;refine Jb λq=>?_;obtain ⟨q1,q2⟩:=q;cases q1 with
 | some z=>rfl
 | none=>
  refine Jb (m:=liftM (rule "list.sort.gallop")) λ_=>?_;refine (Ybf (λm:StateT SortSt Sem MLt=>m >>= _) (UD (r:=[:a.size+b.size]) (g:=Zbj a b) λi r=>rfl)).trans ?_;refine Jb λq=>?_;obtain ⟨q1,q2⟩:=q;cases q1 <;> rfl
section
variable {b:Keyed->Keyed->Bool}
noncomputable abbrev kle (b:Keyed->Keyed->Bool)(x y:Keyed):Prop:=b y x=false
theorem WO.le_trans (W:WO b){x y z:Keyed}(h1:kle b x y)(h2:kle b y z):kle b x z:=by
 cases h:b z x with
 | false=>exact h
 | true=>
  rcases W.neg z y x h with q | q
  ·rw [show b z y=false from h2] at q;cases q
  ·rw [show b y x=false from h1] at q;cases q
theorem WO.le_of_lt (W:WO b){x y:Keyed}(h:b x y=true):kle b x y:=by
 cases q:b y x with
 | false=>exact q
 | true=>
  have:=W.tr _ _ _ h q;rw [W.irr] at this;cases this
theorem WO.le_refl (W:WO b)(x:Keyed):kle b x x:=W.irr x
structure Mrg (b:Keyed->Keyed->Bool)(all out ra rb:List Keyed):Prop where
 perm:(out++ra++rb).Perm all
 so:out.Pairwise (kle b)
 le:∀x∈out,∀y∈ra++rb,kle b x y
 sa:ra.Pairwise (kle b)
 sb:rb.Pairwise (kle b)
theorem Mrg.len {all out ra rb:List Keyed}(h:Mrg b all out ra rb):out.length+ra.length+rb.length=all.length:=by
 have:=h.perm.length_eq;rw [Yak,Yak] at this;exact this
theorem Mrg.moveA {all out u ra rb:List Keyed}(h:Mrg b all out (u++ra) rb)(hu:∀x∈u,∀y∈rb,kle b x y):Mrg b all (out++u) ra rb:=by
 have sa:=Ybu.mp h.sa;refine ⟨by rw [Ybq out u ra];exact h.perm,Ybu.mpr ⟨h.so,sa.1,λx hx y hy=>h.le x hx y (by simp [hy])⟩,λx hx y hy=>?_,sa.2.1,h.sb⟩;rcases Yal.mp hx with hx | hx
 ·refine h.le x hx y ?_;rcases Yal.mp hy with hy | hy
  ·simp [hy]
  ·simp [hy]
 ·rcases Yal.mp hy with hy | hy
  ·exact sa.2.2 x hx y hy
  ·exact hu x hx y hy
theorem Mrg.moveB {all out u ra rb:List Keyed}(h:Mrg b all out ra (u++rb))(hu:∀x∈u,∀y∈ra,kle b x y):Mrg b all (out++u) ra rb:=by
 have sb:=Ybu.mp h.sb;refine ⟨?_,Ybu.mpr ⟨h.so,sb.1,λx hx y hy=>h.le x hx y (by simp [hy])⟩,λx hx y hy=>?_,h.sa,sb.2.1⟩
 ·refine List.Perm.trans ?_ h.perm;simp only [Ybq];refine Yfh _ ?_;rw [<-Ybq,<-Ybq];exact List.Perm.append_right _ List.perm_append_comm
 ·rcases Yal.mp hx with hx | hx
  ·refine h.le x hx y ?_;rcases Yal.mp hy with hy | hy
   ·simp [hy]
   ·simp [hy]
  ·rcases Yal.mp hy with hy | hy
   ·exact hu x hx y hy
   ·exact sb.2.2 x hx y hy
noncomputable def Jj (b:Keyed->Keyed->Bool)(all r:List Keyed):Prop:=r.Perm all/\r.Pairwise (kle b)
theorem Mrg.endA {all out ra rb:List Keyed}(h:Mrg b all out ra rb)(hz:∀x∈ra,∀y∈rb,kle b x y):Jj b all (out++ra++rb):=by
 refine ⟨h.perm,?_⟩;rw [Ybq];exact Ybu.mpr ⟨h.so,Ybu.mpr ⟨h.sa,h.sb,hz⟩,h.le⟩
theorem Mrg.endB {all out ra rb:List Keyed}(h:Mrg b all out ra rb)(hz:∀x∈rb,∀y∈ra,kle b x y):Jj b all (out++rb++ra):=by
 refine ⟨?_,?_⟩
 ·refine List.Perm.trans ?_ h.perm;rw [Ybq,Ybq];exact Yfh _ List.perm_append_comm
 ·rw [Ybq];exact Ybu.mpr ⟨h.so,Ybu.mpr ⟨h.sb,h.sa,hz⟩,λx hx y hy=>h.le x hx y (by
   rcases Yal.mp hy with hy | hy <;> simp [hy])⟩
end
theorem Ul (a:Array Keyed)(i:Nat):(a.extract i).toList=a.toList.drop i:=by
 rw [Yfc,Yfd,List.take_of_length_le];rw [Ydx];exact Yae _
theorem XB (a:Array Keyed)(i k:Nat):(a.extract i (i+k)).toList=(a.toList.drop i).take k:=by
 rw [Yfc,Yfd,Nat.add_sub_cancel_left]
theorem Jw {a:Array Keyed}{i:Nat}{x:Keyed}(h:a[i]?=some x):a.toList.drop i=x::a.toList.drop (i+1):=by
 rw [<-Yaq] at h;obtain ⟨h1,h2⟩:=Yau.mp h;rw [List.drop_eq_getElem_cons h1,h2]
noncomputable def SameG (st st':SortSt):Prop:=kindOf st'=kindOf st/\arrOf st'=arrOf st/\pendingOf st'=pendingOf st/\failedOf st'=failedOf st
theorem SameG.refl (st:SortSt):SameG st st:=⟨rfl,rfl,rfl,rfl⟩
theorem SameG.trans {st st' st'':SortSt}(h:SameG st st')(k:SameG st' st''):SameG st st'':=⟨k.1.trans h.1,k.2.1.trans h.2.1,k.2.2.1.trans h.2.2.1,k.2.2.2.trans h.2.2.2⟩
section
variable {M:Model}{A:Around}{E:EX}{s:Shared}{kd:SortKind}{b:Keyed->Keyed->Bool}{good:Keyed->Prop}
theorem J8 {g:Nat}{st:SortSt}{Q:Unit->SortSt->Prop}(q:∀st',SameG st st'->Q () st'):wpS M A E s (UC g) Q st:=by
 refine Yci (f:=λs=>SortSt.mk' (kindOf s) (arrOf s) (pendingOf s) g (failedOf s)) (q _ ⟨rfl,rfl,rfl,rfl⟩)
structure Two (b:Keyed->Keyed->Bool)(good:Keyed->Prop)(a c:Array Keyed):Prop where
 ga:∀x∈a.toList,good x
 gc:∀x∈c.toList,good x
 sa:a.toList.Pairwise (kle b)
 sc:c.toList.Pairwise (kle b)
 na:0<a.size
 nc:0<c.size
 first:∀x,c[0]?=some x->∀y∈a.toList,kle b x y
 last:∀z,a[a.size-1]?=some z->∀y∈c.toList,kle b y z
variable {a c:Array Keyed}
theorem Two.at (T:Two b good a c){i:Nat}(h:i<a.size):∃x,a[i]?=some x/\good x:=⟨a[i],by simp [h],T.ga _ (by simp)⟩
theorem Two.ct (T:Two b good a c){i:Nat}(h:i<c.size):∃x,c[i]?=some x/\good x:=⟨c[i],by simp [h],T.gc _ (by simp)⟩
noncomputable def ML (b:Keyed->Keyed->Bool)(a c out:Array Keyed)(ia ib:Nat):Prop:=Mrg b (a.toList++c.toList) out.toList (a.toList.drop ia) (c.toList.drop ib)
theorem ML.done {out:Array Keyed}{ia ib:Nat}(h:ML b a c out ia ib)(e:ib=c.size\/ia=a.size):Jj b (a.toList++c.toList) (Oh a c out ia ib).toList:=by
 unfold Oh;rw [Yco,Yco,Ul,Ul];refine Mrg.endA h λx hx y hy=>?_;rcases e with e | e
 ·rw [Yfj (by rw [e,Yai];exact Yae _)] at hy;cases hy
 ·rw [Yfj (by rw [e,Yai];exact Yae _)] at hx;cases hx
theorem ML.last {out:Array Keyed}{ia ib:Nat}(T:Two b good a c)(h:ML b a c out ia ib)(e:ia+1=a.size):Jj b (a.toList++c.toList) (U3 a c out ia ib).toList:=by
 unfold U3;rw [Yco,Yco,Ul,Ul];refine Mrg.endB h λx hx y hy=>?_;obtain ⟨z,hz,_⟩:=T.at (i:=ia) (by lia);rw [Jw hz,Yfj (by rw [Yai];lia)] at hy;have:y=z:=by simpa using hy
 subst this;exact T.last y (by rw [<-e];exact hz) x (List.mem_of_mem_drop hx)
theorem ML.pushB {out:Array Keyed}{ia ib:Nat}{x:Keyed}(h:ML b a c out ia ib)(hx:c[ib]?=some x)(hl:∀y∈a.toList.drop ia,kle b x y):ML b a c (out.push x) ia (ib+1):=by
 unfold ML at h ⊢;rw [Yee];rw [Jw hx] at h;exact Mrg.moveB (u:=[x]) h λz hz y hy=>by
  have:z=x:=by simpa using hz
  subst this;exact hl y hy
theorem ML.pushA {out:Array Keyed}{ia ib:Nat}{x:Keyed}(h:ML b a c out ia ib)(hx:a[ia]?=some x)(hl:∀y∈c.toList.drop ib,kle b x y):ML b a c (out.push x) (ia+1) ib:=by
 unfold ML at h ⊢;rw [Yee];rw [Jw hx] at h;exact Mrg.moveA (u:=[x]) h λz hz y hy=>by
  have:z=x:=by simpa using hz
  subst this;exact hl y hy
theorem ML.takeA {out:Array Keyed}{ia ib k:Nat}(h:ML b a c out ia ib)(hl:∀x∈(a.toList.drop ia).take k,∀y∈c.toList.drop ib,kle b x y):ML b a c (out++a.extract ia (ia+k)) (ia+k) ib:=by
 unfold ML at h ⊢;rw [Yco,XB];rw [<-Ydf k (a.toList.drop ia),List.drop_drop] at h;exact Mrg.moveA h hl
theorem ML.takeB {out:Array Keyed}{ia ib k:Nat}(h:ML b a c out ia ib)(hl:∀x∈(c.toList.drop ib).take k,∀y∈a.toList.drop ia,kle b x y):ML b a c (out++c.extract ib (ib+k)) ia (ib+k):=by
 unfold ML at h ⊢;rw [Yco,XB];rw [<-Ydf k (c.toList.drop ib),List.drop_drop] at h;exact Mrg.moveB h hl
theorem Vw {l:List Keyed}{x:Keyed}(W:WO b)(h:(x::l).Pairwise (kle b)):∀y∈x::l,kle b x y:=λy hy=>by
 rcases Yat.mp hy with rfl | hy
 ·exact W.le_refl _
 ·exact (Yeb.mp h).1 y hy
theorem ZR (W:WO b)(L:Oo M A E s kd b good)(T:Two b good a c){out:Array Keyed}{ia ib mg:Nat}{st:SortSt}(hs:kindOf st=kd)(h:ML b a c out ia ib)(h1:ia+1<a.size)(h2:ib<c.size){Q:MLs->SortSt->Prop}(q1:∀r y st',SameG st st'->Jj b (a.toList++c.toList) r.toList->Q (some r,y) st')(q2:∀out' ia' ib' ac bc st',SameG st st'->ML b a c out' ia' ib'->ia'+1<a.size->ib'<c.size->out.size<out'.size->Q (none,out',ia',ib',ac,bc) st') :
  wpS M A E s (forIn [:a.size+c.size] ((none,out,ia,ib,0,0):MLs) (Zbi a c mg)) Q st:=by
 refine Ybz (λk r st'=>SameG st st'/\∃out' ia' ib' ac bc,r=(none,out',ia',ib',ac,bc)/\ML b a c out' ia' ib'/\ia'+1<a.size/\ib'<c.size/\out.size+k<=out'.size) ?_ ?_ ⟨SameG.refl _,_,_,_,_,_,rfl,h,h1,h2,Yae _⟩
 ·rintro k r st1 _ hk ⟨sg,out',ia',ib',ac,bc,rfl,h,h1,h2,h3⟩;have hs1:kindOf st1=kd:=sg.1.trans hs;unfold Zbi;dsimp only;obtain ⟨x,hx,gx⟩:=T.ct h2;obtain ⟨y,hy,gy⟩:=T.at (i:=ia') (by lia);refine Yac (Gw hx (Yac (Gw hy (Yac (L x y st1 _ gx gy hs1 ?_)))));have sA:(a.toList.drop ia').Pairwise (kle b):=h.sa;have sB:(c.toList.drop ib').Pairwise (kle b):=h.sb;rw [Jw hy] at sA;rw [Jw hx] at sB;dsimp only;cases hb:b x y with
  | true=>
   rw [if_pos rfl];refine Yac (Gw hx ?_);have h':=h.pushB hx λz hz=>by
    rw [Jw hy] at hz;exact W.le_trans (W.le_of_lt hb) (Vw W sA z hz)
   split
   ·rename_i e;exact Yaf (q1 _ _ _ sg (h'.done (.inl (eq_of_beq e))))
   ·rename_i e;have e:ib'+1<c.size:=by
     have:ib'+1≠c.size:=λz=>e (Yaz.mpr z)
     lia
    split
    ·exact Yaf (q2 _ _ _ _ _ _ sg h' h1 e (by rw [Ych];lia))
    ·exact Yaf ⟨sg,_,_,_,_,_,rfl,h',h1,e,by rw [Ych];lia⟩
  | false=>
   rw [if_neg Yaj];refine Yac (Gw hy ?_);have h':=h.pushA hy λz hz=>by
    rw [Jw hx] at hz;exact W.le_trans hb (Vw W sB z hz)
   split
   ·rename_i e;exact Yaf (q1 _ _ _ sg (h'.last T (eq_of_beq e)))
   ·rename_i e;have e:ia'+1+1<a.size:=by
     have:ia'+1+1≠a.size:=λz=>e (Yaz.mpr z)
     lia
    split
    ·exact Yaf (q2 _ _ _ _ _ _ sg h' e h2 (by rw [Ych];lia))
    ·exact Yaf ⟨sg,_,_,_,_,_,rfl,h',e,h2,by rw [Ych];lia⟩
 ·rintro r st1 ⟨sg,out',ia',ib',ac,bc,rfl,h,h1,h2,h3⟩;exact q2 _ _ _ _ _ _ sg h h1 h2 (by have:=T.na;simp at h3;lia)
end
noncomputable def Rng (b:Keyed->Keyed->Bool)(arr:Array Keyed)(lo hi:Nat):Prop:=∀i j x y,lo<=i->i<=j->j<hi->arr[i]?=some x->arr[j]?=some y->kle b x y
section
variable {M:Model}{A:Around}{E:EX}{s:Shared}{kd:SortKind}{b:Keyed->Keyed->Bool}{good:Keyed->Prop}
theorem Zbl (W:WO b):∀{l:List Keyed}{i j:Nat}{x y:Keyed},l.Pairwise (kle b)->i<=j->l[i]?=some x->l[j]?=some y->kle b x y
 | [],_,_,_,_,_,_,h,_=>by simp at h
 | z::l,0,0,x,y,_,_,h1,h2=>by
  simp at h1 h2;subst h1 h2;exact W.le_refl _
 | z::l,0,j+1,x,y,h,_,h1,h2=>by
  simp at h1 h2;subst h1;exact (Yeb.mp h).1 y (Ybg h2)
 | z::l,i+1,0,_,_,_,h,_,_=>by lia
 | z::l,i+1,j+1,x,y,h,hij,h1,h2=>by
  simp at h1 h2;exact Zbl W (Yeb.mp h).2 (by lia) h1 h2
theorem Zb5 (W:WO b){arr:Array Keyed}{lo:Nat}(h:(arr.toList.drop lo).Pairwise (kle b)):Rng b arr lo arr.size:=λi j x y h1 h2 h3 e1 e2=>by
 refine Zbl (i:=i-lo) (j:=j-lo) W h (by lia) ?_ ?_
 ·rw [Yen,Ycx h1,Yaq];exact e1
 ·rw [Yen,Ycx (Ybr h1 h2),Yaq];exact e2
theorem U4 (W:WO b){left:Bool}{key:Keyed}{arr:Array Keyed}{base n:Nat}(hk:good key)(hg:∀i,i<n->∃x,arr[base+i]?=some x/\good x)(h:Rng b arr base (base+n)):Gal b good left key arr base n:=by
 refine ⟨hk,hg,λi j h1 h2 h3=>?_⟩;obtain ⟨x,hx,_⟩:=hg i (by lia);obtain ⟨y,hy,_⟩:=hg j h2;have hxy:=h (base+i) (base+j) x y (by lia) (by lia) (by lia) hx hy;unfold byd at h3 ⊢;rw [hy] at h3;rw [hx];dsimp only at h3 ⊢;cases left with
 | true=>
  rw [if_pos rfl] at h3 ⊢;rcases W.neg y x key h3 with z | z
  ·rw [show b y x=false from hxy] at z;cases z
  ·exact z
 | false=>
  rw [if_neg Yaj] at h3 ⊢;rw [Bool.not_eq_true'] at h3 ⊢;exact W.le_trans (x:=x) (y:=y) (z:=key) hxy h3
variable {a c:Array Keyed}
theorem XC {arr:Array Keyed}{base k:Nat}{x:Keyed}(h:x∈(arr.toList.drop base).take k):∃i,i<k/\arr[base+i]?=some x:=by
 obtain ⟨i,hi⟩:=List.mem_iff_getElem?.mp h;rw [Yem] at hi;split at hi
 ·rw [Yen,Yaq] at hi;exact ⟨i,by assumption,hi⟩
 ·cases hi
theorem XD {arr:Array Keyed}{base:Nat}{x:Keyed}(h:x∈arr.toList.drop base):∃i,base+i<arr.size/\arr[base+i]?=some x:=by
 obtain ⟨i,hi⟩:=List.mem_iff_getElem?.mp h;rw [Yen,Yaq] at hi;exact ⟨i,(Array.getElem?_eq_some_iff.mp hi).1,hi⟩
section
variable {out:Array Keyed}{ia ib:Nat}{st:SortSt}{Q:ForInStep MLt->SortSt->Prop}
structure Zbm (b:Keyed->Keyed->Bool)(a c:Array Keyed)(n:Nat)(st:SortSt)(Q:ForInStep MLt->SortSt->Prop):Prop where
 fin:∀r y st',SameG st st'->Jj b (a.toList++c.toList) r.toList->Q (.done (some r,y)) st'
 brk:∀out' ia' ib' y st',SameG st st'->ML b a c out' ia' ib'->ia'+1<a.size->ib'<c.size->n<=out'.size->Q (.done (none,out',ia',ib',y)) st'
 go:∀out' ia' ib' y st',SameG st st'->ML b a c out' ia' ib'->ia'+1<a.size->ib'<c.size->n<=out'.size->Q (.yield (none,out',ia',ib',y)) st'
theorem ZS (T:Two b good a c){mg ac k n:Nat}(R:Zbm b a c n st Q)(h:ML b a c out ia ib)(h1:ia+1<a.size)(h2:ib<c.size)(hn:n<=out.size)(hl:∀x,a[ia]?=some x->∀y∈c.toList.drop ib,kle b x y) :
  wpS M A E s (mlD a c mg ac k out ia ib) Q st:=by
 unfold mlD;obtain ⟨x,hx,gx⟩:=T.at (i:=ia) (by lia);refine Yac (Gw hx ?_);have h':=h.pushA hx (hl x hx);have hn':n<=(out.push x).size:=by rw [Ych];lia
 dsimp only;split
 ·rename_i e;exact Yaf (R.fin _ _ _ (SameG.refl _) (h'.last T (eq_of_beq e)))
 ·rename_i e;have e:ia+1+1<a.size:=by
   have:ia+1+1≠a.size:=λz=>e (Yaz.mpr z)
   lia
  split
  ·exact Yaf (R.brk _ _ _ _ _ (SameG.refl _) h' e h2 hn')
  ·exact Yaf (R.go _ _ _ _ _ (SameG.refl _) h' e h2 hn')
theorem ZT (W:WO b)(L:Oo M A E s kd b good)(T:Two b good a c){mg ac bc n:Nat}(R:Zbm b a c n st Q)(hs:kindOf st=kd)(h:ML b a c out ia ib)(h1:ia+1<a.size)(h2:ib<c.size)(hn:n<=out.size)(hl:∀x,c[ib]?=some x->∀y∈a.toList.drop ia,kle b x y):wpS M A E s (mlC a c mg ac bc out ia ib) Q st:=by
 unfold mlC;obtain ⟨x,hx,gx⟩:=T.ct h2;obtain ⟨y,hy,gy⟩:=T.at (i:=ia) (by lia);refine Yac (Gw hx ?_);have h':=h.pushB hx (hl x hx);have hn':n<=(out.push x).size:=by rw [Ych];lia
 generalize out.push x=out1 at h' hn';dsimp only;split
 ·rename_i e;exact Yaf (R.fin _ _ _ (SameG.refl _) (h'.done (.inl (eq_of_beq e))))
 ·rename_i e;have e:ib+1<c.size:=by
   have:ib+1≠c.size:=λz=>e (Yaz.mpr z)
   lia
  refine Yac (Gw hy ?_);have sB:Rng b c (ib+1) c.size:=Zb5 W h'.sb;have sA:(a.toList.drop ia).Pairwise (kle b):=h'.sa;rw [Jw hy] at sA;have G:Gal b good true y c (ib+1) (c.size-(ib+1)):=U4 W gy (λi hi=>T.ct (by lia)) (by rw [Ycx (by lia)];exact sB);refine Yac (Jq L G hs (by lia) λk hk k1 k2=>?_);dsimp only;have tk:∀z∈(c.toList.drop (ib+1)).take k,∀v∈a.toList.drop ia,kle b z v:=λz hz v hv=>by
   obtain ⟨i,hi,ez⟩:=XC hz;have:=k1 i hi;unfold byd at this;rw [ez] at this;dsimp only at this;rw [if_pos rfl] at this;rw [Jw hy] at hv;exact W.le_trans (W.le_of_lt this) (Vw W sA v hv)
  have tr:∀v∈c.toList.drop (ib+1+k),kle b y v:=λv hv=>by
   obtain ⟨i,hi,ev⟩:=XD hv;have:=k2 (k+i) (by lia) (by lia);unfold byd at this;rw [show ib+1+(k+i)=ib+1+k+i by lia,ev] at this;dsimp only at this;rw [if_pos rfl] at this;exact this
  split
  ·have h3:=h'.takeB tk;have hn3:n<=(out1++c.extract (ib+1) (ib+1+k)).size:=by rw [Array.size_append];lia
   split
   ·rename_i e2;exact Yaf (R.fin _ _ _ (SameG.refl _) (h3.done (.inl (eq_of_beq e2))))
   ·rename_i e2;have e2:ib+1+k<c.size:=by
     have:ib+1+k≠c.size:=λz=>e2 (Yaz.mpr z)
     lia
    exact ZS T R h3 h1 e2 hn3 λx' hx' v hv=>by
     rw [hy] at hx';cases hx';exact tr v hv
  ·rename_i hk0;have:k=0:=by lia
   subst this;exact ZS T R h' h1 e hn' λx' hx' v hv=>by
    rw [hy] at hx';cases hx';exact tr v hv
theorem ZcQ (W:WO b)(L:Oo M A E s kd b good)(T:Two b good a c){mg ac bc n:Nat}(R:∀st',SameG st st'->Zbm b a c n st' Q)(hs:kindOf st=kd)(h:ML b a c out ia ib)(h1:ia+1<a.size)(h2:ib<c.size)(hn:n<=out.size) :
  wpS M A E s (mlB a c mg ac bc out ia ib) Q st:=by
 unfold mlB;refine Yac (J8 λst1 sg=>?_);have R:=R st1 sg;have hs1:kindOf st1=kd:=sg.1.trans hs;obtain ⟨x,hx,gx⟩:=T.ct h2;refine Yac (Gw hx ?_);have sA:Rng b a ia a.size:=Zb5 W h.sa;have sB:(c.toList.drop ib).Pairwise (kle b):=h.sb;rw [Jw hx] at sB;have G:Gal b good false x a ia (a.size-ia):=U4 W gx (λi hi=>T.at (by lia)) (by rw [Ycx (by lia)];exact sA);refine Yac (Jq L G hs1 (by lia) λk hk k1 k2=>?_);dsimp only;have tk:∀z∈(a.toList.drop ia).take k,∀v∈c.toList.drop ib,kle b z v:=λz hz v hv=>by
  obtain ⟨i,hi,ez⟩:=XC hz;have:=k1 i hi;unfold byd at this;rw [ez] at this;dsimp only at this;rw [if_neg Yaj,Bool.not_eq_true'] at this;rw [Jw hx] at hv;exact W.le_trans this (Vw W sB v hv)
 have tr:∀v∈a.toList.drop (ia+k),kle b x v:=λv hv=>by
  obtain ⟨i,hi,ev⟩:=XD hv;have:=k2 (k+i) (by lia) (by lia);unfold byd at this;rw [show ia+(k+i)=ia+k+i by lia,ev] at this;dsimp only at this;rw [if_neg Yaj,Bool.not_eq_false'] at this;exact W.le_of_lt this
 split
 ·have h3:=h.takeA tk;have hn3:n<=(out++a.extract ia (ia+k)).size:=by rw [Array.size_append];lia
  split
  ·rename_i e2;exact Yaf (R.fin _ _ _ (SameG.refl _) (h3.last T (eq_of_beq e2)))
  ·rename_i e2;split
   ·rename_i e3;exact Yaf (R.fin _ _ _ (SameG.refl _) (h3.done (.inr (eq_of_beq e3))))
   ·rename_i e3;have e4:ia+k+1<a.size:=by
     have:ia+k+1≠a.size:=λz=>e2 (Yaz.mpr z);have:ia+k≠a.size:=λz=>e3 (Yaz.mpr z)
     lia
    exact ZT W L T R hs1 h3 e4 h2 hn3 λx' hx' v hv=>by
     rw [hx] at hx';cases hx';exact tr v hv
 ·have:k=0:=by lia
  subst this;exact ZT W L T R hs1 h h1 h2 hn λx' hx' v hv=>by
   rw [hx] at hx';cases hx';exact tr v hv
end
theorem ZU (W:WO b)(L:Oo M A E s kd b good)(T:Two b good a c){out:Array Keyed}{ia ib n:Nat}{y:Nat×Nat×Nat}{st:SortSt}(hs:kindOf st=kd)(h:ML b a c out ia ib)(h1:ia+1<a.size)(h2:ib<c.size){Q:MLt->SortSt->Prop}(q1:∀r y st',SameG st st'->Jj b (a.toList++c.toList) r.toList->Q (some r,y) st')(q2:∀out' ia' ib' y st',SameG st st'->ML b a c out' ia' ib'->ia'+1<a.size->ib'<c.size->out.size<=out'.size->Q (none,out',ia',ib',y) st') :
  wpS M A E s (forIn [:n] ((none,out,ia,ib,y):MLt) (Zbj a c)) Q st:=by
 refine Ybz (λk r st'=>SameG st st'/\∃out' ia' ib' y,r=(none,out',ia',ib',y)/\ML b a c out' ia' ib'/\ia'+1<a.size/\ib'<c.size/\out.size<=out'.size) ?_ ?_ ⟨SameG.refl _,_,_,_,_,rfl,h,h1,h2,Yae _⟩
 ·rintro k r st1 _ hk ⟨sg,out',ia',ib',y,rfl,h,h1,h2,h3⟩;have hs1:kindOf st1=kd:=sg.1.trans hs;have R:∀st',SameG st1 st'->Zbm b a c out.size st' (λr st'=>match r with
   | .done c'=>Q c' st'
   | .yield c'=>SameG st st'/\∃out' ia' ib' y,c'=(none,out',ia',ib',y)/\ML b a c out' ia' ib'/\ia'+1<a.size/\ib'<c.size/\out.size<=out'.size):=λst' sg'=>
   ⟨λr y st2 g m=>q1 r y st2 ((sg.trans sg').trans g) m,λo i j y st2 g m p1 p2 p3=>q2 o i j y st2 ((sg.trans sg').trans g) m p1 p2 p3,λo i j y st2 g m p1 p2 p3=>⟨(sg.trans sg').trans g,o,i,j,y,rfl,m,p1,p2,p3⟩⟩
  unfold Zbj;dsimp only;have mono:∀mg,wpS M A E s (mlB a c mg y.2.1 y.2.2 out' ia' ib') _ st1:=λmg=>ZcQ W L T R hs1 h h1 h2 h3;split
  ·exact wpS_mono (mono _) λr st' hr=>by cases r <;> exact hr
  ·exact wpS_mono (mono _) λr st' hr=>by cases r <;> exact hr
 ·rintro r st1 ⟨sg,out',ia',ib',y,rfl,h,h1,h2,h3⟩;exact q2 _ _ _ _ _ sg h h1 h2 h3
theorem WN (W:WO b)(L:Oo M A E s kd b good)(T:Two b good a c){st:SortSt}(hs:kindOf st=kd){Q:Array Keyed->SortSt->Prop}(q:∀r st',SameG st st'->Jj b (a.toList++c.toList) r.toList->Q r st'):wpS M A E s (Vs a c) Q st:=by
 rw [WM];refine Yac (wpS_lift (Ycy ⟨rfl,?_⟩));obtain ⟨x,hx,gx⟩:=T.ct T.nc;refine Yac (Gw hx ?_);have h0:ML b a c #[x] 0 1:=by
  have z:ML b a c #[] 0 0:=⟨by simp,by simp,by simp,by simpa using T.sa,by simpa using T.sc⟩;exact z.pushB hx λy hy=>T.first x hx y (by simpa using hy)
 have hc:=T.nc;have ha:=T.na;dsimp only;split
 ·rename_i e;exact Yaf (q _ _ (SameG.refl _) (h0.done (.inl (eq_of_beq e))))
 ·rename_i e;have e:1<c.size:=by
   have:1≠c.size:=λz=>e (Yaz.mpr z)
   lia
  split
  ·rename_i e2;exact Yaf (q _ _ (SameG.refl _) (h0.last T (eq_of_beq e2)))
  ·rename_i e2;have e2:0+1<a.size:=by
    have:0+1≠a.size:=λz=>e2 (Yaz.mpr z)
    lia
   refine Yac (wpS_get ?_);refine Yac (Ybz (λk r st'=>SameG st st'/\∃out' ia' ib' mg,r=(none,out',ia',ib',mg)/\ML b a c out' ia' ib'/\ia'+1<a.size/\ib'<c.size/\k<out'.size) ?_ ?_ ⟨SameG.refl _,_,_,_,_,rfl,h0,e2,e,by simp⟩)
   ·rintro k r st1 _ hk ⟨sg,out',ia',ib',mg,rfl,h,h1,h2,h3⟩;have hs1:kindOf st1=kd:=sg.1.trans hs;unfold Zbk;dsimp only;refine Yac (ZR W L T hs1 h h1 h2 (λr y st2 g m=>?_) (λo i j ac bc st2 g m p1 p2 p3=>?_))
    ·refine Yaf ?_;dsimp only;exact Yaf (q r st2 (sg.trans g) m)
    ·dsimp only;refine Yac (wpS_lift (Ycy ⟨rfl,?_⟩));refine Yac (ZU W L T (g.1.trans hs1) m p1 p2 (λr y st3 g3 m3=>?_) (λo3 i3 j3 y3 st3 g3 m3 r1 r2 r3=>?_))
     ·refine Yaf ?_;dsimp only;exact Yaf (q r st3 ((sg.trans g).trans g3) m3)
     ·dsimp only;refine Yac (J8 λst4 g4=>?_);exact Yaf ⟨((sg.trans g).trans g3).trans g4,_,_,_,_,rfl,m3,r1,r2,by lia⟩
   ·rintro r st1 ⟨sg,out',ia',ib',mg,rfl,h,h1,h2,h3⟩;exfalso;have:=Mrg.len h;rw [Yak,Ydx,Ydx,Yai,Yai,Yai] at this;simp at h3
    lia
end
noncomputable abbrev MHs:=Option (Array Keyed)×Nat×Nat×Array Keyed×Nat×Nat
noncomputable abbrev MHt:=Option (Array Keyed)×Nat×Nat×Array Keyed×Nat×Nat×Nat
noncomputable abbrev MHo:=Option (Array Keyed)×Nat×Nat×Array Keyed×Nat
noncomputable def Oi (a b out:Array Keyed)(na nb:Nat):Array Keyed:=a.extract 0 na++b.extract 0 nb++out.reverse
noncomputable def OU (a b out:Array Keyed)(na nb:Nat):Array Keyed:=b.extract 0 nb++a.extract 0 na++out.reverse
noncomputable def Zbn (a b:Array Keyed)(mg:Nat):Nat->MHs->StateT SortSt Sem (ForInStep MHs):=λ_ r=>
 let na:=r.2.1;let nb:=r.2.2.1;let out:=r.2.2.2.1;let qZ:=r.2.2.2.2.1;let qX:=r.2.2.2.2.2
 do
 let x <- elem' b (nb-1)
 let y <- elem' a (na-1)
 match <- lt' x y with
 | some aWins=>
  if aWins=true then do
   let na:=na-1
   let z <- elem' a na
   let out:=out.push z
   let qZ:=qZ+1
   let qX:=0
   if (na == 0)=true then pure (.done (some (Oi a b out na nb),na,nb,out,qZ,qX))
   else if qZ>=mg then pure (.done (none,na,nb,out,qZ,qX))
   else pure (.yield (none,na,nb,out,qZ,qX))
  else do
   let nb:=nb-1
   let z <- elem' b nb
   let out:=out.push z
   let qX:=qX+1
   let qZ:=0
   if (nb == 1)=true then pure (.done (some (OU a b out na nb),na,nb,out,qZ,qX))
   else if qX>=mg then pure (.done (none,na,nb,out,qZ,qX))
   else pure (.yield (none,na,nb,out,qZ,qX))
 | _=>pure (.done (some (Oi a b out na nb),na,nb,out,qZ,qX))
noncomputable def mhD (a b:Array Keyed)(qJ qZ qX:Nat)(na nb:Nat)(out:Array Keyed):StateT SortSt Sem (ForInStep MHt):=do
 let na:=na-1
 let z <- elem' a na
 let out:=out.push z
 if (na == 0)=true then pure (.done (some (Oi a b out na nb),na,nb,out,qJ,qZ,qX))
 else if (decide (qZ<7) && decide (qX<7))=true then pure (.done (none,na,nb,out,qJ,qZ,qX))
 else pure (.yield (none,na,nb,out,qJ,qZ,qX))
noncomputable def mhC (a b:Array Keyed)(qJ qZ qX:Nat)(na nb:Nat)(out:Array Keyed):StateT SortSt Sem (ForInStep MHt):=do
 let nb:=nb-1
 let z <- elem' b nb
 let out:=out.push z
 if (nb == 1)=true then pure (.done (some (OU a b out na nb),na,nb,out,qJ,qZ,qX))
 else do
  let y <- elem' a (na-1)
  match <- JZ true y b 0 nb (nb-1) with
  | some at_=>
   let k:=nb-at_
   let qX:=k
   if k > 0 then
    let out:=out++(b.extract at_ nb).reverse
    let nb:=at_
    if (nb == 1)=true then pure (.done (some (OU a b out na nb),na,nb,out,qJ,qZ,qX))
    else if (nb == 0)=true then pure (.done (some (Oi a b out na nb),na,nb,out,qJ,qZ,qX))
    else mhD a b qJ qZ qX na nb out
   else mhD a b qJ qZ qX na nb out
  | _=>pure (.done (some (Oi a b out na nb),na,nb,out,qJ,qZ,qX))
noncomputable def mhB (a b:Array Keyed)(qJ qZ qX:Nat)(na nb:Nat)(out:Array Keyed):StateT SortSt Sem (ForInStep MHt):=do
 UC qJ
 let x <- elem' b (nb-1)
 match <- JZ false x a 0 na (na-1) with
 | some at_=>
  let k:=na-at_
  let qZ:=k
  if k > 0 then
   let out:=out++(a.extract at_ na).reverse
   let na:=at_
   if (na == 0)=true then pure (.done (some (Oi a b out na nb),na,nb,out,qJ,qZ,qX))
   else mhC a b qJ qZ qX na nb out
  else mhC a b qJ qZ qX na nb out
 | _=>pure (.done (some (Oi a b out na nb),na,nb,out,qJ,qZ,qX))
noncomputable def Zbo (a b:Array Keyed):Nat->MHt->StateT SortSt Sem (ForInStep MHt):=λ_ r=>
 let na:=r.2.1;let nb:=r.2.2.1;let out:=r.2.2.2.1;let qJ:=r.2.2.2.2.1;let qZ:=r.2.2.2.2.2.1;let qX:=r.2.2.2.2.2.2
 if qJ > 1 then mhB a b (qJ-1) qZ qX na nb out else mhB a b qJ qZ qX na nb out
noncomputable def Zbp (a b:Array Keyed):Nat->MHo->StateT SortSt Sem (ForInStep MHo):=λ_ r=>
 let na:=r.2.1;let nb:=r.2.2.1;let out:=r.2.2.2.1;let qJ:=r.2.2.2.2
 do
 let r <- forIn [:a.size+b.size] ((none,na,nb,out,0,0):MHs) (Zbn a b qJ)
 match r.1 with
 | some x=>pure (.done (some x,r.2.1,r.2.2.1,r.2.2.2.1,qJ))
 | none=>do
  liftM (rule "list.sort.gallop")
  let r <- forIn [:a.size+b.size] ((none,r.2.1,r.2.2.1,r.2.2.2.1,qJ+1,r.2.2.2.2.1,r.2.2.2.2.2):MHt) (Zbo a b)
  match r.1 with
  | some x=>pure (.done (some x,r.2.1,r.2.2.1,r.2.2.2.1,r.2.2.2.2.1))
  | none=>do
   UC (r.2.2.2.2.1+1)
   pure (.yield (none,r.2.1,r.2.2.1,r.2.2.2.1,r.2.2.2.2.1+1))
theorem WP (a b:Array Keyed):Vt a b=(do
  liftM (rule "list.sort.merge-hi")
  let x <- elem' a (a.size-1)
  let out:=#[x]
  if (a.size-1 == 0)=true then pure (Oi a b out (a.size-1) b.size)
  else if (b.size == 1)=true then pure (OU a b out (a.size-1) b.size)
  else do
   let st <- get
   let r <- forIn [:a.size+b.size] ((none,a.size-1,b.size,out,gallopOf st):MHo) (Zbp a b)
   match r.1 with
   | some r=>pure r
   | none=>liftM (unsupported "internal:list.sort.merge-bound")):=by
 refine Jb (m:=liftM (rule "list.sort.merge-hi")) λ_=>?_;refine Jb (m:=elem' a (a.size-1)) λx=>?_;refine Vv (c:=(a.size-1 == 0)=true) rfl ?_;refine Vv (c:=(b.size == 1)=true) rfl ?_;refine Jb (m:=get) λst=>?_;refine (Ybf (λm:StateT SortSt Sem MHo=>m >>= _) (UD (r:=[:a.size+b.size]) (c:=((none,a.size-1,b.size,#[x],gallopOf st):MHo)) (g:=Zbp a b) λi r=>?_)).trans ?_;rotate_left
 ·refine Jb λr=>?_;obtain ⟨r1,r2⟩:=r;cases r1 <;> rfl
 unfold Zbp;refine (Ybf (λm:StateT SortSt Sem MHs=>m >>= _) (UD (r:=[:a.size+b.size]) (g:=Zbn a b r.2.2.2.2) λi r=>rfl)).trans ?_;refine Jb λq=>?_;obtain ⟨q1,q2⟩:=q;cases q1 with
 | some z=>rfl
 | none=>
  refine Jb (m:=liftM (rule "list.sort.gallop")) λ_=>?_;refine (Ybf (λm:StateT SortSt Sem MHt=>m >>= _) (UD (r:=[:a.size+b.size]) (g:=Zbo a b) λi r=>rfl)).trans ?_;refine Jb λq=>?_;obtain ⟨q1,q2⟩:=q;cases q1 <;> rfl
section
variable {b:Keyed->Keyed->Bool}
structure MrgH (b:Keyed->Keyed->Bool)(all out ra rb:List Keyed):Prop where
 perm:(ra++rb++out).Perm all
 so:out.Pairwise (kle b)
 le:∀x∈ra++rb,∀y∈out,kle b x y
 sa:ra.Pairwise (kle b)
 sb:rb.Pairwise (kle b)
theorem MrgH.len {all out ra rb:List Keyed}(h:MrgH b all out ra rb):ra.length+rb.length+out.length=all.length:=by
 have:=h.perm.length_eq;rw [Yak,Yak] at this;exact this
theorem MrgH.moveB {all out u ra rb:List Keyed}(h:MrgH b all out ra (rb++u))(hu:∀x∈u,∀y∈ra,kle b y x):MrgH b all (u++out) ra rb:=by
 have sb:=Ybu.mp h.sb;refine ⟨?_,Ybu.mpr ⟨sb.2.1,h.so,λx hx y hy=>h.le x (by simp [hx]) y hy⟩,λx hx y hy=>?_,h.sa,sb.1⟩
 ·have:=h.perm;simp only [Ybq] at this ⊢;exact this
 ·rcases Yal.mp hy with hy | hy
  ·rcases Yal.mp hx with hx | hx
   ·exact hu y hy x hx
   ·exact sb.2.2 x hx y hy
  ·refine h.le x ?_ y hy;rcases Yal.mp hx with hx | hx <;> simp [hx]
theorem MrgH.moveA {all out u ra rb:List Keyed}(h:MrgH b all out (ra++u) rb)(hu:∀x∈u,∀y∈rb,kle b y x):MrgH b all (u++out) ra rb:=by
 have sa:=Ybu.mp h.sa;refine ⟨?_,Ybu.mpr ⟨sa.2.1,h.so,λx hx y hy=>h.le x (by simp [hx]) y hy⟩,λx hx y hy=>?_,sa.1,h.sb⟩
 ·refine List.Perm.trans ?_ h.perm;simp only [Ybq];refine Yfh _ ?_;rw [<-Ybq,<-Ybq];exact List.Perm.append_right _ List.perm_append_comm
 ·rcases Yal.mp hy with hy | hy
  ·rcases Yal.mp hx with hx | hx
   ·exact sa.2.2 x hx y hy
   ·exact hu y hy x hx
  ·refine h.le x ?_ y hy;rcases Yal.mp hx with hx | hx <;> simp [hx]
theorem MrgH.endA {all out ra rb:List Keyed}(h:MrgH b all out ra rb)(hz:∀x∈ra,∀y∈rb,kle b x y):Jj b all (ra++rb++out):=
 ⟨h.perm,Ybu.mpr ⟨Ybu.mpr ⟨h.sa,h.sb,hz⟩,h.so,h.le⟩⟩
theorem MrgH.endB {all out ra rb:List Keyed}(h:MrgH b all out ra rb)(hz:∀x∈rb,∀y∈ra,kle b x y):Jj b all (rb++ra++out):=by
 refine ⟨List.Perm.trans (List.Perm.append_right _ List.perm_append_comm) h.perm,Ybu.mpr ⟨Ybu.mpr ⟨h.sb,h.sa,hz⟩,h.so,λx hx y hy=>h.le x ?_ y hy⟩⟩;rcases Yal.mp hx with hx | hx <;> simp [hx]
end
theorem XE (a:Array Keyed)(k:Nat):(a.extract 0 k).toList=a.toList.take k:=by
 rw [Yfc,Yfd,List.drop_zero,Nat.sub_zero]
theorem ZV (a:Array Keyed){i j:Nat}(h:i<=j):a.toList.take j=a.toList.take i++(a.extract i j).toList:=by
 rw [Yfc,Yfd];have:=Ydf i (a.toList.take j);rw [List.take_take,Yfb h,List.drop_take] at this;exact this.symm
theorem ZW {a:Array Keyed}{i:Nat}{x:Keyed}(h:a[i]?=some x):a.toList.take (i+1)=a.toList.take i++[x]:=by
 rw [<-Yaq] at h;rw [Ycp,h]
 rfl
theorem Zbq {arr:Array Keyed}{k:Nat}{x:Keyed}(h:x∈arr.toList.take k):∃i,i<k/\arr[i]?=some x:=by
 obtain ⟨i,hi⟩:=List.mem_iff_getElem?.mp h;rw [Yem] at hi;split at hi
 ·rw [Yaq] at hi;exact ⟨i,by assumption,hi⟩
 ·cases hi
theorem WQ {arr:Array Keyed}{i j:Nat}{x:Keyed}(h:x∈(arr.extract i j).toList):∃k,i<=k/\k<j/\arr[k]?=some x:=by
 rw [Yfc,Yfd] at h;obtain ⟨k,hk⟩:=List.mem_iff_getElem?.mp h;rw [Yem] at hk;split at hk
 ·rw [Yen,Yaq] at hk;exact ⟨i+k,by lia,by lia,hk⟩
 ·cases hk
section
variable {M:Model}{A:Around}{E:EX}{s:Shared}{kd:SortKind}{b:Keyed->Keyed->Bool}{good:Keyed->Prop}{a c:Array Keyed}
noncomputable def MH (b:Keyed->Keyed->Bool)(a c:Array Keyed)(na nb:Nat)(out:Array Keyed):Prop:=MrgH b (a.toList++c.toList) out.toList.reverse (a.toList.take na) (c.toList.take nb)
theorem ZX (W:WO b){arr:Array Keyed}{hi:Nat}(h:(arr.toList.take hi).Pairwise (kle b)):Rng b arr 0 (0+hi):=λi j x y h1 h2 h3 e1 e2=>by
 refine Zbl (i:=i) (j:=j) W h h2 ?_ ?_
 ·rw [Yem,if_pos (by lia),Yaq];exact e1
 ·rw [Yem,if_pos (by lia),Yaq];exact e2
theorem MH.done {out:Array Keyed}{na nb:Nat}(h:MH b a c na nb out)(e:na=0\/nb=0):Jj b (a.toList++c.toList) (Oi a c out na nb).toList:=by
 unfold Oi;rw [Yco,Yco,XE,XE,Ycz];refine MrgH.endA h λx hx y hy=>?_;rcases e with e | e
 ·rw [e] at hx;simp at hx
 ·rw [e] at hy;simp at hy
theorem MH.first {out:Array Keyed}{na nb:Nat}(T:Two b good a c)(h:MH b a c na nb out)(e:nb=1):Jj b (a.toList++c.toList) (OU a c out na nb).toList:=by
 unfold OU;rw [Yco,Yco,XE,XE,Ycz];refine MrgH.endB h λx hx y hy=>?_;obtain ⟨i,hi,ex⟩:=Zbq hx;have:i=0:=by lia
 subst this;exact T.first x ex y (List.mem_of_mem_take hy)
theorem MH.pushB {out:Array Keyed}{na nb:Nat}{x:Keyed}(h:MH b a c na (nb+1) out)(hx:c[nb]?=some x)(hl:∀y∈a.toList.take na,kle b y x):MH b a c na nb (out.push x):=by
 unfold MH at h ⊢;rw [Yee,List.reverse_append];rw [ZW hx] at h;exact MrgH.moveB (u:=[x]) h λz hz y hy=>by
  have:z=x:=by simpa using hz
  subst this;exact hl y hy
theorem MH.pushA {out:Array Keyed}{na nb:Nat}{x:Keyed}(h:MH b a c (na+1) nb out)(hx:a[na]?=some x)(hl:∀y∈c.toList.take nb,kle b y x):MH b a c na nb (out.push x):=by
 unfold MH at h ⊢;rw [Yee,List.reverse_append];rw [ZW hx] at h;exact MrgH.moveA (u:=[x]) h λz hz y hy=>by
  have:z=x:=by simpa using hz
  subst this;exact hl y hy
theorem MH.takeA {out:Array Keyed}{na nb k:Nat}(h:MH b a c na nb out)(hk:k<=na)(hl:∀x∈(a.extract k na).toList,∀y∈c.toList.take nb,kle b y x):MH b a c k nb (out++(a.extract k na).reverse):=by
 unfold MH at h ⊢;rw [Yco,Ycz,List.reverse_append,List.reverse_reverse];rw [ZV a hk] at h;exact MrgH.moveA h hl
theorem MH.takeB {out:Array Keyed}{na nb k:Nat}(h:MH b a c na nb out)(hk:k<=nb)(hl:∀x∈(c.extract k nb).toList,∀y∈a.toList.take na,kle b y x):MH b a c na k (out++(c.extract k nb).reverse):=by
 unfold MH at h ⊢;rw [Yco,Ycz,List.reverse_append,List.reverse_reverse];rw [ZV c hk] at h;exact MrgH.moveB h hl
theorem Vx (W:WO b){arr:Array Keyed}{k:Nat}{x:Keyed}(h:(arr.toList.take (k+1)).Pairwise (kle b))(hx:arr[k]?=some x):∀y∈arr.toList.take (k+1),kle b y x:=λy hy=>by
 obtain ⟨i,hi,ey⟩:=Zbq hy;exact ZX W h i k y x (Yao _) (by lia) (by lia) ey hx
theorem ZY (W:WO b)(L:Oo M A E s kd b good)(T:Two b good a c){out:Array Keyed}{na nb mg:Nat}{st:SortSt}(hs:kindOf st=kd)(h:MH b a c na nb out)(h1:0<na/\na<=a.size)(h2:1<nb/\nb<=c.size){Q:MHs->SortSt->Prop}(q1:∀r y st',SameG st st'->Jj b (a.toList++c.toList) r.toList->Q (some r,y) st')(q2:∀na' nb' out' ac bc st',SameG st st'->MH b a c na' nb' out'->(0<na'/\na'<=a.size)->(1<nb'/\nb'<=c.size)->out.size<out'.size->Q (none,na',nb',out',ac,bc) st') :
  wpS M A E s (forIn [:a.size+c.size] ((none,na,nb,out,0,0):MHs) (Zbn a c mg)) Q st:=by
 refine Ybz (λk r st'=>SameG st st'/\∃na' nb' out' ac bc,r=(none,na',nb',out',ac,bc)/\MH b a c na' nb' out'/\(0<na'/\na'<=a.size)/\(1<nb'/\nb'<=c.size)/\out.size+k<=out'.size) ?_ ?_ ⟨SameG.refl _,_,_,_,_,_,rfl,h,h1,h2,Yae _⟩
 ·rintro k r st1 _ hk ⟨sg,na',nb',out',ac,bc,rfl,h,h1,h2,h3⟩;have hs1:kindOf st1=kd:=sg.1.trans hs;obtain ⟨na',rfl⟩:∃n,na'=n+1:=⟨na' - 1,by lia⟩;obtain ⟨nb',rfl⟩:∃n,nb'=n+1:=⟨nb' - 1,by lia⟩;unfold Zbn;dsimp only [Nat.add_sub_cancel];obtain ⟨x,hx,gx⟩:=T.ct (i:=nb') (by lia);obtain ⟨y,hy,gy⟩:=T.at (i:=na') (by lia);refine Yac (Gw hx (Yac (Gw hy (Yac (L x y st1 _ gx gy hs1 ?_)))));dsimp only;cases hb:b x y with
  | true=>
   rw [if_pos rfl];refine Yac (Gw hy ?_);have h':=h.pushA hy λz hz=>W.le_trans (Vx W h.sb hx z hz) (W.le_of_lt hb);split
   ·rename_i e;exact Yaf (q1 _ _ _ sg (h'.done (.inl (eq_of_beq e))))
   ·rename_i e;have e:0<na':=by
     have:na'≠0:=λz=>e (Yaz.mpr z)
     lia
    split
    ·exact Yaf (q2 _ _ _ _ _ _ sg h' ⟨e,by lia⟩ h2 (by rw [Ych];lia))
    ·exact Yaf ⟨sg,_,_,_,_,_,rfl,h',⟨e,by lia⟩,h2,by rw [Ych];lia⟩
  | false=>
   rw [if_neg Yaj];refine Yac (Gw hx ?_);have h':=h.pushB hx λz hz=>W.le_trans (Vx W h.sa hy z hz) hb;split
   ·rename_i e;exact Yaf (q1 _ _ _ sg (h'.first T (eq_of_beq e)))
   ·rename_i e;have e:1<nb':=by
     have:nb'≠1:=λz=>e (Yaz.mpr z)
     lia
    split
    ·exact Yaf (q2 _ _ _ _ _ _ sg h' h1 ⟨e,by lia⟩ (by rw [Ych];lia))
    ·exact Yaf ⟨sg,_,_,_,_,_,rfl,h',h1,⟨e,by lia⟩,by rw [Ych];lia⟩
 ·rintro r st1 ⟨sg,na',nb',out',ac,bc,rfl,h,h1,h2,h3⟩;exact q2 _ _ _ _ _ _ sg h h1 h2 (by have:=T.na;simp at h3;lia)
section
variable {out:Array Keyed}{na nb:Nat}{st:SortSt}{Q:ForInStep MHt->SortSt->Prop}
structure Zbr (b:Keyed->Keyed->Bool)(a c:Array Keyed)(n:Nat)(st:SortSt)(Q:ForInStep MHt->SortSt->Prop):Prop where
 fin:∀r y st',SameG st st'->Jj b (a.toList++c.toList) r.toList->Q (.done (some r,y)) st'
 brk:∀na' nb' out' y st',SameG st st'->MH b a c na' nb' out'->(0<na'/\na'<=a.size)->(1<nb'/\nb'<=c.size)->n<=out'.size->Q (.done (none,na',nb',out',y)) st'
 go:∀na' nb' out' y st',SameG st st'->MH b a c na' nb' out'->(0<na'/\na'<=a.size)->(1<nb'/\nb'<=c.size)->n<=out'.size->Q (.yield (none,na',nb',out',y)) st'
theorem ZZ (T:Two b good a c){mg ac bc n:Nat}(R:Zbr b a c n st Q)(h:MH b a c (na+1) nb out)(h1:na+1<=a.size)(h2:1<nb/\nb<=c.size)(hn:n<=out.size)(hl:∀x,a[na]?=some x->∀y∈c.toList.take nb,kle b y x) :
  wpS M A E s (mhD a c mg ac bc (na+1) nb out) Q st:=by
 unfold mhD;dsimp only [Nat.add_sub_cancel];obtain ⟨x,hx,gx⟩:=T.at (i:=na) (by lia);refine Yac (Gw hx ?_);have h':=h.pushA hx (hl x hx);have hn':n<=(out.push x).size:=by rw [Ych];lia
 split
 ·rename_i e;exact Yaf (R.fin _ _ _ (SameG.refl _) (h'.done (.inl (eq_of_beq e))))
 ·rename_i e;have e:0<na:=by
   have:na≠0:=λz=>e (Yaz.mpr z)
   lia
  split
  ·exact Yaf (R.brk _ _ _ _ _ (SameG.refl _) h' ⟨e,by lia⟩ h2 hn')
  ·exact Yaf (R.go _ _ _ _ _ (SameG.refl _) h' ⟨e,by lia⟩ h2 hn')
theorem Z0 (W:WO b)(L:Oo M A E s kd b good)(T:Two b good a c){mg ac bc n:Nat}(R:Zbr b a c n st Q)(hs:kindOf st=kd)(h:MH b a c (na+1) (nb+1) out)(h1:na+1<=a.size)(h2:0<nb/\nb+1<=c.size)(hn:n<=out.size)(hl:∀x,c[nb]?=some x->∀y∈a.toList.take (na+1),kle b y x):wpS M A E s (mhC a c mg ac bc (na+1) (nb+1) out) Q st:=by
 unfold mhC;dsimp only [Nat.add_sub_cancel];obtain ⟨x,hx,gx⟩:=T.ct (i:=nb) (by lia);obtain ⟨y,hy,gy⟩:=T.at (i:=na) (by lia);refine Yac (Gw hx ?_);have h':=h.pushB hx (hl x hx);have hn':n<=(out.push x).size:=by rw [Ych];lia
 generalize out.push x=out1 at h' hn';split
 ·rename_i e;exact Yaf (R.fin _ _ _ (SameG.refl _) (h'.first T (eq_of_beq e)))
 ·rename_i e;have e:1<nb:=by
   have:nb≠1:=λz=>e (Yaz.mpr z)
   lia
  refine Yac (Gw hy ?_);have G:Gal b good true y c 0 nb:=U4 W gy (λi hi=>by rw [Ycw];exact T.ct (by lia)) (ZX W h'.sb);refine Yac (Jq L G hs (by lia) λk hk k1 k2=>?_);dsimp only;have tk:∀z∈(c.extract k nb).toList,∀v∈a.toList.take (na+1),kle b v z:=λz hz v hv=>by
   obtain ⟨i,hi,hj,ez⟩:=WQ hz;have:=k2 i hi hj;unfold byd at this;rw [Ycw,ez] at this;dsimp only at this;rw [if_pos rfl] at this;exact W.le_trans (Vx W h'.sa hy v hv) this
  have tr:∀v∈c.toList.take k,kle b v y:=λv hv=>by
   obtain ⟨i,hi,ev⟩:=Zbq hv;have:=k1 i hi;unfold byd at this;rw [Ycw,ev] at this;dsimp only at this;rw [if_pos rfl] at this;exact W.le_of_lt this
  split
  ·have h3:=h'.takeB hk tk;have hn3:n<=(out1++(c.extract k nb).reverse).size:=by rw [Array.size_append];lia
   split
   ·rename_i e2;exact Yaf (R.fin _ _ _ (SameG.refl _) (h3.first T (eq_of_beq e2)))
   ·rename_i e2;split
    ·rename_i e3;exact Yaf (R.fin _ _ _ (SameG.refl _) (h3.done (.inr (eq_of_beq e3))))
    ·rename_i e3;have e4:1<k:=by
      have:k≠1:=λz=>e2 (Yaz.mpr z);have:k≠0:=λz=>e3 (Yaz.mpr z)
      lia
     exact ZZ T R h3 h1 ⟨e4,by lia⟩ hn3 λx' hx' v hv=>by
      rw [hy] at hx';cases hx';exact tr v hv
  ·have:k=nb:=by lia
   subst this;exact ZZ T R h' h1 ⟨e,by lia⟩ hn' λx' hx' v hv=>by
    rw [hy] at hx';cases hx';exact tr v hv
theorem ZcR (W:WO b)(L:Oo M A E s kd b good)(T:Two b good a c){mg ac bc n:Nat}(R:∀st',SameG st st'->Zbr b a c n st' Q)(hs:kindOf st=kd)(h:MH b a c na (nb+1) out)(h1:0<na/\na<=a.size)(h2:0<nb/\nb+1<=c.size)(hn:n<=out.size) :
  wpS M A E s (mhB a c mg ac bc na (nb+1) out) Q st:=by
 unfold mhB;refine Yac (J8 λst1 sg=>?_);have R:=R st1 sg;have hs1:kindOf st1=kd:=sg.1.trans hs;dsimp only [Nat.add_sub_cancel];obtain ⟨x,hx,gx⟩:=T.ct (i:=nb) (by lia);refine Yac (Gw hx ?_);have G:Gal b good false x a 0 na:=U4 W gx (λi hi=>by rw [Ycw];exact T.at (by lia)) (ZX W h.sa);refine Yac (Jq L G hs1 (by lia) λk hk k1 k2=>?_);dsimp only;have tk:∀z∈(a.extract k na).toList,∀v∈c.toList.take (nb+1),kle b v z:=λz hz v hv=>by
  obtain ⟨i,hi,hj,ez⟩:=WQ hz;have:=k2 i hi hj;unfold byd at this;rw [Ycw,ez] at this;dsimp only at this;rw [if_neg Yaj,Bool.not_eq_false'] at this;exact W.le_trans (Vx W h.sb hx v hv) (W.le_of_lt this)
 have tr:∀v∈a.toList.take k,kle b v x:=λv hv=>by
  obtain ⟨i,hi,ev⟩:=Zbq hv;have:=k1 i hi;unfold byd at this;rw [Ycw,ev] at this;dsimp only at this;rw [if_neg Yaj,Bool.not_eq_true'] at this;exact this
 split
 ·have h3:=h.takeA hk tk;have hn3:n<=(out++(a.extract k na).reverse).size:=by rw [Array.size_append];lia
  split
  ·rename_i e2;exact Yaf (R.fin _ _ _ (SameG.refl _) (h3.done (.inl (eq_of_beq e2))))
  ·rename_i e2;have:k≠0:=λz=>e2 (Yaz.mpr z);obtain ⟨k,rfl⟩:∃n,k=n+1:=⟨k-1,by lia⟩;exact Z0 W L T R hs1 h3 (by lia) h2 hn3 λx' hx' v hv=>by
    rw [hx] at hx';cases hx';exact tr v hv
 ·have:k=na:=by lia
  subst this;obtain ⟨k,rfl⟩:∃n,k=n+1:=⟨k-1,by lia⟩;exact Z0 W L T R hs1 h (by lia) h2 hn λx' hx' v hv=>by
   rw [hx] at hx';cases hx';exact tr v hv
end
theorem Z1 (W:WO b)(L:Oo M A E s kd b good)(T:Two b good a c){out:Array Keyed}{na nb n:Nat}{y:Nat×Nat×Nat}{st:SortSt}(hs:kindOf st=kd)(h:MH b a c na nb out)(h1:0<na/\na<=a.size)(h2:1<nb/\nb<=c.size){Q:MHt->SortSt->Prop}(q1:∀r y st',SameG st st'->Jj b (a.toList++c.toList) r.toList->Q (some r,y) st')(q2:∀na' nb' out' y st',SameG st st'->MH b a c na' nb' out'->(0<na'/\na'<=a.size)->(1<nb'/\nb'<=c.size)->out.size<=out'.size->Q (none,na',nb',out',y) st') :
  wpS M A E s (forIn [:n] ((none,na,nb,out,y):MHt) (Zbo a c)) Q st:=by
 refine Ybz (λk r st'=>SameG st st'/\∃na' nb' out' y,r=(none,na',nb',out',y)/\MH b a c na' nb' out'/\(0<na'/\na'<=a.size)/\(1<nb'/\nb'<=c.size)/\out.size<=out'.size) ?_ ?_ ⟨SameG.refl _,_,_,_,_,rfl,h,h1,h2,Yae _⟩
 ·rintro k r st1 _ hk ⟨sg,na',nb',out',y,rfl,h,h1,h2,h3⟩;have hs1:kindOf st1=kd:=sg.1.trans hs;have R:∀st',SameG st1 st'->Zbr b a c out.size st' (λr st'=>match r with
   | .done c'=>Q c' st'
   | .yield c'=>SameG st st'/\∃na' nb' out' y,c'=(none,na',nb',out',y)/\MH b a c na' nb' out'/\(0<na'/\na'<=a.size)/\(1<nb'/\nb'<=c.size)/\out.size<=out'.size):=λst' sg'=>
   ⟨λr y st2 g m=>q1 r y st2 ((sg.trans sg').trans g) m,λo i j y st2 g m p1 p2 p3=>q2 o i j y st2 ((sg.trans sg').trans g) m p1 p2 p3,λo i j y st2 g m p1 p2 p3=>⟨(sg.trans sg').trans g,o,i,j,y,rfl,m,p1,p2,p3⟩⟩
  unfold Zbo;dsimp only;obtain ⟨nb',rfl⟩:∃n,nb'=n+1:=⟨nb' - 1,by lia⟩;have mono:∀mg,wpS M A E s (mhB a c mg y.2.1 y.2.2 na' (nb'+1) out') _ st1:=λmg=>ZcR W L T R hs1 h h1 ⟨by lia,h2.2⟩ h3;split
  ·exact wpS_mono (mono _) λr st' hr=>by cases r <;> exact hr
  ·exact wpS_mono (mono _) λr st' hr=>by cases r <;> exact hr
 ·rintro r st1 ⟨sg,na',nb',out',y,rfl,h,h1,h2,h3⟩;exact q2 _ _ _ _ _ sg h h1 h2 h3
theorem WR (W:WO b)(L:Oo M A E s kd b good)(T:Two b good a c){st:SortSt}(hs:kindOf st=kd){Q:Array Keyed->SortSt->Prop}(q:∀r st',SameG st st'->Jj b (a.toList++c.toList) r.toList->Q r st'):wpS M A E s (Vt a c) Q st:=by
 rw [WP];refine Yac (wpS_lift (Ycy ⟨rfl,?_⟩));have hc:=T.nc;have ha:=T.na;obtain ⟨x,hx,gx⟩:=T.at (i:=a.size-1) (by lia);refine Yac (Gw hx ?_);have h0:MH b a c (a.size-1) c.size #[x]:=by
  have z:MH b a c (a.size-1+1) c.size #[]:=by
   unfold MH;rw [Nat.sub_add_cancel (by lia),List.take_of_length_le (by simp),List.take_of_length_le (by simp)];exact ⟨by simp,by simp,by simp,T.sa,T.sc⟩
  exact z.pushA hx λy hy=>T.last x hx y (List.mem_of_mem_take hy)
 dsimp only;split
 ·rename_i e;exact Yaf (q _ _ (SameG.refl _) (h0.done (.inl (eq_of_beq e))))
 ·rename_i e;have e:0<a.size-1:=by
   have:a.size-1≠0:=λz=>e (Yaz.mpr z)
   lia
  split
  ·rename_i e2;exact Yaf (q _ _ (SameG.refl _) (h0.first T (eq_of_beq e2)))
  ·rename_i e2;have e2:1<c.size:=by
    have:c.size≠1:=λz=>e2 (Yaz.mpr z)
    lia
   refine Yac (wpS_get ?_);refine Yac (Ybz (λk r st'=>SameG st st'/\∃na' nb' out' mg,r=(none,na',nb',out',mg)/\MH b a c na' nb' out'/\(0<na'/\na'<=a.size)/\(1<nb'/\nb'<=c.size)/\k<out'.size) ?_ ?_ ⟨SameG.refl _,_,_,_,_,rfl,h0,⟨e,by lia⟩,⟨e2,Yae _⟩,by simp⟩)
   ·rintro k r st1 _ hk ⟨sg,na',nb',out',mg,rfl,h,h1,h2,h3⟩;have hs1:kindOf st1=kd:=sg.1.trans hs;unfold Zbp;dsimp only;refine Yac (ZY W L T hs1 h h1 h2 (λr y st2 g m=>?_) (λo i j ac bc st2 g m p1 p2 p3=>?_))
    ·refine Yaf ?_;dsimp only;exact Yaf (q r st2 (sg.trans g) m)
    ·dsimp only;refine Yac (wpS_lift (Ycy ⟨rfl,?_⟩));refine Yac (Z1 W L T (g.1.trans hs1) m p1 p2 (λr y st3 g3 m3=>?_) (λo3 i3 j3 y3 st3 g3 m3 r1 r2 r3=>?_))
     ·refine Yaf ?_;dsimp only;exact Yaf (q r st3 ((sg.trans g).trans g3) m3)
     ·dsimp only;refine Yac (J8 λst4 g4=>?_);exact Yaf ⟨((sg.trans g).trans g3).trans g4,_,_,_,_,rfl,m3,r1,r2,by lia⟩
   ·rintro r st1 ⟨sg,na',nb',out',mg,rfl,h,h1,h2,h3⟩;exfalso;have:=MrgH.len h;rw [Yak,Ybs,Ybs,List.length_reverse,Yai,Yai,Yai] at this;simp at h3
    lia
end
noncomputable abbrev Asc:=Option (Option Nat)×Nat
noncomputable abbrev Dsc:=Option (Option Nat)×Nat×Nat
noncomputable def ZcS (lo:Nat):Nat->Asc->StateT SortSt Sem (ForInStep Asc):=λ_ r=>do
 match <- ltAt' (lo+r.2) (lo+r.2-1) with
 | some smaller=>if smaller=true then pure (.done (none,r.2)) else pure (.yield (none,r.2+1))
 | _=>pure (.done (some none,r.2))
noncomputable def Zfa (lo:Nat):Nat->Dsc->StateT SortSt Sem (ForInStep Dsc):=λ_ r=>do
 match <- ltAt' (lo+r.2.1) (lo+r.2.1-1) with
 | some smaller=>
  if smaller=true then
   if r.2.2 > 0 then do
    reverseSlice' (lo+r.2.1-(r.2.2+1)) (lo+r.2.1)
    pure (.yield (none,r.2.1+1,0))
   else pure (.yield (none,r.2.1+1,0))
  else do
   match <- ltAt' (lo+r.2.1-1) (lo+r.2.1) with
   | some larger=>if larger=true then pure (.done (none,r.2.1,r.2.2)) else pure (.yield (none,r.2.1+1,r.2.2+1))
   | _=>pure (.done (some none,r.2.1,r.2.2))
 | _=>pure (.done (some none,r.2.1,r.2.2))
noncomputable def Wr (lo n qW:Nat):StateT SortSt Sem (Option Nat):=do
 reverseSlice' lo (lo+n)
 let r <- forIn [n:qW] ((none,n):Asc) (ZcS lo)
 match r.1 with
 | some x=>pure x
 | none=>pure (some r.2)
noncomputable def Yt (lo n qW:Nat):StateT SortSt Sem (Option Nat):=do
 liftM (rule "list.sort.descending-run")
 let r <- forIn [n+1:qW] ((none,n+1,0):Dsc) (Zfa lo)
 match r.1 with
 | some x=>pure x
 | none=>(if r.2.2 > 0 then (do
   reverseSlice' (lo+r.2.1-(r.2.2+1)) (lo+r.2.1)
   Wr lo r.2.1 qW) else Wr lo r.2.1 qW)
theorem WS (lo qW:Nat):countRun' lo qW=(do
  let r <- forIn [1:qW] ((none,1):Asc) (ZcS lo)
  match r.1 with
  | some x=>pure x
  | none=>(if (r.2 == qW)=true then pure (some r.2) else (if r.2 > 1 then (do
    match <- ltAt' lo (lo+r.2-1) with
    | some rose=>(if rose=true then pure (some r.2) else (do
      reverseSlice' lo (lo+r.2)
      Yt lo r.2 qW))
    | _=>pure none)
   else Yt lo r.2 qW))):=by
 rw [countRun'_eq];refine (Ybf (λm:StateT SortSt Sem Asc=>m >>= _) (UD (r:=[1:qW]) (c:=((none,1):Asc)) (g:=ZcS lo) λi r=>rfl)).trans ?_;refine Jb λr=>?_;obtain ⟨r1,r2⟩:=r;cases r1 with
 | some z=>rfl
 | none=>
  refine Vv (c:=(r2 == qW)=true) rfl ?_;refine Vv (c:=r2 > 1) ?_ ?_
  ·refine Jb λz=>?_;cases z with
   | none=>rfl
   | some z=>
    refine Vv (c:=z=true) rfl ?_;refine Jb λ_=>?_;unfold Yt;refine Jb λ_=>?_;refine (Ybf (λm:StateT SortSt Sem Dsc=>m >>= _) (UD (r:=[r2+1:qW]) (c:=((none,r2+1,0):Dsc)) (g:=Zfa lo) λi r=>rfl)).trans ?_;refine Jb λr=>?_;obtain ⟨r1,r2,r3⟩:=r;cases r1 with
    | some z=>rfl
    | none=>
     refine Vv (c:=r3 > 0) (Jb λ_=>?_) ?_
     all_goals
      unfold Wr;refine Jb λ_=>?_;refine (Ybf (λm:StateT SortSt Sem Asc=>m >>= _) (UD (r:=[r2:qW]) (c:=((none,r2):Asc)) (g:=ZcS lo) λi r=>rfl)).trans ?_;refine Jb λr=>?_;obtain ⟨r1,r2⟩:=r;cases r1 <;> rfl
  ·unfold Yt;refine Jb λ_=>?_;refine (Ybf (λm:StateT SortSt Sem Dsc=>m >>= _) (UD (r:=[r2+1:qW]) (c:=((none,r2+1,0):Dsc)) (g:=Zfa lo) λi r=>rfl)).trans ?_;refine Jb λr=>?_;obtain ⟨r1,r2,r3⟩:=r;cases r1 with
   | some z=>rfl
   | none=>
    refine Vv (c:=r3 > 0) (Jb λ_=>?_) ?_
    all_goals
     unfold Wr;refine Jb λ_=>?_;refine (Ybf (λm:StateT SortSt Sem Asc=>m >>= _) (UD (r:=[r2:qW]) (c:=((none,r2):Asc)) (g:=ZcS lo) λi r=>rfl)).trans ?_;refine Jb λr=>?_;obtain ⟨r1,r2⟩:=r;cases r1 <;> rfl
structure Ah (lo:Nat)(st st':SortSt):Prop where
 kd:kindOf st'=kindOf st
 pe:pendingOf st'=pendingOf st
 fa:failedOf st'=failedOf st
 pm:(arrOf st').Perm (arrOf st)
 lw:∀i,i<lo->(arrOf st')[i]?=(arrOf st)[i]?
theorem Ah.refl (lo:Nat)(st:SortSt):Ah lo st st:=⟨rfl,rfl,rfl,.refl _,λ_ _=>rfl⟩
theorem Ah.trans {lo:Nat}{st st' st'':SortSt}(h:Ah lo st st')(k:Ah lo st' st''):Ah lo st st'':=
 ⟨k.kd.trans h.kd,k.pe.trans h.pe,k.fa.trans h.fa,k.pm.trans h.pm,λi hi=>(k.lw i hi).trans (h.lw i hi)⟩
theorem Ah.size {lo:Nat}{st st':SortSt}(h:Ah lo st st'):(arrOf st').size=(arrOf st).size:=h.pm.size_eq
noncomputable def AllG (good:Keyed->Prop)(arr:Array Keyed):Prop:=∀x∈arr.toList,good x
theorem AllG.perm {good:Keyed->Prop}{a c:Array Keyed}(h:AllG good a)(p:c.Perm a):AllG good c:=λx hx=>h x (p.toList.mem_iff.mp hx)
theorem AllG.at {good:Keyed->Prop}{a:Array Keyed}(h:AllG good a){i:Nat}(hi:i<a.size):∃x,a[i]?=some x/\good x:=⟨a[i],by simp [hi],h _ (by simp)⟩
noncomputable def ZaG (b:Keyed->Keyed->Bool)(arr:Array Keyed)(lo hi:Nat):Prop:=∀i j x y,lo<=i->i<=j->j<hi->arr[i]?=some x->arr[j]?=some y->kle b y x
section
variable {M:Model}{A:Around}{E:EX}{s:Shared}{kd:SortKind}{b:Keyed->Keyed->Bool}{good:Keyed->Prop}
theorem OD {st:SortSt}{i j:Nat}{Q:Option Bool->SortSt->Prop}(L:Oo M A E s kd b good)(hs:kindOf st=kd)(G:AllG good (arrOf st))(hi:i<(arrOf st).size)(hj:j<(arrOf st).size)(q:∀x y,(arrOf st)[i]?=some x->(arrOf st)[j]?=some y->Q (some (b x y)) st):wpS M A E s (ltAt' i j) Q st:=by
 obtain ⟨x,hx,gx⟩:=G.at hi;obtain ⟨y,hy,gy⟩:=G.at hj;rw [ltAt'_eq];refine Yac (wpS_get ?_);exact Yac (Gw hx (Yac (Gw hy (L x y st Q gx gy hs (q x y hx hy)))))
theorem ZcT (arr:Array Keyed)(W:WO b)(lo:Nat):Rng b arr lo (lo+1):=λi j x y h1 h2 h3 e1 e2=>by
 have:i=j:=by lia
 subst this;rw [e1] at e2;cases e2;exact W.le_refl _
theorem Zbs {arr:Array Keyed}(W:WO b){lo n:Nat}{x y:Keyed}(h:Rng b arr lo (lo+n))(hn:0<n)(hx:arr[lo+n-1]?=some x)(hy:arr[lo+n]?=some y)(hxy:kle b x y):Rng b arr lo (lo+n+1):=λi j u v h1 h2 h3 e1 e2=>by
 by_cases hj:j<lo+n
 ·exact h i j u v h1 h2 hj e1 e2
 ·have:j=lo+n:=by lia
  subst this;rw [hy] at e2;cases e2;by_cases hi:i=lo+n
  ·subst hi;rw [hy] at e1;cases e1;exact W.le_refl _
  ·exact W.le_trans (h i (lo+n-1) u x h1 (by lia) (by lia) e1 hx) hxy
theorem J0 {arr:Array Keyed}(W:WO b){lo n:Nat}{x y:Keyed}(h:ZaG b arr lo (lo+n))(hn:0<n)(hx:arr[lo+n-1]?=some x)(hy:arr[lo+n]?=some y)(hxy:kle b y x):ZaG b arr lo (lo+n+1):=λi j u v h1 h2 h3 e1 e2=>by
 by_cases hj:j<lo+n
 ·exact h i j u v h1 h2 hj e1 e2
 ·have:j=lo+n:=by lia
  subst this;rw [hy] at e2;cases e2;by_cases hi:i=lo+n
  ·subst hi;rw [hy] at e1;cases e1;exact W.le_refl _
  ·exact W.le_trans hxy (h i (lo+n-1) u x h1 (by lia) (by lia) e1 hx)
theorem Z2 (W:WO b)(L:Oo M A E s kd b good){st:SortSt}{lo a qW:Nat}{Q:Asc->SortSt->Prop}(hs:kindOf st=kd)(G:AllG good (arrOf st))(hn:lo+qW<=(arrOf st).size)(h1:1<=a)(h2:a<=qW)(h3:Rng b (arrOf st) lo (lo+a))(q:∀n,a<=n->n<=qW->Rng b (arrOf st) lo (lo+n)->(n=qW\/∃x y,(arrOf st)[lo+n-1]?=some x/\(arrOf st)[lo+n]?=some y/\b y x=true)->Q (none,n) st):wpS M A E s (forIn [a:qW] ((none,a):Asc) (ZcS lo)) Q st:=by
 refine Ybz (λk r st'=>st'=st/\r=(none,k)/\a<=k/\k<=qW/\Rng b (arrOf st) lo (lo+k)) ?_ ?_ ⟨rfl,rfl,Yae _,h2,h3⟩
 ·rintro k r st' _ hk ⟨rfl,rfl,h4,h5,h6⟩;unfold ZcS;refine Yac (OD L hs G (by show lo+k<_;lia) (by show lo+k-1<_;lia) λy x hy hx=>?_);dsimp only;split
  ·rename_i hb;exact Yaf (q k h4 h5 h6 (.inr ⟨x,y,hx,hy,hb⟩))
  ·rename_i hb;exact Yaf ⟨rfl,rfl,by lia,by lia,Zbs W h6 (by lia) hx hy (Yek.mpr hb)⟩
 ·rintro r st' ⟨rfl,rfl,h4,h5,h6⟩;rw [Nat.max_eq_right h2] at h6 ⊢;exact q qW h2 (Yae _) h6 (.inl rfl)
noncomputable def Z3 (b:Keyed->Keyed->Bool)(arr:Array Keyed)(lo hi:Nat):Prop:=∀i j x y,lo<=i->i<hi->lo<=j->j<hi->arr[i]?=some x->arr[j]?=some y->kle b x y
theorem OE {st:SortSt}{lo i j:Nat}(h:lo<=i)(hj:j<=(arrOf st).size):Ah lo st (setArr st (mirror (arrOf st) i j ((j-i) / 2))):=by
 refine ⟨rfl,rfl,rfl,mirror_perm _ _ _ _,λk hk=>?_⟩;show (mirror (arrOf st) i j ((j-i) / 2))[k]?=_;rw [Yeq hj,if_neg (by lia)]
theorem Yu {arr:Array Keyed}{lo hi:Nat}(hj:hi<=arr.size)(h:ZaG b arr lo hi):Rng b (mirror arr lo hi ((hi-lo) / 2)) lo hi:=λi j x y h1 h2 h3 e1 e2=>by
 rw [Yeq hj,if_pos (by lia)] at e1 e2;exact h (lo+hi-1-j) (lo+hi-1-i) y x (by lia) (by lia) (by lia) e2 e1
theorem Oj {arr:Array Keyed}{lo hi i j:Nat}(hj:j<=arr.size)(h1:lo<=i)(h2:i<=j)(h3:j<=hi)(hA:Z3 b arr i j)(h:ZaG b arr lo hi):ZaG b (mirror arr i j ((j-i) / 2)) lo hi:=λp q x y k1 k2 k3 e1 e2=>by
 rw [Yeq hj] at e1 e2;by_cases hp:i<=p/\p<j
 ·rw [if_pos hp] at e1;by_cases hq:i<=q/\q<j
  ·rw [if_pos hq] at e2;exact hA (i+j-1-q) (i+j-1-p) y x (by lia) (by lia) (by lia) (by lia) e2 e1
  ·rw [if_neg hq] at e2;exact h _ q x y (by lia) (by lia) k3 e1 e2
 ·rw [if_neg hp] at e1;by_cases hq:i<=q/\q<j
  ·rw [if_pos hq] at e2;exact h p _ x y k1 (by lia) (by lia) e1 e2
  ·rw [if_neg hq] at e2;exact h p q x y k1 k2 k3 e1 e2
noncomputable def ZfR (b:Keyed->Keyed->Bool)(lo qW:Nat)(st:SortSt)(Q:Option Nat->SortSt->Prop):Prop:=∀m st',Ah lo st st'->1<=m->m<=qW->Rng b (arrOf st') lo (lo+m)->Q (some m) st'
theorem Ws (W:WO b)(L:Oo M A E s kd b good){st:SortSt}{lo n qW:Nat}{Q:Option Nat->SortSt->Prop}(hs:kindOf st=kd)(G:AllG good (arrOf st))(hn:lo+qW<=(arrOf st).size)(h1:1<=n)(h2:n<=qW)(h3:ZaG b (arrOf st) lo (lo+n))(q:ZfR b lo qW st Q):wpS M A E s (Wr lo n qW) Q st:=by
 unfold Wr;rw [reverseSlice'_eq];refine Yac (Yci ?_);have ah:=OE (st:=st) (lo:=lo) (i:=lo) (j:=lo+n) (Yae _) (by lia);have r:=Yu (arr:=arrOf st) (lo:=lo) (hi:=lo+n) (by lia) h3;generalize hst:setArr st (mirror (arrOf st) lo (lo+n) ((lo+n-lo) / 2))=st1 at ah;have e1:arrOf st1=mirror (arrOf st) lo (lo+n) ((lo+n-lo) / 2):=by rw [<-hst]
 rw [<-e1] at r;refine Yac (Z2 W L (ah.kd.trans hs) (G.perm ah.pm) (by rw [ah.size];exact hn) h1 h2 r λm k1 k2 k3 _=>?_);dsimp only;exact Yaf (q m st1 ah (by lia) k2 k3)
theorem Wt (W:WO b)(L:Oo M A E s kd b good){st:SortSt}{lo n qW:Nat}{Q:Option Nat->SortSt->Prop}(hs:kindOf st=kd)(G:AllG good (arrOf st))(hn:lo+qW<=(arrOf st).size)(h2:n+1<=qW)(h3:ZaG b (arrOf st) lo (lo+(n+1)))(q:ZfR b lo qW st Q):wpS M A E s (Yt lo n qW) Q st:=by
 unfold Yt;refine Yac (wpS_lift (Ycy ⟨rfl,?_⟩));have fin:∀m neq st1,Ah lo st st1->n+1<=m->m<=qW->ZaG b (arrOf st1) lo (lo+m)->neq+1<=m->Z3 b (arrOf st1) (lo+m-(neq+1)) (lo+m) ->
   wpS M A E s (if neq > 0 then (do reverseSlice' (lo+m-(neq+1)) (lo+m);Wr lo m qW) else Wr lo m qW) Q st1:=by
  intro m neq st1 ah k1 k2 k3 k4 k5;have G1:=G.perm ah.pm;have hn1:lo+qW<=(arrOf st1).size:=by rw [ah.size];exact hn
  split
  ·rw [reverseSlice'_eq];refine Yac (Yci ?_);have ah2:=OE (st:=st1) (lo:=lo) (i:=lo+m-(neq+1)) (j:=lo+m) (by lia) (by lia);have r:=Oj (arr:=arrOf st1) (lo:=lo) (hi:=lo+m) (i:=lo+m-(neq+1)) (j:=lo+m) (by lia) (by lia) (by lia) (Yae _) k5 k3;generalize hst:setArr st1 (mirror (arrOf st1) (lo+m-(neq+1)) (lo+m) ((lo+m-(lo+m-(neq+1))) / 2))=st2 at ah2;have e1:arrOf st2=mirror (arrOf st1) (lo+m-(neq+1)) (lo+m) ((lo+m-(lo+m-(neq+1))) / 2):=by rw [<-hst]
   rw [<-e1] at r;have ah3:=ah.trans ah2;exact Ws W L (ah3.kd.trans hs) (G.perm ah3.pm) (by rw [ah3.size];exact hn) (by lia) k2 r λm' st' a'=>q m' st' (ah3.trans a')
  ·exact Ws W L (ah.kd.trans hs) G1 hn1 (by lia) k2 k3 λm' st' a'=>q m' st' (ah.trans a')
 have al0:∀(arr:Array Keyed) m,Z3 b arr (lo+m-(0+1)) (lo+m):=λarr m i j x y i1 i2 i3 i4 e1 e2=>by
  have:i=j:=by lia
  subst this;rw [e1] at e2;cases e2;exact W.le_refl _
 refine Yac (Ybz (λk r st1=>Ah lo st st1/\∃neq,r=(none,k,neq)/\n+1<=k/\k<=qW/\ZaG b (arrOf st1) lo (lo+k)/\neq+1<=k/\Z3 b (arrOf st1) (lo+k-(neq+1)) (lo+k)) ?_ ?_ ⟨Ah.refl _ _,0,rfl,Yae _,h2,h3,by lia,al0 _ _⟩)
 ·rintro k r st1 _ hk ⟨ah,neq,rfl,k1,k2,k3,k4,k5⟩;have G1:=G.perm ah.pm;have hn1:lo+qW<=(arrOf st1).size:=by rw [ah.size];exact hn
  have hs1:=ah.kd.trans hs;unfold Zfa;refine Yac (OD L hs1 G1 (by show lo+k<_;lia) (by show lo+k-1<_;lia) λy x hy hx=>?_);dsimp only;split
  ·rename_i hb;have hyx:=W.le_of_lt hb;split
   ·rw [reverseSlice'_eq];refine Yac (Yci ?_);have ah2:=OE (st:=st1) (lo:=lo) (i:=lo+k-(neq+1)) (j:=lo+k) (by lia) (by lia);have r:=Oj (arr:=arrOf st1) (lo:=lo) (hi:=lo+k) (i:=lo+k-(neq+1)) (j:=lo+k) (by lia) (by lia) (by lia) (Yae _) k5 k3;have e3:(mirror (arrOf st1) (lo+k-(neq+1)) (lo+k) ((lo+k-(lo+k-(neq+1))) / 2))[lo+k]?=some y:=by rw [Yeq (by lia),if_neg (by lia)];exact hy
    have e4:∃z,(mirror (arrOf st1) (lo+k-(neq+1)) (lo+k) ((lo+k-(lo+k-(neq+1))) / 2))[lo+k-1]?=some z/\kle b y z:=by
     obtain ⟨z,hz,_⟩:=G1.at (i:=lo+k-(neq+1)) (by lia);refine ⟨z,?_,W.le_trans hyx (k3 (lo+k-(neq+1)) (lo+k-1) z x (by lia) (by lia) (by lia) hz hx)⟩;rw [Yeq (by lia),if_pos (by lia),<-hz]
     congr 1
     lia
    generalize hst:setArr st1 (mirror (arrOf st1) (lo+k-(neq+1)) (lo+k) ((lo+k-(lo+k-(neq+1))) / 2))=st2 at ah2;have e1:arrOf st2=mirror (arrOf st1) (lo+k-(neq+1)) (lo+k) ((lo+k-(lo+k-(neq+1))) / 2):=by rw [<-hst]
    rw [<-e1] at r e3 e4;obtain ⟨z,hz,hyz⟩:=e4;exact Yaf ⟨ah.trans ah2,0,rfl,by lia,by lia,J0 W r (by lia) hz e3 hyz,by lia,al0 _ _⟩
   ·exact Yaf ⟨ah,0,rfl,by lia,by lia,J0 W k3 (by lia) hx hy hyx,by lia,al0 _ _⟩
  ·rename_i hb;have hxy:kle b x y:=Yek.mpr hb;refine Yac (OD L hs1 G1 (by show lo+k-1<_;lia) (by show lo+k<_;lia) λx' y' hx' hy'=>?_);rw [hx] at hx';cases hx';rw [hy] at hy';cases hy';dsimp only;split
   ·refine Yaf ?_;dsimp only;exact fin k neq st1 ah k1 k2 k3 k4 k5
   ·rename_i hb2;have hyx:kle b y x:=Yek.mpr hb2;refine Yaf ⟨ah,neq+1,rfl,by lia,by lia,J0 W k3 (by lia) hx hy hyx,by lia,λi j u v i1 i2 i3 i4 e1 e2=>?_⟩;have toX:∀i u,lo+k-(neq+1)<=i->i<lo+(k+1)->(arrOf st1)[i]?=some u->kle b u x/\kle b x u:=λi u p1 p2 e=>by
     by_cases hi:i<lo+k
     ·exact ⟨k5 i (lo+k-1) u x p1 hi (by lia) (by lia) e hx,k5 (lo+k-1) i x u (by lia) (by lia) p1 hi hx e⟩
     ·have:i=lo+k:=by lia
      subst this;rw [hy] at e;cases e;exact ⟨hyx,hxy⟩
    exact W.le_trans (toX i u (by lia) i2 e1).1 (toX j v (by lia) i4 e2).2
 ·rintro r st1 ⟨ah,neq,rfl,k1,k2,k3,k4,k5⟩;dsimp only;rw [Nat.max_eq_right h2] at *;exact fin qW neq st1 ah k1 k2 k3 k4 k5
theorem Vy (W:WO b)(L:Oo M A E s kd b good){st:SortSt}{lo qW:Nat}{Q:Option Nat->SortSt->Prop}(hs:kindOf st=kd)(G:AllG good (arrOf st))(hn:lo+qW<=(arrOf st).size)(h1:1<=qW)(q:ZfR b lo qW st Q):wpS M A E s (countRun' lo qW) Q st:=by
 rw [WS];refine Yac (Z2 W L hs G hn (Yae _) h1 (ZcT _ W _) λn k1 k2 k3 k4=>?_);dsimp only;split
 ·exact Yaf (q n st (Ah.refl _ _) k1 k2 k3)
 ·rename_i e;have e:n≠qW:=λz=>e (Yaz.mpr z);obtain ⟨x,y,hx,hy,hb⟩:=k4.resolve_left e;have hyx:=W.le_of_lt hb;split
  ·rename_i e1;refine Yac (OD L hs G (by lia) (by lia) λu v hu hv=>?_);rw [hx] at hv;cases hv;dsimp only;split
   ·exact Yaf (q n st (Ah.refl _ _) k1 k2 k3)
   ·rename_i hb2;have hxu:kle b x u:=Yek.mpr hb2;have al:Z3 b (arrOf st) lo (lo+n):=λi j p r i1 i2 i3 i4 e1 e2=>
     W.le_trans (k3 i (lo+n-1) p x i1 (by lia) (by lia) e1 hx) (W.le_trans hxu (k3 lo j u r (Yae _) i3 i4 hu e2))
    have ni:ZaG b (arrOf st) lo (lo+n):=λi j p r i1 i2 i3 e1 e2=>al j i r p (by lia) i3 i1 (by lia) e2 e1;rw [reverseSlice'_eq];refine Yac (Yci ?_);have ah:=OE (st:=st) (lo:=lo) (i:=lo) (j:=lo+n) (Yae _) (by lia);have r:=Oj (arr:=arrOf st) (lo:=lo) (hi:=lo+n) (i:=lo) (j:=lo+n) (by lia) (Yae _) (by lia) (Yae _) al ni;have e3:(mirror (arrOf st) lo (lo+n) ((lo+n-lo) / 2))[lo+n]?=some y:=by rw [Yeq (by lia),if_neg (by lia)];exact hy
    have e4:(mirror (arrOf st) lo (lo+n) ((lo+n-lo) / 2))[lo+n-1]?=some u:=by
     rw [Yeq (by lia),if_pos (by lia),<-hu]
     congr 1
     lia
    generalize hst:setArr st (mirror (arrOf st) lo (lo+n) ((lo+n-lo) / 2))=st2 at ah;have e1:arrOf st2=mirror (arrOf st) lo (lo+n) ((lo+n-lo) / 2):=by rw [<-hst]
    rw [<-e1] at r e3 e4;exact Wt W L (ah.kd.trans hs) (G.perm ah.pm) (by rw [ah.size];exact hn) (by lia) (J0 W r (by lia) e4 e3 (W.le_trans hyx hxu)) λm' st' a'=>q m' st' (ah.trans a')
  ·have:n=1:=by lia
   subst this;refine Wt W L hs G hn (by lia) (J0 W (λi j p r i1 i2 i3 e1 e2=>?_) (by lia) hx hy hyx) q;have:i=j:=by lia
   subst this;rw [e1] at e2;cases e2;exact W.le_refl _
theorem Yv (W:WO b){arr:Array Keyed}{lo k l:Nat}{p:Keyed}(hk:lo+k<arr.size)(hl:l<=k)(h:Rng b arr lo (lo+k))(hp:arr[lo+k]?=some p)(h1:∀i x,i<l->arr[lo+i]?=some x->kle b x p)(h2:∀i x,l<=i->i<k->arr[lo+i]?=some x->kle b p x) :
  Rng b (bubble arr (lo+k) (lo+k-(lo+l))) lo (lo+(k+1)):=by
 have e0:lo+k-(lo+k-(lo+l))=lo+l:=by lia
 have at_:∀q,(bubble arr (lo+k) (lo+k-(lo+l)))[q]?=if q=lo+l then some p else if lo+l<q/\q<=lo+k then arr[q-1]? else arr[q]?:=λq=>by
  rw [getElem?_bubble hk _ (by lia),e0,hp]
 intro i j x y i1 i2 i3 e1 e2;rw [at_] at e1 e2;have low:∀q z,lo<=q->q<lo+l->arr[q]?=some z->kle b z p:=λq z q1 q2 e=>h1 (q-lo) z (by lia) (by rw [Ycx q1];exact e);have high:∀q z,lo+l<=q->q<lo+k->arr[q]?=some z->kle b p z:=λq z q1 q2 e=>h2 (q-lo) z (by lia) (by lia) (by rw [Ycx (by lia)];exact e);by_cases ci:i=lo+l
 ·rw [if_pos ci] at e1;cases e1;by_cases cj:j=lo+l
  ·rw [if_pos cj] at e2;cases e2;exact W.le_refl _
  ·rw [if_neg cj,if_pos (by lia)] at e2;exact high (j-1) y (by lia) (by lia) e2
 ·rw [if_neg ci] at e1;by_cases di:lo+l<i/\i<=lo+k
  ·rw [if_pos di] at e1;rw [if_neg (by lia),if_pos (by lia)] at e2;exact h (i-1) (j-1) x y (by lia) (by lia) (by lia) e1 e2
  ·rw [if_neg di] at e1;by_cases cj:j=lo+l
   ·rw [if_pos cj] at e2;cases e2;exact low i x i1 (by lia) e1
   ·rw [if_neg cj] at e2;by_cases dj:lo+l<j/\j<=lo+k
    ·rw [if_pos dj] at e2;exact h i (j-1) x y i1 (by lia) (by lia) e1 e2
    ·rw [if_neg dj] at e2;exact h i j x y i1 i2 (by lia) e1 e2
theorem Z4 {st:SortSt}{lo src d:Nat}(h1:src<(arrOf st).size)(h2:d<=src)(h3:lo<=src-d):Ah lo st (setArr st (bubble (arrOf st) src d)):=by
 refine ⟨rfl,rfl,rfl,bubble_perm _ _ _,λk hk=>?_⟩;show (bubble (arrOf st) src d)[k]?=_;rw [getElem?_bubble h1 _ h2,if_neg (by lia),if_neg (by lia)]
theorem Yw (W:WO b)(L:Oo M A E s kd b good){st:SortSt}{lo n ok:Nat}{Q:Bool->SortSt->Prop}(hs:kindOf st=kd)(G:AllG good (arrOf st))(hn:lo+n<=(arrOf st).size)(h1:1<=ok)(h2:ok<=n)(h3:Rng b (arrOf st) lo (lo+ok))(q:∀st',Ah lo st st'->Rng b (arrOf st') lo (lo+n)->Q true st'):wpS M A E s (binarySort' lo n ok) Q st:=by
 rw [binarySort'_eq,Nat.max_eq_left h1];refine Yac (Ybz (λk r st1=>Ah lo st st1/\r=(none,())/\ok<=k/\k<=n/\Rng b (arrOf st1) lo (lo+k)) ?_ ?_ ⟨Ah.refl _ _,rfl,Yae _,h2,h3⟩)
 ·rintro k r st1 _ hk ⟨ah,rfl,k1,k2,k3⟩;have G1:=G.perm ah.pm;have hn1:lo+n<=(arrOf st1).size:=by rw [ah.size];exact hn
  have hs1:=ah.kd.trans hs;obtain ⟨p,hp,gp⟩:=G1.at (i:=lo+k) (by lia);have fin:∀l,l<=k->(∀i x,i<l->(arrOf st1)[lo+i]?=some x->kle b x p)->(∀i x,l<=i->i<k->(arrOf st1)[lo+i]?=some x->kle b p x) ->
    wpS M A E s (do moveDown' (lo+k) (lo+l);pure (ForInStep.yield ((none,()):Option Bool×Unit))) (λr st'=>match r with
     | .done c'=>False
     | .yield c'=>Ah lo st st'/\c'=(none,())/\ok<=k+1/\k+1<=n/\Rng b (arrOf st') lo (lo+(k+1))) st1:=by
   intro l hl g1 g2;rw [moveDown'_eq];refine Yac (Yci ?_);have ah2:=Z4 (st:=st1) (lo:=lo) (src:=lo+k) (d:=lo+k-(lo+l)) (by lia) (by lia) (by lia);exact Yaf ⟨ah.trans ah2,rfl,by lia,by lia,Yv W (by lia) hl k3 hp g1 g2⟩
  dsimp only;refine Yac (Ybz (λi c st'=>st'=st1/\∃l r,c=(none,l,r)/\l<=r/\r<=k/\r-l<=k-i/\(∀i x,i<l->(arrOf st1)[lo+i]?=some x->kle b x p)/\(∀i x,r<=i->i<k->(arrOf st1)[lo+i]?=some x->kle b p x)) ?_ ?_ ⟨rfl,0,k,rfl,by lia,by lia,by lia,λi x hi=>by lia,λi x h1 h2=>by lia⟩)
  ·rintro i c st' _ hi ⟨rfl,l,r,rfl,g1,g2,g3,g4,g5⟩;dsimp only;split
   ·have:l=r:=by lia
    subst this;refine Yaf ?_;dsimp only;exact wpS_mono (fin l g2 g4 g5) λr st' hr=>by
     cases r with
     | done z=>exact False.elim hr
     | yield z=>exact hr
   ·refine Yac (OD L hs1 G1 (by lia) (by lia) λp' m hp' hm=>?_);rw [hp] at hp';cases hp';dsimp only;split
    ·rename_i hb;refine Yaf ⟨rfl,_,_,rfl,by lia,by lia,by lia,g4,λj x j1 j2 e=>?_⟩;exact W.le_trans (W.le_of_lt hb) (k3 _ (lo+j) m x (by lia) (by lia) (by lia) hm e)
    ·rename_i hb;refine Yaf ⟨rfl,_,_,rfl,by lia,by lia,by lia,λj x j1 e=>?_,g5⟩;exact W.le_trans (k3 (lo+j) _ x m (by lia) (by lia) (by lia) e hm) (Yek.mpr hb)
  ·rintro c st' ⟨rfl,l,r,rfl,g1,g2,g3,g4,g5⟩;have:l=r:=by simp at g3;lia
   subst this;dsimp only;exact wpS_mono (fin l g2 g4 g5) λr st' hr=>by
     cases r with
     | done z=>exact False.elim hr
     | yield z=>exact hr
 ·rintro r st1 ⟨ah,rfl,k1,k2,k3⟩;dsimp only;rw [Nat.max_eq_right h2] at k3;exact Yaf (q st1 ah k3)
noncomputable def OF (arr:Array Keyed)(base:Nat)(l:List Keyed):Array Keyed:=List.foldl (λa (x:Keyed×Nat)=>a.setIfInBounds (base+x.2) x.1) arr l.zipIdx
noncomputable def Zbt (sa:Nat)(merged:Array Keyed):StateT SortSt Sem Bool:=do
 modify λs=>setArr s (OF (arrOf s) sa merged.toList)
 let s <- get
 pure (failedOf s).isNone
noncomputable def Zd0 (st:SortSt)(sa na sb nb:Nat):StateT SortSt Sem Bool:=(if (nb == 0)=true then pure true else (if na<=nb then (do
  let m <- Vs ((arrOf st).extract sa sb) ((arrOf st).extract sb (sb+nb))
  Zbt sa m) else (do
  let m <- Vt ((arrOf st).extract sa sb) ((arrOf st).extract sb (sb+nb))
  Zbt sa m)))
noncomputable def Zd1 (st:SortSt)(sa na sb nb:Nat):StateT SortSt Sem Bool:=(if (na == 0)=true then pure true else (do
  let y <- elem' (arrOf st) (sa+na-1)
  match <- JZ true y (arrOf st) sb nb (nb-1) with
  | some nb=>Zd0 st sa na sb nb
  | _=>pure false))
theorem WT (i:Nat):mergeAt' i=(do
  let st <- get
  match (pendingOf st)[i]?,(pendingOf st)[i+1]? with
  | some (sa,na,power),some (sb,nb,_)=>do
   set (setPending st (((pendingOf st).setIfInBounds i (sa,na+nb,power)).eraseIdxIfInBounds (i+1)))
   let x <- elem' (arrOf st) sb
   match <- JZ false x (arrOf st) sa na 0 with
   | some k=>Zd1 st (sa+k) (na-k) sb nb
   | _=>pure false
  | _,_=>liftM (unsupported "internal:list.sort.pending")):=by
 refine Jb (m:=get) λst=>?_;cases (pendingOf st)[i]? with
 | none=>rfl
 | some p=>
  cases (pendingOf st)[i+1]? with
  | none=>rfl
  | some q=>
   obtain ⟨sa,na,pw⟩:=p;obtain ⟨sb,nb,pw'⟩:=q
   rfl
theorem Zb6:∀(l:List Keyed)(arr:Array Keyed)(base n i:Nat),base+n+l.length<=arr.size ->
  (List.foldl (λa (x:Keyed×Nat)=>a.setIfInBounds (base+x.2) x.1) arr (l.zipIdx n))[i]?=if base+n<=i/\i<base+n+l.length then l[i-(base+n)]? else arr[i]?
 | [],arr,base,n,i,_=>by
  rw [if_neg (by simp)]
  rfl
 | x::l,arr,base,n,i,h=>by
  rw [List.zipIdx_cons,List.foldl_cons];rw [Ybn] at h;have ih:=Zb6 l (arr.setIfInBounds (base+n) x) base (n+1) i (by rw [Array.size_setIfInBounds];lia);refine ih.trans ?_;rw [Ybn];by_cases h1:base+(n+1)<=i/\i<base+(n+1)+l.length
  ·rw [if_pos h1,if_pos (by lia)];rw [show i-(base+n)=(i-(base+(n+1)))+1 by lia,Yey]
  ·rw [if_neg h1,Array.getElem?_setIfInBounds];by_cases h2:base+n=i
   ·subst h2;rw [if_pos rfl,if_pos (by lia),if_pos (by lia),Nat.sub_self]
    rfl
   ·rw [if_neg h2,if_neg (by lia)]
theorem Zb7 {arr:Array Keyed}{base:Nat}{l:List Keyed}(h:base+l.length<=arr.size)(i:Nat):(OF arr base l)[i]?=if base<=i/\i<base+l.length then l[i-base]? else arr[i]?:=Zb6 l arr base 0 i h
theorem Zbu {arr:Array Keyed}{base:Nat}{l:List Keyed}(h:base+l.length<=arr.size)(p:l.Perm ((arr.toList.drop base).take l.length)):(OF arr base l).Perm arr:=by
 have e:(OF arr base l).toList=arr.toList.take base++l++arr.toList.drop (base+l.length):=by
  refine List.ext_getElem? λi=>?_;have hl:arr.toList.length=arr.size:=Yai;rw [Yaq,Zb7 h];rw [Ybq,List.getElem?_append,Ybs,hl,Yfb (by lia)];by_cases h1:i<base
  ·rw [if_neg (by lia),if_pos h1,Yem,if_pos h1,Yaq]
  ·rw [if_neg h1,List.getElem?_append];by_cases h2:i<base+l.length
   ·rw [if_pos (by lia),if_pos (by lia)]
   ·rw [if_neg (by lia),if_neg (by lia),Yen,Yaq]
    congr 1
    lia
 have e2:arr.toList=arr.toList.take base++(arr.toList.drop base).take l.length++arr.toList.drop (base+l.length):=by
  rw [Ybq,<-List.drop_drop,Ydf,Ydf]
 rw [Array.perm_iff_toList_perm,e];exact ((Yfh _ p).append_right _).trans (.of_eq e2.symm)
theorem Um {arr:Array Keyed}{lo mid hi:Nat}(h1:Rng b arr lo mid)(h2:Rng b arr mid hi)(h3:∀i j x y,lo<=i->i<mid->mid<=j->j<hi->arr[i]?=some x->arr[j]?=some y->kle b x y):Rng b arr lo hi:=λi j x y i1 i2 i3 e1 e2=>by
 by_cases c1:j<mid
 ·exact h1 i j x y i1 i2 c1 e1 e2
 ·by_cases c2:i<mid
  ·exact h3 i j x y i1 c2 (by lia) i3 e1 e2
  ·exact h2 i j x y (by lia) i2 i3 e1 e2
theorem Zb8 {arr:Array Keyed}{lo hi:Nat}(hh:hi<=arr.size)(h:Rng b arr lo hi):(arr.extract lo hi).toList.Pairwise (kle b):=by
 rw [List.pairwise_iff_getElem];intro i j hi' hj' hij;have sz:(arr.extract lo hi).toList.length=hi-lo:=by rw [Yai,Yfe,Yfb hh]
 refine h (lo+i) (lo+j) _ _ (by lia) (by lia) (by lia) ?_ ?_
 ·simp [Array.getElem_extract]
 ·simp [Array.getElem_extract]
noncomputable def MgQ (b:Keyed->Keyed->Bool)(st:SortSt)(lo hi:Nat)(Q:Bool->SortSt->Prop):Prop:=∀st',kindOf st'=kindOf st->pendingOf st'=pendingOf st->failedOf st'=failedOf st->(arrOf st').Perm (arrOf st) ->
 (∀i,i<lo\/hi<=i->(arrOf st')[i]?=(arrOf st)[i]?)->Rng b (arrOf st') lo hi->Q true st'
structure GalF (b:Keyed->Keyed->Bool)(arr:Array Keyed)(sa k sb nb hi:Nat):Prop where
 k0:sa<=k
 k1:k<sb
 n0:0<nb
 n1:sb+nb<=hi
 ra:Rng b arr sa sb
 rb:Rng b arr sb hi
 lowA:∀i x y,sa<=i->i<k->arr[i]?=some x->arr[sb]?=some y->kle b x y
 highA:∀i x y,k<=i->i<sb->arr[i]?=some x->arr[sb]?=some y->kle b y x
 lowB:∀i x y,sb<=i->i<sb+nb->arr[i]?=some x->arr[sb-1]?=some y->kle b x y
 highB:∀i x y,sb+nb<=i->i<hi->arr[i]?=some x->arr[sb-1]?=some y->kle b y x
theorem GalF.two {arr:Array Keyed}{sa k sb nb hi:Nat}(F:GalF b arr sa k sb nb hi)(hh:hi<=arr.size)(G:AllG good arr):Two b good (arr.extract k sb) (arr.extract sb (sb+nb)):=by
 have h0:=F.k0;have h1:=F.k1;have h2:=F.n0;have h3:=F.n1;have memG:∀{i j x},x∈(arr.extract i j).toList->good x:=λ{i j x} hx=>by
  obtain ⟨q,_,_,e⟩:=WQ hx;rw [<-Yaq] at e;exact G x (Ybg e)
 refine ⟨λx=>memG,λx=>memG,Zb8 (by lia) λi j x y i1 i2 i3=>F.ra i j x y (by lia) i2 i3,Zb8 (by lia) λi j x y i1 i2 i3=>F.rb i j x y i1 i2 (by lia),by rw [Yfe];lia,by rw [Yfe];lia,λx hx y hy=>?_,λz hz y hy=>?_⟩
 ·have hx:arr[sb]?=some x:=by
   rw [Array.getElem?_extract,if_pos (by lia)] at hx;exact hx
  obtain ⟨q,q1,q2,e⟩:=WQ hy;exact F.highA q y x q1 q2 e hx
 ·have hz:arr[sb-1]?=some z:=by
   rw [Yfe,Array.getElem?_extract,if_pos (by lia)] at hz;rw [<-hz]
   congr 1
   lia
  obtain ⟨q,q1,q2,e⟩:=WQ hy;exact F.lowB q y z q1 (by lia) e hz
theorem GalF.fin (W:WO b){st:SortSt}{sa k sb nb hi:Nat}{Q:Bool->SortSt->Prop}(F:GalF b (arrOf st) sa k sb nb hi)(hh:hi<=(arrOf st).size)(q:MgQ b st sa hi Q)(hf:failedOf st=none){m:Array Keyed}{st1:SortSt}(sg:SameG st st1)(hm:Jj b (((arrOf st).extract k sb).toList++((arrOf st).extract sb (sb+nb)).toList) m.toList):wpS M A E s (Zbt k m) Q st1:=by
 have h0:=F.k0;have h1:=F.k1;have h2:=F.n0;have h3:=F.n1;unfold Zbt;refine Yac (Yci (Yac (wpS_get (Yaf ?_))));show Q (failedOf st1).isNone _;rw [sg.2.2.2,hf];have hl:m.toList.length=sb+nb-k:=by
  have:=hm.1.length_eq;rw [Yak,Yai,Yai,Yai,Yfe,Yfe] at this;rw [Yai]
  lia
 have hb:k+m.toList.length<=(arrOf st).size:=by lia
 have e1:((arrOf st).toList.drop k).take m.toList.length=((arrOf st).extract k sb).toList++((arrOf st).extract sb (sb+nb)).toList:=by
  have x1:((arrOf st).extract k (sb+nb)).toList=((arrOf st).toList.drop k).take m.toList.length:=by
   rw [hl,Yfc,Yfd]
  rw [<-x1,<-Yco,Array.extract_append_extract]
  congr 2 <;> lia
 have at_:=Zb7 (arr:=arrOf st) (base:=k) (l:=m.toList) hb;have mem:∀i x,k<=i->i<sb+nb->(OF (arrOf st) k m.toList)[i]?=some x->(∃j,k<=j/\j<sb/\(arrOf st)[j]?=some x)\/(∃j,sb<=j/\j<sb+nb/\(arrOf st)[j]?=some x):=λi x i1 i2 e=>by
  rw [at_,if_pos (by lia)] at e;have hx:=hm.1.mem_iff.mp (Ybg e);rcases Yal.mp hx with hx | hx
  ·exact .inl (WQ hx)
  ·exact .inr (WQ hx)
 obtain ⟨b0,hb0⟩:∃x,(arrOf st)[sb]?=some x:=⟨_,Yav (by lia)⟩;obtain ⟨aL,haL⟩:∃x,(arrOf st)[sb-1]?=some x:=⟨_,Yav (by lia)⟩;refine q _ sg.1 sg.2.2.1 ?_ ?_ (λi hi'=>?_) ?_
 ·show failedOf st1=failedOf st;exact sg.2.2.2
 ·show (OF (arrOf st1) k m.toList).Perm (arrOf st);rw [sg.2.1];exact Zbu hb (hm.1.trans (.of_eq e1.symm))
 ·show (OF (arrOf st1) k m.toList)[i]?=_;rw [sg.2.1,at_,if_neg (by lia)]
 ·show Rng b (OF (arrOf st1) k m.toList) sa hi;rw [sg.2.1];have old:∀i,i<k\/sb+nb<=i->(OF (arrOf st) k m.toList)[i]?=(arrOf st)[i]?:=λi hi'=>by rw [at_,if_neg (by lia)]
  refine Um (mid:=k) (λi j x y i1 i2 i3 e1 e2=>?_) (Um (mid:=sb+nb) (λi j x y i1 i2 i3 e1 e2=>?_) (λi j x y i1 i2 i3 e1 e2=>?_) (λi j x y i1 i2 i3 i4 e1 e2=>?_)) (λi j x y i1 i2 i3 i4 e1 e2=>?_)
  ·rw [old i (by lia)] at e1;rw [old j (by lia)] at e2;exact F.ra i j x y i1 i2 (by lia) e1 e2
  ·rw [at_,if_pos (by lia)] at e1 e2;exact Zbl W hm.2 (by lia) e1 e2
  ·rw [old i (by lia)] at e1;rw [old j (by lia)] at e2;exact F.rb i j x y (by lia) i2 i3 e1 e2
  ·rw [old j (by lia)] at e2;rcases mem i x i1 i2 e1 with ⟨p,p1,p2,e⟩ | ⟨p,p1,p2,e⟩
   ·exact W.le_trans (F.ra p (sb-1) x aL (by lia) (by lia) (by lia) e haL) (F.highB j y aL i3 i4 e2 haL)
   ·exact F.rb p j x y p1 (by lia) i4 e e2
  ·rw [old i (by lia)] at e1;have xb:=F.lowA i x b0 i1 i2 e1 hb0;by_cases cj:j<sb+nb
   ·rcases mem j y i3 cj e2 with ⟨p,p1,p2,e⟩ | ⟨p,p1,p2,e⟩
    ·exact F.ra i p x y i1 (by lia) p2 e1 e
    ·exact W.le_trans xb (F.rb sb p b0 y (Yae _) p1 (by lia) hb0 e)
   ·rw [old j (by lia)] at e2;exact W.le_trans xb (F.rb sb j b0 y (Yae _) (by lia) i4 hb0 e2)
theorem WU (W:WO b)(L:Oo M A E s kd b good){st:SortSt}{i sa na sb nb pw pw':Nat}{Q:Bool->SortSt->Prop}(hs:kindOf st=kd)(hf:failedOf st=none)(G:AllG good (arrOf st))(p1:(pendingOf st)[i]?=some (sa,na,pw))(p2:(pendingOf st)[i+1]?=some (sb,nb,pw'))(e:sb=sa+na)(hna:0<na)(hnb:0<nb)(hh:sb+nb<=(arrOf st).size)(ra:Rng b (arrOf st) sa sb)(rb:Rng b (arrOf st) sb (sb+nb))(q:MgQ b (setPending st (((pendingOf st).setIfInBounds i (sa,na+nb,pw)).eraseIdxIfInBounds (i+1))) sa (sb+nb) Q):wpS M A E s (mergeAt' i) Q st:=by
 subst e;rw [WT];refine Yac (wpS_get ?_);rw [p1,p2];dsimp only;refine Yac ?_;show wpS M A E s (set _) _ st;refine (show wpS M A E s (modify λ_=>setPending st (((pendingOf st).setIfInBounds i (sa,na+nb,pw)).eraseIdxIfInBounds (i+1))) _ st from Yci ?_);generalize hst:setPending st (((pendingOf st).setIfInBounds i (sa,na+nb,pw)).eraseIdxIfInBounds (i+1))=st1 at q;have ea:arrOf st1=arrOf st:=by rw [<-hst]
 have ek:kindOf st1=kd:=by rw [<-hst];exact hs
 have ef:failedOf st1=none:=by rw [<-hst];exact hf
 rw [<-ea] at G hh ra rb ⊢;obtain ⟨b0,hb0,gb0⟩:=G.at (i:=sa+na) (by lia);obtain ⟨aL,haL,gaL⟩:=G.at (i:=sa+na-1) (by lia);refine Yac (Gw hb0 ?_);have G1:Gal b good false b0 (arrOf st1) sa na:=U4 W gb0 (λi hi=>G.at (by lia)) ra;refine Yac (Jq L G1 ek hna λk hk k1 k2=>?_);have lowA:∀i x y,sa<=i->i<sa+k->(arrOf st1)[i]?=some x->(arrOf st1)[sa+na]?=some y->kle b x y:=λi x y i1 i2 e1 e2=>by
  rw [hb0] at e2;cases e2;have:=k1 (i-sa) (by lia);unfold byd at this;rw [Ycx i1,e1] at this;dsimp only at this;rw [if_neg Yaj,Bool.not_eq_true'] at this;exact this
 have highA:∀i x y,sa+k<=i->i<sa+na->(arrOf st1)[i]?=some x->(arrOf st1)[sa+na]?=some y->kle b y x:=λi x y i1 i2 e1 e2=>by
  rw [hb0] at e2;cases e2;have:=k2 (i-sa) (by lia) (by lia);unfold byd at this;rw [Ycx (by lia),e1] at this;dsimp only at this;rw [if_neg Yaj,Bool.not_eq_false'] at this;exact W.le_of_lt this
 dsimp only;unfold Zd1;rw [show arrOf st=arrOf st1 from ea.symm];split
 ·rename_i e0;have e0:na-k=0:=eq_of_beq e0;refine Yaf (q st1 rfl rfl rfl (.refl _) (λ_ _=>rfl) (Um ra rb λi j x y i1 i2 i3 i4 e1 e2=>?_));exact W.le_trans (lowA i x b0 i1 (by lia) e1 hb0) (rb (sa+na) j b0 y (Yae _) i3 i4 hb0 e2)
 ·rename_i e0;have e0:na-k≠0:=λz=>e0 (Yaz.mpr z);refine Yac (Gw (show (arrOf st1)[sa+k+(na-k)-1]?=some aL by rw [<-haL];congr 1;lia) ?_);have G2:Gal b good true aL (arrOf st1) (sa+na) nb:=U4 W gaL (λi hi=>G.at (by lia)) rb;refine Yac (Jq L G2 ek (by lia) λnb' hk' k1' k2'=>?_);have lowB:∀i x y,sa+na<=i->i<sa+na+nb'->(arrOf st1)[i]?=some x->(arrOf st1)[sa+na-1]?=some y->kle b x y:=λi x y i1 i2 e1 e2=>by
   rw [haL] at e2;cases e2;have:=k1' (i-(sa+na)) (by lia);unfold byd at this;rw [Ycx i1,e1] at this;dsimp only at this;rw [if_pos rfl] at this;exact W.le_of_lt this
  have highB:∀i x y,sa+na+nb'<=i->i<sa+na+nb->(arrOf st1)[i]?=some x->(arrOf st1)[sa+na-1]?=some y->kle b y x:=λi x y i1 i2 e1 e2=>by
   rw [haL] at e2;cases e2;have:=k2' (i-(sa+na)) (by lia) (by lia);unfold byd at this;rw [Ycx (by lia),e1] at this;dsimp only at this;rw [if_pos rfl] at this;exact this
  dsimp only;unfold Zd0;split
  ·rename_i e1;have e1:nb'=0:=eq_of_beq e1;refine Yaf (q st1 rfl rfl rfl (.refl _) (λ_ _=>rfl) (Um ra rb λi j x y i1 i2 i3 i4 f1 f2=>?_));exact W.le_trans (ra i (sa+na-1) x aL i1 (by lia) (by lia) f1 haL) (highB j y aL (by lia) i4 f2 haL)
  ·rename_i e1;have e1:nb'≠0:=λz=>e1 (Yaz.mpr z);have F:GalF b (arrOf st1) sa (sa+k) (sa+na) nb' (sa+na+nb):=⟨by lia,by lia,by lia,by lia,ra,rb,lowA,highA,lowB,highB⟩;have T:=F.two hh G;split
   ·refine Yac ?_;rw [show arrOf st=arrOf st1 from ea.symm];exact WN W L T ek λr st' sg m=>F.fin W hh q ef sg m
   ·refine Yac ?_;rw [show arrOf st=arrOf st1 from ea.symm];exact WR W L T ek λr st' sg m=>F.fin W hh q ef sg m
end
noncomputable def Runs (b:Keyed->Keyed->Bool)(arr:Array Keyed):Nat->List (Nat×Nat×Nat)->Nat->Prop
 | s,[],e=>s=e
 | s,x::rest,e=>x.1=s/\0<x.2.1/\Rng b arr s (s+x.2.1)/\Runs b arr (s+x.2.1) rest e
section
variable {b:Keyed->Keyed->Bool}{arr arr':Array Keyed}
theorem Runs.le:∀{p:List (Nat×Nat×Nat)}{s e:Nat},Runs b arr s p e->s+p.length<=e
 | [],s,e,h=>by have h:s=e:=h;simp [h]
 | x::p,s,e,h=>by
  have:=Runs.le h.2.2.2;have:=h.2.1;rw [Ybn]
  lia
theorem Runs.app:∀{u v:List (Nat×Nat×Nat)}{s e:Nat},Runs b arr s (u++v) e↔∃m,Runs b arr s u m/\Runs b arr m v e
 | [],v,s,e=>⟨λh=>⟨s,rfl,h⟩,λ⟨m,h1,h2⟩=>by have h1:s=m:=h1;rw [h1];exact h2⟩
 | x::u,v,s,e=>by
  constructor
  ·rintro ⟨h1,h2,h3,h4⟩;obtain ⟨m,k1,k2⟩:=Runs.app.mp h4;exact ⟨m,⟨h1,h2,h3,k1⟩,k2⟩
  ·rintro ⟨m,⟨h1,h2,h3,k1⟩,k2⟩;exact ⟨h1,h2,h3,Runs.app.mpr ⟨m,k1,k2⟩⟩
theorem Runs.keep:∀{p:List (Nat×Nat×Nat)}{s e:Nat},Runs b arr s p e->(∀i,s<=i->i<e->arr'[i]?=arr[i]?)->Runs b arr' s p e
 | [],_,_,h,_=>h
 | x::p,s,e,h,k=>by
  have:=Runs.le h.2.2.2;refine ⟨h.1,h.2.1,λi j u v i1 i2 i3 e1 e2=>?_,Runs.keep h.2.2.2 λi i1 i2=>k i (by lia) i2⟩;rw [k i i1 (by lia)] at e1;rw [k j (by lia) (by lia)] at e2;exact h.2.2.1 i j u v i1 i2 i3 e1 e2
theorem Runs.push {p:List (Nat×Nat×Nat)}{s lo n pw:Nat}(h:Runs b arr s p lo)(hn:0<n)(hr:Rng b arr lo (lo+n)):Runs b arr s (p++[(lo,n,pw)]) (lo+n):=
 Runs.app.mpr ⟨lo,h,rfl,hn,hr,rfl⟩
theorem Runs.two {p:List (Nat×Nat×Nat)}{i e sa na pw sb nb pw':Nat}(h:Runs b arr 0 p e)(h1:p[i]?=some (sa,na,pw))(h2:p[i+1]?=some (sb,nb,pw')) :
  sb=sa+na/\0<na/\0<nb/\sb+nb<=e/\Rng b arr sa sb/\Rng b arr sb (sb+nb) /\
   ((∀i,i<sa\/sb+nb<=i->arr'[i]?=arr[i]?)->Rng b arr' sa (sb+nb)->Runs b arr' 0 ((p.set i (sa,na+nb,pw)).eraseIdx (i+1)) e):=by
 obtain ⟨l1,e1⟩:=Yau.mp h1;obtain ⟨l2,e2⟩:=Yau.mp h2;have d:p=p.take i++(sa,na,pw)::(sb,nb,pw')::p.drop (i+2):=by
  conv=>lhs;rw [<-Ydf i p,List.drop_eq_getElem_cons l1,e1,List.drop_eq_getElem_cons l2,e2]
 have hl:(p.take i).length=i:=by rw [Ybs];lia
 generalize p.take i=u at d hl;generalize p.drop (i+2)=v at d;subst d;obtain ⟨m,k1,k2,k3,k4,k5,k6,k7,k8⟩:=Runs.app.mp h;have k2:sa=m:=k2;have k3:0<na:=k3;have k5:sb=m+na:=k5;have k6:0<nb:=k6;have k4:Rng b arr m (m+na):=k4;have k7:Rng b arr (m+na) (m+na+nb):=k7;have k8:Runs b arr (m+na+nb) v e:=k8;subst k2 k5;have k9:sa+na+nb+v.length<=e:=k8.le;refine ⟨rfl,k3,k6,by lia,k4,k7,λho hr=>?_⟩;have es:((u++(sa,na,pw)::(sa+na,nb,pw')::v).set i (sa,na+nb,pw)).eraseIdx (i+1)=u++(sa,na+nb,pw)::v:=by
  rw [List.set_append,if_neg (by lia),hl,Nat.sub_self,List.set_cons_zero,List.eraseIdx_append_of_length_le (by lia),hl,Nat.add_sub_cancel_left]
  rfl
 rw [es];refine Runs.app.mpr ⟨sa,k1.keep λj j1 j2=>ho j (.inl j2),rfl,by show 0<na+nb;lia,by show Rng b arr' sa (sa+(na+nb));rw [<-Nat.add_assoc];exact hr,?_⟩;show Runs b arr' (sa+(na+nb)) v e;rw [<-Nat.add_assoc];exact k8.keep λj j1 j2=>ho j (.inr j1)
theorem Runs.pow:∀{p:List (Nat×Nat×Nat)}{s e:Nat}(i:Nat)(f:Nat×Nat×Nat->Nat×Nat×Nat),(∀x,(f x).1=x.1/\(f x).2.1=x.2.1)->Runs b arr s p e->Runs b arr s (p.modify i f) e
 | [],_,_,i,f,_,h=>by cases i <;> exact h
 | x::p,s,e,0,f,hf,h=>by
  rw [List.modify_zero_cons];obtain ⟨q1,q2⟩:=hf x;refine ⟨q1.trans h.1,by rw [q2];exact h.2.1,by rw [q2];exact h.2.2.1,by rw [q2];exact h.2.2.2⟩
 | x::p,s,e,i+1,f,hf,h=>by
  rw [List.modify_succ_cons];exact ⟨h.1,h.2.1,h.2.2.1,Runs.pow i f hf h.2.2.2⟩
theorem Runs.one (W:WO b){p:List (Nat×Nat×Nat)}{e:Nat}(h:Runs b arr 0 p e)(hl:p.length<=1):Rng b arr 0 e:=by
 match p,h,hl with
 | [],h,_=>
  have h:0=e:=h;subst h;intro i j x y i1 i2 i3
  lia
 | [x],h,_=>
  have h4:0+x.2.1=e:=h.2.2.2;rw [<-h4];exact h.2.2.1
end
section
variable {M:Model}{A:Around}{E:EX}{s:Shared}{kd:SortKind}{b:Keyed->Keyed->Bool}{good:Keyed->Prop}
structure SI (b:Keyed->Keyed->Bool)(kd:SortKind)(st0 st:SortSt)(lo:Nat):Prop where
 ki:kindOf st=kd
 fa:failedOf st=none
 pm:(arrOf st).Perm (arrOf st0)
 ru:Runs b (arrOf st) 0 (pendingOf st).toList lo
theorem SI.size {st0 st:SortSt}{lo:Nat}(h:SI b kd st0 st lo):(arrOf st).size=(arrOf st0).size:=h.pm.size_eq
theorem SI.merge (W:WO b)(L:Oo M A E s kd b good){st0 st:SortSt}{lo i:Nat}{Q:Bool->SortSt->Prop}(G:AllG good (arrOf st0))(h:SI b kd st0 st lo)(hlo:lo<=(arrOf st0).size)(hi:i+1<(pendingOf st).size)(q:∀st',SI b kd st0 st' lo->(pendingOf st').size+1=(pendingOf st).size->(∀i,lo<=i->(arrOf st')[i]?=(arrOf st)[i]?)->Q true st'):wpS M A E s (mergeAt' i) Q st:=by
 obtain ⟨⟨sa,na,pw⟩,p1⟩:∃x,(pendingOf st)[i]?=some x:=⟨_,Yav (by lia)⟩;obtain ⟨⟨sb,nb,pw'⟩,p2⟩:∃x,(pendingOf st)[i+1]?=some x:=⟨_,Yav hi⟩;have two:=λarr'=>Runs.two (arr':=arr') h.ru (by rw [Yaq];exact p1) (by rw [Yaq];exact p2);obtain ⟨t1,t2,t3,t4,t5,t6,_⟩:=two (arrOf st);have hsz:=h.size;refine WU W L h.ki h.fa (G.perm h.pm) p1 p2 t1 t2 t3 (by lia) t5 t6 λst' k1 k2 k3 k4 k5 k6=>?_;have e0:arrOf (setPending st (((pendingOf st).setIfInBounds i (sa,na+nb,pw)).eraseIdxIfInBounds (i+1)))=arrOf st:=rfl;rw [e0] at k4 k5;have e1:pendingOf st'=((pendingOf st).setIfInBounds i (sa,na+nb,pw)).eraseIdxIfInBounds (i+1):=k2;have e2:(pendingOf st').toList=((pendingOf st).toList.set i (sa,na+nb,pw)).eraseIdx (i+1):=by
  rw [e1,Array.toList_eraseIdxIfInBounds,Array.toList_setIfInBounds]
 refine q st' ⟨k1.trans h.ki,k3.trans h.fa,k4.trans h.pm,?_⟩ ?_ λj hj=>k5 j (.inr (by lia))
 ·rw [e2];exact (two (arrOf st')).2.2.2.2.2.2 k5 k6
 ·have:=Ybf List.length e2;rw [Yai,List.length_eraseIdx,List.length_set,Yai,if_pos hi] at this
  lia
theorem Jk (W:WO b)(L:Oo M A E s kd b good){st:SortSt}{Q:Unit->SortSt->Prop}(hs:kindOf st=kd)(hf:failedOf st=none)(hp:pendingOf st=#[])(G:AllG good (arrOf st))(q:∀st',(arrOf st').Perm (arrOf st)->failedOf st'=none->Rng b (arrOf st') 0 (arrOf st).size->Q () st'):wpS M A E s sortRuns' Q st:=by
 rw [sortRuns'_eq];refine Yac (wpS_get ?_);dsimp only;generalize hsz:(arrOf st).size=size at q;generalize minRun' size size 0=minrun;refine Yac (wpS_mono (Q:=λr st1=>r=(none,size)/\SI b kd st st1 size) (Ybz (λk r st1=>∃lo,r=(none,lo)/\k<=lo/\lo<=size/\SI b kd st st1 lo) ?_ ?_ ⟨0,rfl,Yae _,Yao _,hs,hf,.refl _,by rw [hp];rfl⟩) ?_)
 ·rintro k r st1 _ hk ⟨lo,rfl,k1,k2,I⟩;dsimp only;split
  ·have:lo=size:=by lia
   subst this;exact Yaf ⟨rfl,I⟩
  ·rename_i hlo;have s1:(arrOf st1).size=size:=I.size.trans hsz;refine Yac (Vy W L I.ki (G.perm I.pm) (by lia) (by lia) λn st2 ah n1 n2 n3=>?_);have I2:SI b kd st st2 lo:=⟨ah.kd.trans I.ki,ah.fa.trans I.fa,ah.pm.trans I.pm,by rw [ah.pe];exact I.ru.keep λi _ hi=>ah.lw i hi⟩;dsimp only;have pushed:∀st3 n,SI b kd st st3 lo->0<n->Rng b (arrOf st3) lo (lo+n)->SI b kd st (setPending st3 ((pendingOf st3).push (lo,n,0))) (lo+n):=by
    intro st3 n I3 n1 n3;refine ⟨I3.ki,I3.fa,I3.pm,?_⟩;show Runs b (arrOf st3) 0 ((pendingOf st3).push (lo,n,0)).toList (lo+n);rw [Yee];exact I3.ru.push n1 n3
   have pow:∀st3 pw,SI b kd st st3 lo->SI b kd st (setPending st3 ((pendingOf st3).modify ((pendingOf st3).size-1) λx=>(x.1,x.2.1,pw))) lo:=by
    intro st3 pw I3;refine ⟨I3.ki,I3.fa,I3.pm,?_⟩;show Runs b (arrOf st3) 0 ((pendingOf st3).modify ((pendingOf st3).size-1) λx=>(x.1,x.2.1,pw)).toList lo;rw [Array.toList_modify];exact I3.ru.pow _ _ λx=>⟨rfl,rfl⟩
   split
   ·rename_i hmr;refine Yac (wpS_lift (Ycy ⟨rfl,?_⟩));have s2:(arrOf st2).size=size:=I2.size.trans hsz;refine Yac (Yw W L I2.ki (G.perm I2.pm) (by lia) n1 (by lia) n3 λst3 ah3 r3=>?_);have I3:SI b kd st st3 lo:=⟨ah3.kd.trans I2.ki,ah3.fa.trans I2.fa,ah3.pm.trans I2.pm,by rw [ah3.pe];exact I2.ru.keep λi _ hi=>ah3.lw i hi⟩;rw [show (!true)=false from rfl,if_neg Yaj];have hN:1<=min (size-lo) minrun/\lo+min (size-lo) minrun<=size:=by lia
    clear hmr;generalize min (size-lo) minrun=N at r3 hN;refine Yac (wpS_get ?_);cases hbk:(pendingOf st3).back? with
    | none=>exact Yac (Yci (Yaf ⟨_,rfl,by lia,by lia,pushed st3 _ I3 (by lia) r3⟩))
    | some x=>
     obtain ⟨s1,n1,pw1⟩:=x;dsimp only;refine Yac (wpS_mono (Q:=λr st4=>r=(none,())/\SI b kd st st4 lo/\∀i,lo<=i->(arrOf st4)[i]?=(arrOf st3)[i]?) (Ybz (λ_ r st4=>r=(none,())/\SI b kd st st4 lo/\∀i,lo<=i->(arrOf st4)[i]?=(arrOf st3)[i]?) ?_ (λ_ _ z=>z) ⟨rfl,I3,λ_ _=>rfl⟩) ?_)
     ·rintro k' r st4 _ hk' ⟨rfl,I4,same⟩;refine Yac (wpS_get ?_);by_cases hz:(pendingOf st4).size > 1
      ·obtain ⟨⟨z1,z2,z3⟩,pz⟩:∃x,(pendingOf st4)[(pendingOf st4).size-2]?=some x:=⟨_,Yav (by lia)⟩;rw [if_pos hz,pz];dsimp only;split
       ·exact Yaf ⟨rfl,I4,same⟩
       ·refine Yac (I4.merge W L G (by lia) (by lia) λst5 I5 _ same5=>?_);rw [show (!true)=false from rfl,if_neg Yaj];exact Yaf ⟨rfl,I5,λi hi=>(same5 i hi).trans (same i hi)⟩
      ·rw [if_neg hz];exact Yaf ⟨rfl,I4,same⟩
     ·rintro r st4 ⟨rfl,I4,same⟩;dsimp only;refine Yac (Yci (Yac (Yci (Yaf ⟨_,rfl,by lia,by lia,?_⟩))));refine pushed _ _ (pow st4 _ I4) (by lia) λi j x y i1 i2 i3 e1 e2=>?_;have e1:(arrOf st4)[i]?=some x:=e1;have e2:(arrOf st4)[j]?=some y:=e2;rw [same i i1] at e1;rw [same j (by lia)] at e2;exact r3 i j x y i1 i2 i3 e1 e2
   ·have hN:1<=n/\lo+n<=size:=by lia
    refine Yac (wpS_get ?_);cases hbk:(pendingOf st2).back? with
    | none=>exact Yac (Yci (Yaf ⟨_,rfl,by lia,by lia,pushed st2 _ I2 (by lia) n3⟩))
    | some x=>
     obtain ⟨s1,n1,pw1⟩:=x;dsimp only;refine Yac (wpS_mono (Q:=λr st4=>r=(none,())/\SI b kd st st4 lo/\∀i,lo<=i->(arrOf st4)[i]?=(arrOf st2)[i]?) (Ybz (λ_ r st4=>r=(none,())/\SI b kd st st4 lo/\∀i,lo<=i->(arrOf st4)[i]?=(arrOf st2)[i]?) ?_ (λ_ _ z=>z) ⟨rfl,I2,λ_ _=>rfl⟩) ?_)
     ·rintro k' r st4 _ hk' ⟨rfl,I4,same⟩;refine Yac (wpS_get ?_);by_cases hz:(pendingOf st4).size > 1
      ·obtain ⟨⟨z1,z2,z3⟩,pz⟩:∃x,(pendingOf st4)[(pendingOf st4).size-2]?=some x:=⟨_,Yav (by lia)⟩;rw [if_pos hz,pz];dsimp only;split
       ·exact Yaf ⟨rfl,I4,same⟩
       ·refine Yac (I4.merge W L G (by lia) (by lia) λst5 I5 _ same5=>?_);rw [show (!true)=false from rfl,if_neg Yaj];exact Yaf ⟨rfl,I5,λi hi=>(same5 i hi).trans (same i hi)⟩
      ·rw [if_neg hz];exact Yaf ⟨rfl,I4,same⟩
     ·rintro r st4 ⟨rfl,I4,same⟩;dsimp only;refine Yac (Yci (Yac (Yci (Yaf ⟨_,rfl,by lia,by lia,?_⟩))));refine pushed _ _ (pow st4 _ I4) (by lia) λi j x y i1 i2 i3 e1 e2=>?_;have e1:(arrOf st4)[i]?=some x:=e1;have e2:(arrOf st4)[j]?=some y:=e2;rw [same i i1] at e1;rw [same j (by lia)] at e2;exact n3 i j x y i1 i2 i3 e1 e2
 ·rintro r st1 ⟨lo,rfl,k1,k2,I⟩;have:lo=size:=by simp at k1;lia
  subst this;exact ⟨rfl,I⟩
 ·rintro r st1 ⟨rfl,I⟩;dsimp only;refine Yac (wpS_mono (Q:=λr st2=>r=(none,())/\SI b kd st st2 size/\(pendingOf st2).size<=1) (Ybz (λk r st2=>r=(none,())/\SI b kd st st2 size/\(pendingOf st2).size+k<=size+1) ?_ ?_ ⟨rfl,I,?_⟩) ?_)
  ·rintro k r st2 _ hk ⟨rfl,I2,hz⟩;refine Yac (wpS_get ?_);split
   ·rename_i h1;exact Yaf ⟨rfl,I2,h1⟩
   ·rename_i h1;generalize hi:(if Option.any _ _=true then (pendingOf st2).size-2-1 else (pendingOf st2).size-2)=i;have hi2:i+1<(pendingOf st2).size:=by
     rw [<-hi];have key:∀(c:Prop)[Decidable c](m:Nat),(if c then m-1 else m)<=m:=λc _ m=>by split <;> lia
     refine Nat.lt_of_le_of_lt (Nat.succ_le_succ (key _ ((pendingOf st2).size-2))) ?_
     lia
    refine Yac (I2.merge W L G (by lia) hi2 λst3 I3 h3 _=>?_);rw [show (!true)=false from rfl,if_neg Yaj];exact Yaf ⟨rfl,I3,by lia⟩
  ·rintro r st2 ⟨rfl,I2,hz⟩;exact ⟨rfl,I2,by simp at hz;lia⟩
  ·have:=I.ru.le;rw [Yai] at this
   lia
  ·rintro r st2 ⟨rfl,I2,h1⟩;refine Yaf (q st2 I2.pm I2.fa ?_);exact I2.ru.one W (by rw [Yai];exact h1)
end
section
variable {prog:Program}{w:World}{A:Around}{E:EX}{s:Shared}{kd:SortKind}{b:Keyed->Keyed->Bool}{good:Keyed->Prop}
noncomputable def GX (s:Shared)(a:Addr)(vs:List Value):Shared:={ s with heap:=((s.heap.update a (Obj.mapSeq λ_=>#[])).push (seqObj "tuple" vs.toArray 0)).push (seqObj "list" #[] 0) }
theorem Wu (W:WO b){arr:Array Keyed}(h:arr.size<2):Rng b arr 0 arr.size:=λi j x y i1 i2 i3 e1 e2=>by
 have:i=j:=by lia
 subst this;rw [e1] at e2;cases e2;exact W.le_refl _
theorem OG {a:Addr}{vs:List Value}{n:Nat}{P:PySem.Fin->Shared->Prop}(W:WO b)(ha:s.heap.get? a=some (seqObj "list" vs.toArray n))(hz:vs.length<=sizeLine)(hg:∀v∈vs,good (v,v))(hk:2<=vs.length->∀{E':EX}{R:SortKind->Shared->Prop},R kd (GX s a vs)->wpAny (model prog w) A (keyKind' vs.toArray) R E' (GX s a vs))(L:Oo (model prog w) A E (GX s a vs) kd b good)(q:∀out:Array Keyed,out.Perm (pairsOf vs)->Rng b out 0 vs.length->P (.done (.ret .none)) { s with heap:=sortedHeap s.heap a vs (out.map (·.2)) }) :
  wpAny (model prog w) A (Builtin.«list.sort» { pos:=[.ref a] }) P E s:=by
 rw [list_sort_plain];refine Yaa (Ycf ha rfl ?_);refine Yaa (Ydh ha rfl ?_ (by rw [Yan];exact hz) (Yao _));have ha1:=get?_update_seq ha (λ_=>#[]);generalize (if ((#[]:Array Value).size == vs.toArray.size)=true then n else n+1)=n1 at ha1;refine Yaa (seqEpoch_at ha1 rfl ?_);refine Yaa (wpAny_newTuple ?_ hz);refine Yaa (Yer ?_ (Yao _));refine Ybp ?_;have ha2:(GX s a vs).heap.get? a=some (seqObj "list" #[] n1):=Yag _ (Yag _ ha1);show wpAny (model prog w) A _ P E (GX s a vs);have hps:(pairsOf vs).size=vs.length:=pairsOf_size vs;dsimp only [Yan];split
 ·rename_i h2;have h2:vs.length<2:=by simpa using h2
  refine Yaa (Yab ?_);refine Yaa (Ybm (Q:=λr s'=>s'=GX s a vs/\failedOf r.2=none/\(arrOf r.2).Perm (pairsOf vs)/\Rng b (arrOf r.2) 0 vs.length) (Yab ⟨rfl,rfl,.refl _,?_⟩) ?_ (λ_ _ z=>z))
  ·have:=Wu W (arr:=pairsOf vs) (by lia);rw [hps] at this;exact this
  ·rintro ⟨_,st⟩ s' ⟨rfl,e2,hp,hr⟩;dsimp only;refine Yaa (seqEpoch_at ha2 rfl ?_);have e2:failedOf st=none:=e2;have hl:((arrOf st).map (·.2)).size<=sizeLine+1:=by
    have this:(arrOf st).size=(pairsOf vs).size:=hp.size_eq;rw [pairsOf_size] at this;rw [Array.size_map]
    lia
   refine Yaa (Ydh ha2 rfl ?_ (Yao _) hl);have:(n1 != n1)=false:=by simp
   rw [this,e2];exact Yab (q (arrOf st) hp hr)
 ·rename_i h2;have h2:¬ vs.length<2:=by simpa using h2
  refine Yaa (hk (by lia) ?_);refine Yaa (Ybm (Q:=λr s'=>s'=GX s a vs/\failedOf r.2=none/\(arrOf r.2).Perm (pairsOf vs)/\Rng b (arrOf r.2) 0 vs.length) ?_ ?_ (λ_ _ z=>z))
  ·refine Jk (st:=SortSt.mk' kd (vs.toArray.zip vs.toArray) #[] 7 none) (Q:=λ_ st=>failedOf st=none/\(arrOf st).Perm (pairsOf vs)/\Rng b (arrOf st) 0 vs.length) W L rfl rfl rfl (λx hx=>?_) λst' k1 k2 k3=>⟨k2,k1,?_⟩
   ·have hx:x∈(pairsOf vs).toList:=hx;rw [pairsOf_toList] at hx;obtain ⟨e,hm⟩:=mem_zip_self hx;obtain ⟨x1,x2⟩:=x;have e:x1=x2:=e;subst e;exact hg _ hm
   ·have e:(arrOf (SortSt.mk' kd (vs.toArray.zip vs.toArray) #[] 7 none)).size=vs.length:=hps;rw [e] at k3;exact k3
  ·rintro ⟨_,st⟩ s' ⟨rfl,e2,hp,hr⟩;dsimp only;refine Yaa (seqEpoch_at ha2 rfl ?_);have e2:failedOf st=none:=e2;have hl:((arrOf st).map (·.2)).size<=sizeLine+1:=by
    have this:(arrOf st).size=(pairsOf vs).size:=hp.size_eq;rw [pairsOf_size] at this;rw [Array.size_map]
    lia
   refine Yaa (Ydh ha2 rfl ?_ (Yao _) hl);have:(n1 != n1)=false:=by simp
   rw [this,e2];exact Yab (q (arrOf st) hp hr)
theorem GT {h:Heap}{a c:Addr}{o:Obj}{f:Obj->Obj}(hc:c≠a)(e:h.get? c=some o):(h.update a f).get? c=some o:=(Heap.get?_update_ne h c a f hc).trans e
theorem Yx {l:Addr}{vs:List Value}{Q:EX}(W:WO b)(hl:s.heap.IsList l vs.toArray)(hz:vs.length<=sizeLine)(hg:∀v∈vs,good (v,v))(hk:∀h':Heap,(∀c o,s.heap.get? c=some o->h'.get? c=some o)->2<=vs.length->∀{E':EX}{R:SortKind->Shared->Prop},R kd { s with heap:=h' }->wpAny (model prog w) A.in1.in1 (keyKind' vs.toArray) R E' { s with heap:=h' })(L:∀h':Heap,(∀c o,s.heap.get? c=some o->h'.get? c=some o)->Oo (model prog w) A.in1.in1 E { s with heap:=h' } kd b good)(q:∀out:Array Keyed,out.Perm (pairsOf vs)->Rng b out 0 vs.length->Q (.ref (s.heap.objs.size+1)) { s with heap:=sortedAll s.heap vs (out.map (·.2)) }) :
  wpAny (model prog w) A (call (.builtin "sorted") [.ref l]) Q E s:=by
 refine Calls.call_function_entry kind_sorted plain_sorted entry_sorted (args_sorted1 _) ?_;unfold Builtin.sorted;refine Yaa (Yab ?_);refine Yaa (collect_list hl ?_ hz);refine Yaa (Yer ?_ hz);refine Yaa (Ybp ?_);generalize hh1:(s.heap.push (seqObj "list" #[] 0)).update s.heap.objs.size (Obj.mapSeq λx=>x++vs.toArray)=h1;have sz1:h1.objs.size=s.heap.objs.size+1:=by rw [<-hh1,Heap.size_update,Ybx]
 have k1:∀c o,s.heap.get? c=some o->h1.get? c=some o:=λc o e=>by
  rw [<-hh1];exact GT (Yam (Yah e)) (Yag _ e)
 generalize hh2:h1.push { cls:=Value.type "list", data:=Data.seq vs.toArray }=h2;have ha:h2.get? h1.objs.size=some (seqObj "list" vs.toArray 0):=by rw [<-hh2];exact Yay _ rfl
 have k2:∀c o,s.heap.get? c=some o->h2.get? c=some o:=λc o e=>by
  rw [<-hh2];exact Yag _ (k1 c o e)
 have k3:∀c o,s.heap.get? c=some o->(GX { s with heap:=h2 } h1.objs.size vs).heap.get? c=some o:=λc o e=>by
  unfold GX;refine Yag _ (Yag _ (GT ?_ (k2 c o e)));have:=Yah e;rw [sz1];exact Yam (Ydg this)
 refine Ycl (s:={ s with heap:=h2 }) slot_list_sort ⟨_,ha,rfl⟩ entry_list_sort ?_ (args_list_sort _);refine OG (s:={ s with heap:=h2 }) W ha hz hg (λh=>hk _ k3 h) (L _ k3) λout p r=>⟨.none,rfl,Yab ⟨_,rfl,?_⟩⟩;have e:({ s with heap:=sortedHeap h2 h1.objs.size vs (out.map (·.2)) }:Shared)={ s with heap:=sortedAll s.heap vs (out.map (·.2)) }:=by
  unfold sortedAll;rw [sz1,<-hh2,<-hh1]
 show Q (.ref h1.objs.size) { s with heap:=sortedHeap h2 h1.objs.size vs (out.map (·.2)) };rw [e,sz1];exact q out p r
noncomputable def Zg1:Keyed->Keyed->Bool:=λx y=>match x.1,y.1 with
 | .int i _,.int j _=>decide (i<j)
 | _,_=>false
noncomputable def XF:Value->Int
 | .int i _=>i
 | _=>0
end
noncomputable def GM:List Int->List Int->Bool
 | [],[]=>false
 | [],_::_=>true
 | _::_,[]=>false
 | x::xs,y::ys=>if x=y then GM xs ys else decide (x<y)
section
variable {prog:Program}{w:World}{A:Around}{E:EX}{s:Shared}
theorem OV:∀{its:List Value}{ns:List Int},IntsAre its ns->∀k:Nat,(its[k]?=none/\ns.drop k=[])\/∃i t,its[k]?=some (.int i t)/\ns.drop k=i::ns.drop (k+1)
 | _,_,.nil,k=>.inl ⟨by simp,by simp⟩
 | _,_,.cons n t h,0=>.inr ⟨n,t,rfl,rfl⟩
 | _,_,.cons n t h,k+1=>by
  rcases OV h k with ⟨h1,h2⟩ | ⟨i,t,h1,h2⟩
  ·exact .inl ⟨by simpa using h1,by simpa using h2⟩
  ·exact .inr ⟨i,t,by simpa using h1,by simpa using h2⟩
theorem GV {its:List Value}{ns:List Int}(h:IntsAre its ns):its.length=ns.length:=by
 induction h with
 | nil=>rfl
 | cons n t h ih=>simp [ih]
theorem ZcU {a c:Addr}{oa oc:Obj}{xs ys:List Value}{ns ms:List Int}{na nc:Nat}{R:Result->Shared->Prop}(ga:s.heap.get? a=some oa)(gc:s.heap.get? c=some oc)(da:oa.data=.seq xs.toArray na)(dc:oc.data=.seq ys.toArray nc)(hx:IntsAre xs ns)(hy:IntsAre ys ms) :
  ∀left k:Nat,ns.length-k=left->k<=ns.length->k<=ms.length->R (.ok (.ret (.bool (GM (ns.drop k) (ms.drop k))))) s->codeAny (model prog w) A (.builtin "list.__eq__.loop" { pos:=[.ref a,.ref c,rawInt (k:Int),rawInt 0] }) R s:=by
 intro left
 induction left with
 | zero=>
  intro k hl h1 h2 hR;refine Ycu MeetsSeq3.entry_eq_loop ?_;rw [Yed MeetsSeq3.plain_eq_loop _];show wpAny _ A.in1 (Builtin.List.listItems (.ref a) >>= _) _ _ s;refine Yaa (Ycf ga da (Yaa (Ycf gc dc ?_)));have e1:xs.toArray[((k:Int)).toNat]?=none:=by
   rw [Yck];rcases OV hx k with ⟨h,_⟩ | ⟨i,t,h,_⟩
   ·simpa using h
   ·have:=(Yau.mp h).1;have:=GV hx
    lia
  rw [e1];show wpAny _ A.in1 (Builtin.List.listItems (.ref a) >>= _) _ _ s;refine Yaa (Ycf ga da (Yaa (Ycf gc dc (Yab ?_))));show R (.ok (.ret (.bool (decide (xs.toArray.size<ys.toArray.size))))) s;have e2:GM (ns.drop k) (ms.drop k)=decide (xs.toArray.size<ys.toArray.size):=by
   rw [Yan,Yan,GV hx,GV hy];have:ns.drop k=[]:=Yfj (by lia);rw [this];cases hd:ms.drop k with
   | nil=>
    have:=List.drop_eq_nil_iff.mp hd;rw [Ybj (by lia)]
    rfl
   | cons y l=>
    have:k<ms.length:=by
     refine Nat.lt_of_not_le λh=>?_;rw [Yfj h] at hd;cases hd
    rw [Yba (by lia)]
    rfl
  rw [<-e2];exact hR
 | succ left ih=>
  intro k hl h1 h2 hR;refine Ycu MeetsSeq3.entry_eq_loop ?_;rw [Yed MeetsSeq3.plain_eq_loop _];show wpAny _ A.in1 (Builtin.List.listItems (.ref a) >>= _) _ _ s;refine Yaa (Ycf ga da (Yaa (Ycf gc dc ?_)));rw [Yck];rcases OV hx k with ⟨h,z⟩ | ⟨i,t,hi,di⟩
  ·have:=List.drop_eq_nil_iff.mp z
   lia
  ·have e1:xs.toArray[k]?=some (.int i t):=by simpa using hi
   rw [e1];rcases OV hy k with ⟨h,z⟩ | ⟨j,u,hj,dj⟩
   ·have e2:ys.toArray[k]?=none:=by simpa using h
    rw [e2];show wpAny _ A.in1 (Builtin.List.listItems (.ref a) >>= _) _ _ s;refine Yaa (Ycf ga da (Yaa (Ycf gc dc (Yab ?_))));show R (.ok (.ret (.bool (decide (xs.toArray.size<ys.toArray.size))))) s;rw [di,z] at hR;have:=List.drop_eq_nil_iff.mp z;rw [Yan,Yan,GV hx,GV hy,Ybj (by lia)];exact hR
   ·have e2:ys.toArray[k]?=some (.int j u):=by simpa using hj
    rw [e2];rw [di,dj] at hR;show wpAny _ A.in1 (eqBool (.int i t) (.int j u) >>= _) _ _ s;refine Yaa (wpAny_eqBool_int ?_);have kl:k<ms.length:=by
     have:=(Yau.mp hj).1;rw [GV hy] at this;exact this
    by_cases hij:i=j
    ·rw [show (i == j)=true by rw [hij];exact Yex _,if_pos rfl];refine Yab ⟨Yec MeetsSeq3.plain_eq_loop _,ih (k+1) (by lia) (by lia) (by lia) ?_⟩;unfold GM at hR;rw [if_pos hij] at hR;exact hR
    ·rw [show (i == j)=false by rw [Ydk];exact hij,if_neg Yaj];refine Yaa (Ycf ga da (Yaa (Ycf gc dc ?_)));rw [e1,e2];refine Yaa (lt_int (Yab ?_));unfold GM at hR;rw [if_neg hij] at hR;exact hR
theorem Zbv (a c:Addr)(xs ys:List Value)(ns ms:List Int)(na nc:Nat)(hx:IntsAre xs ns)(hy:IntsAre ys ms):Meets (Builtin.«list.__lt__» { pos:=[.ref a,.ref c] }) λA R s=>
  s.heap.IsList a xs.toArray/\s.heap.IsList c ys.toArray/\R (.ok (.ret (.bool (GM ns ms)))) s:=by
 intro prog w A R s ⟨ha,hc,hR⟩;obtain ⟨oa,ga,ca,n1,da⟩:=ha;obtain ⟨oc,gc,cc,n2,dc⟩:=hc;show wpAny _ A.in1 (isInstance (.ref c) (.type "list") >>= _) _ _ s;refine Yaa (Yez (T := "list") ⟨oc,gc,cc⟩ (by first | rfl | decide +kernel) ?_);refine Yab ⟨Yec MeetsSeq3.plain_eq_loop _,?_⟩;exact ZcU ga gc da dc hx hy _ 0 rfl (Yao _) (Yao _) hR
theorem Yy {a c:Addr}{xs ys:List Value}{ns ms:List Int}{Q:Bool->Shared->Prop}(ha:s.heap.IsList a xs.toArray)(hc:s.heap.IsList c ys.toArray)(hx:IntsAre xs ns)(hy:IntsAre ys ms)(hu:A.units<cLine)(h:Q (GM ns ms) s) :
  wpAny (model prog w) A (oneLt' true (.ref a) (.ref c)) Q E s:=by
 rw [oneLt'_eq];dsimp only;rw [if_pos rfl];refine Yaa (wpAny_cRoom hu ?_);have Ta:s.TypeIs (.ref a) "list" := ha.elim λo z=>⟨o,z.1,z.2.1⟩;refine Yaa (wpAny_callSpecialIfBound?_slot Ta F.slot_list_lt (call_meets F.slot_list_lt Ta F.entry_list_lt (F.args_list_lt_2 _ _) (Zbv a c xs ys ns ms 0 0 hx hy) ⟨ha,hc,?_⟩));show wpAny _ A (truthOfDropped (.bool (GM ns ms))) Q E s;exact Ydl h
end
end L2
namespace L2
open PySem PySem.Spec PyProof.Rows Classical
theorem Jg:∀xs:List Int,GM xs xs=false
 | []=>rfl
 | x::xs=>by
  unfold GM;rw [if_pos rfl];exact Jg xs
theorem OW:∀{xs ys zs:List Int},GM xs ys=true->GM ys zs=true->GM xs zs=true
 | [],[],_,h,_=>by simp [GM] at h
 | [],_::_,[],_,h=>by simp [GM] at h
 | [],_::_,_::_,_,_=>rfl
 | _::_,[],_,h,_=>by simp [GM] at h
 | _::_,_::_,[],_,h=>by simp [GM] at h
 | x::xs,y::ys,z::zs,h1,h2=>by
  unfold GM at h1 h2 ⊢;by_cases e1:x=y
  ·rw [if_pos e1] at h1;by_cases e2:y=z
   ·rw [if_pos e2] at h2;rw [if_pos (e1.trans e2)];exact OW h1 h2
   ·rw [if_neg e2] at h2;rw [if_neg (by rw [e1];exact e2),e1];exact h2
  ·rw [if_neg e1] at h1;have h1:=Ybv h1;by_cases e2:y=z
   ·rw [if_neg (by rw [<-e2];exact e1),<-e2];exact Yba h1
   ·rw [if_neg e2] at h2;have h2:=Ybv h2;rw [if_neg (by lia)];exact Yba (by lia)
theorem OH:∀{xs ys:List Int},GM xs ys=false->GM ys xs=false->xs=ys
 | [],[],_,_=>rfl
 | [],_::_,h,_=>by simp [GM] at h
 | _::_,[],_,h=>by simp [GM] at h
 | x::xs,y::ys,h1,h2=>by
  unfold GM at h1 h2;by_cases e:x=y
  ·rw [if_pos e] at h1;rw [if_pos e.symm] at h2;rw [e,OH h1 h2]
  ·rw [if_neg e] at h1;rw [if_neg (Ne.symm e)] at h2;have h1:=Yff h1;have h2:=Yff h2
   lia
theorem Z5 {α:Type}{κ:Keyed->α}{lt:α->α->Bool}(irr:∀a,lt a a=false)(tr:∀{a b c},lt a b=true->lt b c=true->lt a c=true)(tot:∀{a b},lt a b=false->lt b a=false->a=b):WO (λx y=>lt (κ x) (κ y)):=by
 refine ⟨λx=>irr _,λx y z=>tr,λx y z h=>?_⟩;cases h1:lt (κ x) (κ y) with
 | true=>exact .inl rfl
 | false=>
  cases h2:lt (κ y) (κ x) with
  | true=>exact .inr (tr h2 h)
  | false=>
   rw [<-tot h1 h2];exact .inr h
theorem JI {α β:Type}{f:α->β}:∀{l:List β}{zs:List α},l.Perm (zs.map f)->∃zs':List α,zs'.Perm zs/\zs'.map f=l:=by
 intro l zs h;generalize hm:zs.map f=m at h
 induction h generalizing zs with
 | nil=>exact ⟨zs,.refl _,by rw [hm]⟩
 | @cons x l1 l2 _ ih=>
  cases zs with
  | nil=>simp at hm
  | cons z zs=>
   simp at hm;obtain ⟨zs',h1,h2⟩:=ih hm.2;exact ⟨z::zs',h1.cons z,by rw [Yap,h2,hm.1]⟩
 | swap x y l=>
  cases zs with
  | nil=>simp at hm
  | cons z zs=>
   cases zs with
   | nil=>simp at hm
   | cons z2 zs=>
    simp at hm;exact ⟨z2::z::zs,.swap _ _ _,by simp [hm.1,hm.2.1,hm.2.2]⟩
 | trans _ _ ih1 ih2=>
  obtain ⟨zs1,h1,h2⟩:=ih2 hm;obtain ⟨zs2,h3,h4⟩:=ih1 h2;exact ⟨zs2,h3.trans h1,h4⟩
section
variable {prog:Program}{w:World}{A:Around}{E:EX}{s:Shared}{b:Keyed->Keyed->Bool}{good:Keyed->Prop}
theorem XG (h:∀x y,good x->good y->∀{E':EX}{Q:Bool->Shared->Prop},Q (b x y) s->wpAny (model prog w) A (oneLt' true x.1 y.1) Q E' s):Oo (model prog w) A E s oneType' b good:=by
 intro x y st Q gx gy hs q;rw [lt'_eq];refine Yac (wpS_get ?_);refine Yac (wpS_lift ?_);rw [hs,keyLt'_oneType];exact Ydq (h x y gx gy ⟨rfl,Yaf q⟩)
theorem JJ {β:Type}{f:Value->Sem β}{g:Value->β}:∀{vs:List Value}{Q:List β->Shared->Prop},(∀v∈vs,∀{Q:β->Shared->Prop},Q (g v) s->wpAny (model prog w) A (f v) Q E s)->Q (vs.map g) s->wpAny (model prog w) A (List.mapM f vs) Q E s
 | [],Q,_,q=>by
  rw [List.mapM_nil];exact Yab q
 | v::vs,Q,h,q=>by
  rw [List.mapM_cons];refine Yaa (h v (Ybe ..) ?_);exact Yaa (JJ (λu hu=>h u (Ybb _ hu)) (Yab q))
theorem OI {α β:Type}{m:Sem α}{f:α->β}{Q:β->Shared->Prop}(h:wpAny (model prog w) A m (λa s'=>Q (f a) s') E s):wpAny (model prog w) A (f <$> m) Q E s:=by
 rw [map_eq_pure_bind];exact Yaa (Ybm h (λa s' z=>Yab z) λ_ _ z=>z)
theorem UE {T:String}{vs:List Value}{R:SortKind->Shared->Prop}(hT:T ≠ "tuple")(h:∀v∈vs,s.TypeIs v T)(h2:2<=vs.length)(q:R oneType' s):wpAny (model prog w) A (keyKind' vs.toArray) R E s:=by
 rw [keyKind'_eq,List.mapM_toArray];have ne:(Value.type T != Value.type "tuple")=true:=by
  rw [bne_iff_ne];intro e;injection e with e
  exact hT e
 refine Yaa (OI (JJ (g:=λ_=>none) (λv hv Q q=>?_) ?_))
 ·show wpAny _ _ (typeOf v >>= _) _ _ s;refine Yaa (Ydo (h v hv) ?_);rw [if_pos ne];exact Yab q
 ·obtain ⟨v1,v2,rest,rfl⟩:∃v1 v2 rest,vs=v1::v2::rest:=by
   match vs,h2 with
   | v1::v2::rest,_=>exact ⟨v1,v2,rest,rfl⟩
  rw [if_neg (by simp)];rw [if_neg (by simp)];rw [oneTypeOnly'_eq,List.mapM_toArray];refine Yaa (Yaa (OI (JJ (g:=λ_=>Value.type T) (λv hv Q q=>Ydo (h v hv) q) ?_)));simp only [Yap,List.getElem?_toArray,List.getElem?_cons_zero];refine Yab ?_;rw [if_pos (by simp)];exact Yab q
end
noncomputable def ltI (x y:Int):Bool:=decide (x<y)
theorem Zd2:WO (λx y=>ltI (XF x.1) (XF y.1)):=Z5 (κ:=λx:Keyed=>XF x.1) (lt:=ltI) (λa=>by simp [ltI]) (λ{a b c} h1 h2=>by
  have h1:=Ybv h1;have h2:=Ybv h2;exact Yba (by lia)) (λ{a b} h1 h2=>by
  have h1:=Yff h1;have h2:=Yff h2
  lia)
theorem JC {b:Keyed->Keyed->Bool}{out:Array Keyed}{n:Nat}(h:Rng b out 0 n)(hn:out.size=n):out.toList.Pairwise (kle b):=by
 rw [List.pairwise_iff_getElem];intro i j hi hj hij;rw [Yai] at hi hj;exact h i j _ _ (Yao _) (by lia) (by lia) (by simp [hi]) (by simp [hj])
theorem Vz {vs:List Value}{out:Array Keyed}(h:out.Perm (pairsOf vs)):(out.map (·.2)).toList.Perm vs/\(∀x∈out.toList,x.1=x.2/\x.1∈vs)/\out.size=vs.length:=by
 have p:out.toList.Perm (vs.zip vs):=by
  have:=h.toList;rw [pairsOf_toList] at this;exact this
 refine ⟨?_,λx hx=>mem_zip_self (p.mem_iff.mp hx),by rw [h.size_eq,pairsOf_size]⟩;rw [Array.toList_map];have:=p.map (λx:Keyed=>x.2);rw [show (vs.zip vs).map (λx:Keyed=>x.2)=vs from List.map_snd_zip (Yae _)] at this;exact this
noncomputable def ZcV (h:Heap)(v:Value):List Int:=if q:∃ns a its,v=.ref a/\h.IsList a its/\IntsAre its.toList ns then choose q else []
theorem VA:∀{its:List Value}{ns ms:List Int},IntsAre its ns->IntsAre its ms->ns=ms
 | _,_,_,.nil,.nil=>rfl
 | _,_,_,.cons n t h,.cons _ _ k=>by rw [VA h k]
theorem Yz {h:Heap}{a:Addr}{xs ys:Array Value}(h1:h.IsList a xs)(h2:h.IsList a ys):xs=ys:=by
 obtain ⟨o,e,_,n,d⟩:=h1;obtain ⟨o',e',_,n',d'⟩:=h2;rw [e] at e';cases e';rw [d] at d';cases d'
 rfl
theorem VB {h:Heap}{a:Addr}{its:Array Value}{ns:List Int}(hl:h.IsList a its)(hi:IntsAre its.toList ns):ZcV h (.ref a)=ns:=by
 have q:∃ns a' its,Value.ref a=.ref a'/\h.IsList a' its/\IntsAre its.toList ns:=⟨ns,a,its,rfl,hl,hi⟩;unfold ZcV;rw [dif_pos q];obtain ⟨a',its',e,h1,h2⟩:=choose_spec q;cases e;have:=Yz hl h1;subst this;exact VA h2 hi
theorem ZcW (h:Heap):WO (λx y=>GM (ZcV h x.1) (ZcV h y.1)):=Z5 (κ:=λx:Keyed=>ZcV h x.1) (lt:=GM) Jg OW OH
section
variable {X:Cx}(K:W.Frag)
noncomputable def ZcX:List V->Hp->VK->Prop:=λxs H Q=>∃(p:Addr)(zs:List (Addr×List Int)),xs=[.ref p]/\SqL K H p (zs.map λz=>V.ref z.1)/\(∀z∈zs,SqL K H z.1 (z.2.map V.int)) /\
 ∀(l:Addr)(zs':List (Addr×List Int)),H l=none->zs'.Perm zs->(zs'.map (·.2)).Pairwise (λa b=>GM b a=false)->Q (.ref l) (upd H l (.lst (zs'.map λz=>V.ref z.1)))
theorem VC:∀{zs:List (Addr×List Int)}{its:List Value},Vals (zs.map λz=>V.ref z.1) its->its=zs.map λz=>Value.ref z.1
 | [],_,h=>by cases h;rfl
 | z::zs,_,h=>by
  cases h with
  | cons r h=>
   cases r;rw [VC h]
   rfl
theorem OJ:∀(zs:List (Addr×List Int)),Vals (zs.map λz=>V.ref z.1) (zs.map λz=>Value.ref z.1)
 | []=>.nil
 | z::zs=>.cons rfl (OJ zs)
theorem ZcY (hu:X.A.units+64<cLine)(h:X.K=K:=by rfl):JR X (.builtin "sorted") (ZcX K):=by
 subst h;intro qQ s σ H xs us Q I rv h;obtain ⟨p,zs,rfl,hq,hz,q⟩:=h;obtain ⟨u,rfl,ru⟩:=rv.one;cases ru;obtain ⟨its,r,pl,hzl⟩:=I.list hq;have hl:=r.length;rw [Yad] at hl hzl;have ei:=VC r;have key:∀z∈zs,∃its:Array Value,s.heap.IsList z.1 its/\IntsAre its.toList z.2:=λz hzm=>by
  obtain ⟨iz,rz,pz,_⟩:=I.list (hz z hzm);exact ⟨iz.toArray,pz.isList,J3 rz⟩
 have isL:∀v∈its,∃a,∃it:Array Value,∃ns,v=.ref a/\s.heap.IsList a it/\IntsAre it.toList ns:=λv hv=>by
  rw [ei] at hv;obtain ⟨z,hzm,rfl⟩:=Yar.mp hv;obtain ⟨it,h1,h2⟩:=key z hzm;exact ⟨z.1,it,z.2,rfl,h1,h2⟩
 have keepL:∀{h':Heap}{a:Addr}{it:Array Value},(∀c o,s.heap.get? c=some o->h'.get? c=some o)->s.heap.IsList a it->h'.IsList a it:=λk hl=>by
  obtain ⟨o,e,r⟩:=hl;exact ⟨o,k _ _ e,r⟩
 refine Yx (good:=λx=>∃a,∃it:Array Value,∃ns,x.1=.ref a/\s.heap.IsList a it/\IntsAre it.toList ns) (ZcW s.heap) pl.isList (by lia) isL (λh' k h2 E' R q=>?_) (λh' k=>XG λx y gx gy E' Q q=>?_) λout hp hr=>?_
 ·refine UE (T := "list") (by decide) (λv hv=>?_) h2 q;obtain ⟨a,it,ns,rfl,h1,_⟩:=isL v hv;obtain ⟨o,e,c,_⟩:=keepL k h1;exact ⟨o,e,c⟩
 ·obtain ⟨a,it,ns,e1,h1,h2⟩:=gx;obtain ⟨c,jt,ms,e2,h3,h4⟩:=gy;simp only [e1,e2,VB h1 h2,VB h3 h4] at q ⊢;exact Yy (xs:=it.toList) (ys:=jt.toList) (keepL k h1) (keepL k h3) h2 h4 (by rw [Ydr,Ydr];lia) q
 ·obtain ⟨o1,o2,o3⟩:=Vz hp;obtain ⟨e,he⟩:=sortedAll_at s.heap its (out.map (·.2));rw [ei] at o1;obtain ⟨zs',p1,p2⟩:=JI o1;have ps:(zs'.map (·.2)).Pairwise (λa b=>GM b a=false):=by
   have a1:=JC hr o3;have a2:(out.toList.map (·.2)).Pairwise (λu v=>GM (ZcV s.heap v) (ZcV s.heap u)=false):=by
    rw [Yby];refine a1.imp_of_mem λ{x y} hx hy hxy=>?_;rw [<-(o2 x hx).1,<-(o2 y hy).1];exact hxy
   rw [Array.toList_map] at p2;rw [<-p2,Yby] at a2;rw [Yby];refine a2.imp_of_mem λ{x y} hx hy hxy=>?_;obtain ⟨it,h1,h2⟩:=key x (p1.mem_iff.mp hx);obtain ⟨jt,h3,h4⟩:=key y (p1.mem_iff.mp hy);rw [VB h1 h2,VB h3 h4] at hxy;exact hxy
  refine ⟨.ref _,_,I.laid (a:=s.heap.objs.size+1) (t':=s.toks) (o:=.lst (zs'.map λz=>V.ref z.1)) (λb o e=>sortedAll_old e) (Yda _) ⟨by rw [Yad,p1.length_eq];exact hzl,(out.map (·.2)).toList,e,by rw [<-p2];exact OJ zs',he⟩,rfl,q _ _ (I.hok.fresh (Yda _)) p1 ps⟩
end
end L2
namespace L2
open PySem PySem.Spec PyProof.Rows
section
variable {prog:Program}{w:World}{A:Around}{E:EX}{s:Shared}
end
section
variable {X:Cx}
end
section
variable {prog:Program}{w:World}{A:Around}{E:EX}{s:Shared}
noncomputable def ZfS (kz:List Int)(vs out:List Value):Prop:=∃ps:List (Int×Value),ps.Perm (kz.zip vs)/\out=ps.map Prod.snd/\ps.Pairwise (λp q=>q.1<=p.1)
theorem ZcZ {keys:List Value}{vs:List Value}{kz:List Int}{xs:Array Keyed}(hk:IntsAre keys kz)(hp:xs.toList.Perm (keys.zip vs))(hr:xs.toList.Pairwise (kle λx y=>ltI (XF x.1) (XF y.1))):ZfS kz vs ((xs.toList.map (·.2)).reverse):=by
 have en:∀{l:List Value}{ns:List Int},IntsAre l ns->l.map XF=ns:=by
  intro l ns h
  induction h with
  | nil=>rfl
  | cons n t h ih=>rw [Yap,ih];rfl
 refine ⟨(xs.toList.map λx=>(XF x.1,x.2)).reverse,(List.reverse_perm _).trans ?_,?_,?_⟩
 ·refine (hp.map λx:Keyed=>(XF x.1,x.2)).trans (.of_eq ?_);rw [<-en hk,List.zip_map_left];exact List.map_congr_left λ⟨x,y⟩ _=>rfl
 ·rw [List.map_reverse,Ydt]
  rfl
 ·rw [List.pairwise_reverse,Yby];refine hr.imp λ{x y} h=>?_;have:=Yff h
  lia
structure Zd3 (J:Shared->Prop)(a b:Addr):Prop where
 put:∀(s:Shared)(c:Addr)(f:Obj->Obj),c=a\/c=b->J s->J { s with heap:=s.heap.update c f }
noncomputable abbrev keyHeap (h:Heap)(a:Addr)(vs:List Value):Heap:=((h.update a (Obj.mapSeq λ_=>#[])).push (seqObj "tuple" vs.toArray 0)).push (seqObj "list" #[] 0)
theorem Zbw {α:Type}{R:α->α->Prop}:∀{l:List α},l.length<2->l.Pairwise R:=λ{l} h=>by
 cases l with
 | nil=>exact .nil
 | cons a l=>
  cases l with
  | nil=>simp
  | cons b l=>exact absurd h (by simp)
theorem VD {a q:Addr}{vs:List Value}{kz:List Int}{n:Nat}{J:Shared->Prop}{P:PySem.Fin->Shared->Prop}(ha:s.heap.get? a=some (seqObj "list" vs.toArray n))(hz:vs.length<=sizeLine)(hl:kz.length=vs.length)(S:Zd3 J a (s.heap.objs.size+1))(hJ:J { s with heap:=keyHeap s.heap a vs })(ask:∀(i:Nat)(v:Value)(k:Int)(s1:Shared)(R:EX)(E':EX),vs[i]?=some v->kz[i]?=some k->J s1->s.heap.objs.size+1<s1.heap.objs.size ->
   (∀t s2,J s2->s1.heap.objs.size<=s2.heap.objs.size->(∀c o,c=a\/c=s.heap.objs.size+1->s1.heap.get? c=some o->s2.heap.get? c=some o)->R (.int k t) s2)->wpAny (model prog w) A (call (.ref q) [v]) R E' s1)(fin:∀(s2:Shared)(out:Array Value)(c:Nat),J s2->s2.heap.get? a=some (seqObj "list" out c)->ZfS kz vs out.toList->P (.done (.ret .none)) s2) :
  wpAny (model prog w) A (Builtin.«list.sort» ⟨[.ref a],[(Str.ofString "key", .ref q),(Str.ofString "reverse", .bool true)]⟩) P E s:=by
 rw [PyProof.Rows.ksk_t2];unfold PyProof.Rows.ksk_tree;have hlt:=Yah ha;refine Yaa (Ycf ha rfl ?_);refine Yaa (Ydh ha rfl ?_ (by rw [Yan];exact hz) (Yao _));have ha1:=get?_update_seq ha (λ_=>#[]);generalize (if ((#[]:Array Value).size == vs.toArray.size)=true then n else n+1)=e1 at ha1;refine Yaa (seqEpoch_at ha1 rfl ?_);refine Yaa (wpAny_newTuple ?_ hz);refine Yaa (Yer ?_ (Yao _));refine Ybp ?_;have z1:((s.heap.update a (Obj.mapSeq λ_=>#[])).push (seqObj "tuple" vs.toArray 0)).objs.size=s.heap.objs.size+1:=by rw [Ybx,Heap.size_update]
 have hk1:(keyHeap s.heap a vs).get? (s.heap.objs.size+1)=some (seqObj "list" #[] 0):=by rw [<-z1];exact Yay _ rfl
 have ha2:(keyHeap s.heap a vs).get? a=some (seqObj "list" #[] e1):=Yag _ (Yag _ ha1);have z2:(keyHeap s.heap a vs).objs.size=s.heap.objs.size+2:=by rw [Ybx,z1]
 show wpAny (model prog w) A (PyProof.Rows.ksk_rest a (.ref q) true vs.toArray e1 (.ref ((s.heap.update a (Obj.mapSeq λ_=>#[])).push (seqObj "tuple" vs.toArray 0)).objs.size)) P E { s with heap:=keyHeap s.heap a vs };rw [z1];generalize keyHeap s.heap a vs=h0 at hJ hk1 ha2 z2 ⊢;generalize hkS:s.heap.objs.size+1=kS at *;have nak:a≠kS:=by rw [<-hkS];exact Yam (Ydg hlt)
 unfold PyProof.Rows.ksk_rest;refine Yaa (Ycy ?_);refine Yaa ?_;rw [<-Array.forIn_toList];refine PyProof.Rows.ksk_fold (λi s1=>J s1/\kS<s1.heap.objs.size/\s1.heap.get? a=some (seqObj "list" #[] e1)/\∃keys c,s1.heap.get? kS=some (seqObj "list" keys c)/\IntsAre keys.toList (kz.take i)) vs.toArray.toList 0 _ ⟨hJ,by show kS<h0.objs.size;lia,ha2,#[],0,hk1,.nil⟩ ?_ ?_
 ·rintro j x s1 hx ⟨j1,l1,a1,keys,c,k1,ik⟩;have hx:vs[j]?=some x:=by simpa using hx
  have hj:j<vs.length:=(Yau.mp hx).1;have hk:kz[j]?=some kz[j]:=Ybd (by lia);rw [Ycw] at ik;refine Yaa (Ydq (ask j x kz[j] s1 _ _ hx hk j1 l1 λt s2 j2 l2 kp=>?_));have k2:=kp kS _ (.inr rfl) k1;have a2:=kp a _ (.inl rfl) a1;have il:keys.size=j:=by
   have:=ik.length;rw [Yai,Ybs] at this
   lia
  refine Yaa (Ydh k2 rfl ?_ (by lia) (by show (keys.push _).size<=_;rw [Ych];lia));refine Yab ⟨rfl,S.put _ _ _ (.inr rfl) j2,by show kS<(s2.heap.update kS _).objs.size;rw [Heap.size_update];lia,(Ycm _ _ (Ne.symm nak)).trans a2,keys.push (.int kz[j] t),_,get?_update_seq k2 (·.push (.int kz[j] t)),?_⟩;rw [Yee,Ycw,Ycp,hk];exact PyProof.Rows.ksk_snoc ik
 ·rintro s1 ⟨j1,l1,a1,keys,c,k1,ik⟩;rw [show 0+vs.toArray.toList.length=kz.length by simp [hl],Ycq] at ik;have il:keys.size=vs.length:=by
   have:=ik.length;rw [Yai] at this
   lia
  have isI:∀v∈keys.toList,∃i t,v=.int i t:=ik.all;refine Yaa (Ycf k1 rfl ?_);have kzip:(keys.zip vs.toArray).toList=keys.toList.zip vs:=PyProof.Rows.ksk_zip keys vs;have zsz:(keys.zip vs.toArray).size=vs.length:=by simp [Array.size_zip,il]
  have tail:∀st:SortSt,failedOf st=none->(arrOf st).toList.Perm (keys.toList.zip vs)->(arrOf st).toList.Pairwise (kle λx y=>ltI (XF x.1) (XF y.1))->wpAny (model prog w) A (PyProof.Rows.ksk_tail a true e1 (.ref kS) st) P E s1:=by
   intro st f0 p0 r0;have asz:(arrOf st).size=vs.length:=by
    have:=p0.length_eq;rw [Yai,List.length_zip,Yai] at this
    lia
   unfold PyProof.Rows.ksk_tail;refine Yaa (Ydh k1 rfl ?_ (by lia) (Yao _));refine Yaa (wpAny_letGo ?_);have a3:(s1.heap.update kS (Obj.mapSeq λ_=>#[])).get? a=some (seqObj "list" #[] e1):=(Ycm _ _ (Ne.symm nak)).trans a1;refine Yaa (seqEpoch_at a3 rfl ?_);refine Yaa (Ydh a3 rfl ?_ (Yao _) (by rw [if_pos rfl,Array.size_reverse,Array.size_map];lia));rw [show (e1 != e1)=false by simp,f0];refine Yab (fin _ _ _ (S.put _ _ _ (.inl rfl) (S.put _ _ _ (.inr rfl) j1)) (get?_update_seq a3 _) ?_);rw [if_pos rfl,Ycz,Array.toList_map];exact ZcZ ik p0 r0
  unfold PyProof.Rows.ksk_end;dsimp only;rw [if_pos rfl];refine Yaa (Ycy ?_);split
  ·rename_i h2;have h2:vs.length<2:=by simpa using h2
   refine Yaa (Yab ?_);refine Yaa (Ybm (Q:=λr s'=>s'=s1/\r.2=SortSt.mk' general' (keys.zip vs.toArray).reverse #[] 7 none) (Yab ⟨rfl,rfl⟩) ?_ (λ_ _ z=>z));rintro ⟨_,st⟩ s' ⟨rfl,rfl⟩;refine tail _ rfl ?_ ?_
   ·show (keys.zip vs.toArray).reverse.toList.Perm _;rw [Ycz,kzip];exact List.reverse_perm _
   ·show (keys.zip vs.toArray).reverse.toList.Pairwise _;have hlz:(keys.zip vs.toArray).reverse.toList.length<2:=by rw [Yai,Array.size_reverse];lia
    exact Zbw hlz
  ·rename_i h2;have h2:¬ vs.length<2:=by simpa using h2
   have kk:wpAny (model prog w) A (keyKind' keys) (λkind s'=>kind=oneType'/\s'=s1) E s1:=by
    have:keys=keys.toList.toArray:=by simp
    rw [this];exact UE (T := "int") (by decide) (λv hv=>by obtain ⟨i,t,rfl⟩:=isI v hv;exact typeIs_int _ _ _) (by rw [Yai];lia) ⟨rfl,rfl⟩
   refine Yaa (Ybm kk ?_ (λ_ _ z=>z));rintro _ s1' ⟨rfl,es⟩;rw [es];have L:Oo (model prog w) A E s1 oneType' (λx y=>ltI (XF x.1) (XF y.1)) (λx=>∃i t,x.1=.int i t):=XG λx y gx gy E' Q q=>by
    obtain ⟨i,t,e1⟩:=gx;obtain ⟨j,u,e2⟩:=gy;simp only [e1,e2] at q ⊢;exact oneLt_int q
   refine Yaa (Ybm (Jk (st:=SortSt.mk' oneType' (keys.zip vs.toArray).reverse #[] 7 none) (Q:=λ_ st=>failedOf st=none/\(arrOf st).toList.Perm (keys.toList.zip vs)/\(arrOf st).toList.Pairwise (kle λx y=>ltI (XF x.1) (XF y.1))) Zd2 L rfl rfl rfl (λx hx=>?_) λst' p1 f1 r1=>⟨f1,?_,?_⟩) ?_ (λ_ _ z=>z))
   ·have hx:x∈(keys.zip vs.toArray).reverse.toList:=hx;rw [Ycz,List.mem_reverse,kzip] at hx;exact isI _ (List.of_mem_zip (a:=x.1) (b:=x.2) hx).1
   ·have p1:(arrOf st').Perm (keys.zip vs.toArray).reverse:=p1;refine p1.toList.trans ?_;rw [Ycz,kzip];exact List.reverse_perm _
   ·have p1:(arrOf st').Perm (keys.zip vs.toArray).reverse:=p1;exact JC r1 p1.size_eq
   ·rintro ⟨_,st⟩ s' ⟨rfl,f1,p1,r1⟩;exact tail st f1 p1 r1
theorem Zbx {fL c':Addr}{qual:Str}{params:Arguments}{body:Expr}{scope:Scope}{clos:List (Str×Addr)}{pm ctv arg:Value}{x:Str}{R:EX}(jJ:A.depth<recursionLimit)(ho:s.heap.get? fL=some (W.kla_obj "<lambda>" qual params body scope clos pm c' ctv))(hcd:s.heap.CodeRec (.ref c') qual)(hnl:s.heap.NoLimit)(hco:scope.isCoroutine=false)(hgen:scope.isGenerator=false)(hk:scope.kind=.function)(hbind:bindArgs (W.kla_fn "<lambda>" qual params body scope clos pm (.ref c') ctv) ⟨[arg],[]⟩=pure [(x,arg)])(hloc:scope.names.lookup x=some .local)(jX:∀y∈scope.names,y.2≠.cell)(h:∀(h1:Heap)(L:Addr),(∀b o,s.heap.get? b=some o->h1.get? b=some o)->s.heap.objs.size<=h1.objs.size->h1.Ns L (λy=>[(x,arg)].reverse.lookup y) ->
   wpAny (model prog w) (A.deeper (W.envX qual scope L fL (.ref c') clos)) (eval body (W.envX qual scope L fL (.ref c') clos)) R (λ_ _=>False) { s with heap:=h1,toks:=s.toks+1 }) :
  wpAny (model prog w) A (call (.ref fL) [arg]) R E s:=by
 refine wpAny_call (W.kla_callFunE jJ ho rfl hco hgen rfl hcd ?_);rw [hbind];refine Yab (wpAny_newFunctionEnv jX (λy hy=>?_) (λh1 hns hsb=>⟨?_,?_⟩) hk)
 ·cases Yaw.mp hy;exact hloc
 ·exact hnl.fresh _ hsb
 ·refine W.kla_codeExpr ?_;have k1:∀b o,s.heap.get? b=some o->h1.get? b=some o:=λb o e=>hsb.extBut b o (Yam (Yah e)) (Yag _ e);refine Ybm (h h1 s.heap.objs.size k1 ?_ hns) (λv s' hR=>hR) λ_ _ z=>z.elim;rw [hsb.1,Ybx];exact Yda _
end
noncomputable def SameL (P:Addr)(H H':Hp):Prop:=∀a o,a≠P->H a=some o->H' a=some o
theorem SameL.of {P:Addr}{H H':Hp}(s:Same H H'):SameL P H H':=λa o _ e=>s a o e
theorem SameL.trans {P:Addr}{H H' H'':Hp}(a:SameL P H H')(b:SameL P H' H''):SameL P H H'':=λc o n e=>b c o n (a c o n e)
noncomputable def Zd4 (qual:Str)(oc:Obj):Prop:=∃vs t,oc.data=.fields vs/\vs[1]?=some (.str qual t)
noncomputable def LamOn (P:Addr)(line col:Nat)(qual:Str)(H:Hp)(c:Addr):Prop:=H P=some (.tbl #[rawInt line,rawInt col,.ref c])/\∃oc,H c=some (.frz oc (.own c))/\Zd4 qual oc
noncomputable def LamSt (P:Addr)(line col:Nat)(qual:Str)(H:Hp):Prop:=H P=some (.tbl #[])\/∃c,LamOn P line col qual H c
theorem LamOn.same {P:Addr}{line col:Nat}{qual:Str}{H H':Hp}{c:Addr}(h:LamOn P line col qual H c)(s:Same H H'):LamOn P line col qual H' c:=⟨s _ _ h.1,h.2.elim λoc z=>⟨oc,s _ _ z.1,z.2⟩⟩
theorem LamSt.same {P:Addr}{line col:Nat}{qual:Str}{H H':Hp}(h:LamSt P line col qual H)(s:Same H H'):LamSt P line col qual H':=h.imp (λe=>s _ _ e) λ⟨c,z⟩=>⟨c,z.same s⟩
section
variable {X:Cx}
noncomputable def ZgT (P:Addr)(qual:Str)(params:Arguments)(body:Expr)(scope:Scope)(clos:List (Str×Addr))(pos:Pos)(pm:Value):TE:=λσ H Q=>LamSt P pos.line pos.col qual H /\
 ∀(f c:Addr)(ctv:Value)(H':Hp),SameL P H H'->LamOn P pos.line pos.col qual H' c->H f=none->H' f=some (.frz (W.kla_obj "<lambda>" qual params body scope clos pm c ctv) (.own f))->Q (.ref f) H'
theorem Zd5 {params:Arguments}{body:Expr}{scope:Scope}{pos:Pos}{clos:List (Str×Addr)}{c P:Addr}{qual:Str}(hcl:closureFor scope X.env=pure clos)(hcode:X.env.code=.ref c)(C:W.CodeHd X.base c P)(hb:X.base.BuiltinsAt X.mg P)(hq:X.env.qual ++ "<lambda>" = qual)(hdef:defaultsOf params X.env=([],[]):=by rfl):PE X (.Lambda params body scope pos) (ZgT P qual params body scope clos pos ((X.mg "__name__").getD .none)):=by
 intro qQ s σ H Q I h;obtain ⟨st,q⟩:=h;refine W.kla_eval hdef ?_;rw [hq];have hg:s.heap.Ns mainGlobals X.mg:=I.ok.mod.glob.keeps I.bk;have hB:s.heap.BuiltinsAt X.mg P:=by
  obtain ⟨bm,o,h1,h2,h3,h4,h5,h6⟩:=hb;exact ⟨bm,o,h1,h2,h3,h4,I.bk _ _ h5,h6⟩
 rcases st with e0 | ⟨c',e1,oc,e2,vs,tq,hd,hv⟩
 ·have hP:s.heap.get? P=some (W.tabObj #[]):=I.hok P _ e0;have hgP:mainGlobals≠P:=λz=>by
   obtain ⟨o,es,ep,e,hd,_⟩:=hg;rw [z,hP] at e;cases e;cases hd
  refine W.kla_makeFunction (mg:=X.mg) hcl I.ok.glob hg hcode (C.keeps I.bk) hP trivial rfl hgP hB λc' ctv h' tk hx hge hlt hrec htb=>?_;obtain ⟨c2,oc,vs,tq,ec,hoc,hd,hv⟩:=hrec;cases ec;have hcP:c'≠P:=λz=>by rw [z] at hge;exact Ycb _ (Ybi (Yah hP) hge)
  have hlP:P<h'.objs.size:=Yah htb;have nc:H c'=none:=I.hok.fresh hge;have hsz:s.heap.objs.size<=h'.objs.size:=Ybr hge (Nat.le_of_lt hlt);have nf:H h'.objs.size=none:=I.hok.fresh hsz;have hcf:c'≠h'.objs.size:=Yam hlt;have hPf:P≠h'.objs.size:=Yam hlP;generalize hH':upd (upd (upd H P (.tbl #[rawInt pos.line,rawInt pos.col,.ref c'])) c' (.frz oc (.own c'))) h'.objs.size (.frz (W.kla_obj "<lambda>" qual params body scope clos ((X.mg "__name__").getD .none) c' ctv) (.own h'.objs.size))=H';have aP:H' P=some (.tbl #[rawInt pos.line,rawInt pos.col,.ref c']):=by rw [<-hH',Gi hPf,Gi (Ne.symm hcP),Gb]
  have ac:H' c'=some (.frz oc (.own c')):=by rw [<-hH',Gi hcf,Gb]
  have af:H' h'.objs.size=some (.frz (W.kla_obj "<lambda>" qual params body scope clos ((X.mg "__name__").getD .none) c' ctv) (.own h'.objs.size)):=by rw [<-hH',Gb]
  have ao:∀b,b≠P->b≠c'->b≠h'.objs.size->H' b=H b:=λb h1 h2 h3=>by rw [<-hH',Gi h3,Gi h2,Gi h1]
  have sl:SameL P H H':=λb o hb e=>by
   rw [ao b hb (λz=>by rw [z,nc] at e;cases e) (λz=>by rw [z,nf] at e;cases e)];exact e
  have kp:∀b o,b≠P->s.heap.get? b=some o->(h'.push (W.kla_obj "<lambda>" qual params body scope clos ((X.mg "__name__").getD .none) c' ctv)).get? b=some o:=λb o hb e=>Yag _ (hx b o hb e);have nP:∀b,H b=none->b≠P:=λb n z=>by rw [z,e0] at n;cases n
  have I':Inv X qQ σ H' { s with heap:=h'.push (W.kla_obj "<lambda>" qual params body scope clos ((X.mg "__name__").getD .none) c' ctv),toks:=tk }:=by
   refine I.un ⟨λb o e n _ _=>kp b o (nP b n) e,λb o e n _ _=>⟨o.slots,kp b o (nP b n) e⟩,λb o e n _=>?_,λb o e _=>?_,λb ys e=>sl b _ (λz=>by rw [z,e0] at e;cases e) e,λb o u e=>sl b _ (λz=>by rw [z,e0] at e;cases e) e,λb ps e=>?_⟩ λb o e=>?_
   ·rw [ao b (nP b n) (Yam (Ybi (Yah e) hge)) (Yam (Ybi (Yah e) hsz))];exact n
   ·by_cases z:b=P
    ·rw [z];exact ⟨_,Yag _ htb⟩
    ·exact ⟨o,kp b o z e⟩
   ·by_cases z:b=P
    ·rw [z,e0] at e;cases e;exact ⟨_,by rw [z];simpa using aP⟩
    ·exact ⟨#[],by rw [sl b _ z e];simp⟩
   ·by_cases z:b=P
    ·rw [z,aP] at e;cases e;rw [z];exact Yag _ htb
    ·by_cases z2:b=c'
     ·rw [z2,ac] at e;cases e;rw [z2];exact ⟨Yag _ hoc,_,Yag _ hoc⟩
     ·by_cases z3:b=h'.objs.size
      ·rw [z3,af] at e;cases e;rw [z3];exact ⟨Yay _ rfl,_,Yay _ rfl⟩
      ·rw [ao b z z2 z3] at e;refine (I.hok b o e).stay (λd u hd qd=>kp d u ?_ qd) (λd qd=>sl d _ (λy=>by rw [y,e0] at qd;cases qd) qd) λd ys qd=>sl d _ (λy=>by rw [y,e0] at qd;cases qd) qd;rcases hd with rfl | hd
       ·exact z
       ·exact λy=>by rw [y,e0] at hd;cases hd
  exact ⟨.ref h'.objs.size,H',I',rfl,q _ c' ctv H' sl ⟨aP,oc,ac,vs,tq,hd,hv⟩ nf af⟩
 ·have hP:s.heap.get? P=some (W.tabObj #[rawInt pos.line,rawInt pos.col,.ref c']):=I.hok P _ e1;refine W.kla_makeFunctionHit (cv:=.ref c') (mg:=X.mg) hcl I.ok.glob hg hcode (C.keeps I.bk) hP trivial ?_ hB λctv h' tk hk hsz=>?_
  ·simp [codeAmong,rawInt]
  ·have nf:H h'.objs.size=none:=I.hok.fresh hsz;have I':=I.laid (a:=h'.objs.size) (o:=.frz (W.kla_obj "<lambda>" qual params body scope clos ((X.mg "__name__").getD .none) c' ctv) (.own h'.objs.size)) (h':=h'.push (W.kla_obj "<lambda>" qual params body scope clos ((X.mg "__name__").getD .none) c' ctv)) (t':=tk) (λb o e=>Yag _ (hk b o e)) hsz ⟨Yay _ rfl,_,Yay _ rfl⟩;have sm:Same H (upd H h'.objs.size (.frz (W.kla_obj "<lambda>" qual params body scope clos ((X.mg "__name__").getD .none) c' ctv) (.own h'.objs.size))):=Same.new nf;exact ⟨.ref h'.objs.size,_,I',rfl,q _ c' ctv _ (.of sm) (LamOn.same ⟨e1,oc,e2,vs,tq,hd,hv⟩ sm) nf Gb⟩
theorem YA {id:String}{ks:List Str}{r:St->List V->List V->Hp->VK->Prop}{x:Str}{p pos:Pos}{e:Expr}{es:List Expr}{kws:List Keyword}{t tk:TA}(hc:∀(qQ:List (Addr×Obj))(s:Shared)(σ:St)(H:Hp)(xs:List V)(us:List Value)(zs:List V)(ws:List Value)(Q:VK),Inv X qQ σ H s->Vals xs us->Vals zs ws->r σ xs zs H Q->wpAny (model X.prog X.w) X.A (call (.builtin id) us (ks.zip ws)) (EP X qQ σ Q) X.xe s)(hg:Gl X x)(hm:X.mg x=none)(hv:bootBuiltins x=some (.builtin id))(ha:PA X (e::es) t)(hkw:PK X kws tk)(hks:(backToKw pos (keywordEach kws X.env)).filterMap (·.1)=ks:=by rfl)(hn:x ≠ "__name__" := by decide)(hdb:(x == ("__debug__" : Str))=false:=by decide)(he:backTo pos (starEach (e::es) X.env)=(false,eval e X.env)::backTo pos (starEach es X.env):=by rfl)(hpl:(backTo pos (starEach (e::es) X.env)).any (·.1)=false:=by rfl)(qK:(backToKw pos (keywordEach kws X.env)).all (·.1.isSome)=true:=by rfl)(hno:(backToKw pos (keywordEach kws X.env)).any (·.1.isNone)=false:=by rfl) :
  PE X (.Call (.Name x p) (e::es) kws pos) (λσ H Q=>t σ H λvs H1=>tk σ H1 λzs H2=>r σ vs zs H2 Q):=by
 intro qQ s σ H Q I h;refine Ydw (Op I hg hm hv ?_ hn hdb);refine PyProof.Rows.callWith_kw (thn (ha pos qQ s σ H _ I h) λus s1 ⟨vs,H1,I1,r1,q1⟩=>thn (hkw pos qQ s1 σ H1 _ I1 q1) λws s2 ⟨zs,H2,I2,r2,q2⟩=>?_) he hpl qK hno;rw [hks];exact hc qQ s2 σ H2 vs us zs ws Q I2 r1 r2 q2
end
noncomputable def Zc0 (P:Addr)(H:Hp):Prop:=∀b,b≠P->H b=none\/∃o xs,H b=some (.frz o (.lst xs))
theorem Z6 {Pr:Program}{w:World}{K:W.Frag}{mg mb:Str->Option Value}{CX:CXT}{k:Nat}{fa a c P:Addr}{fd:FuncData}{x:Str}{sp:Sp}{s₁:Shared}{vs:List Value}{ns:List Int}(KX:K.In s₁.heap)(hns:s₁.heap.Ns mainGlobals mg)(hb:s₁.heap.Ns builtinsNs mb)(hbb:∀x:Str,x ≠ "__name__" -> mb x=bootBuiltins x)(hlim:s₁.heap.NoLimit)(hg:s₁.gens=#[])(C:W.CodeHd s₁.heap c P)(hP:s₁.heap.get? P=some (W.tabObj #[]))(hKP:K.lookup P=none)(hB:s₁.heap.BuiltinsAt mg P)(ha:s₁.heap.get? a=some { cls:=.type "list", data:=.seq vs.toArray })(hi:IntsAre vs ns)(hl:ns.length<=sizeLine)(hr:Room k callerA)(F:∀base:Heap,K.In base->base.Ns mainGlobals mg->W.CodeHd base c P->base.BuiltinsAt mg P->G7 Pr w K mg base CX k fa fd [x] sp)(hbind:∀(s:Shared)(u:Value),BindsTo s fd ⟨[u],[]⟩ [(x,u)])(hsp:∀H:Hp,Zc0 P H->H P=some (.tbl #[])->SqL K H a (ns.map V.int)->sp [.ref a] H (λv _=>v=.bl true) λ_ _ _=>False)(hCX:∀H e s',CX [] H s₁ (λ_ _ _=>False) e s'->False) :
  codeAny (model Pr w) callerA (.call (.ref fa) ⟨[.ref a],[]⟩) (λr s'=>r=.ok (.ret (.bool true))/\OldK s₁.heap s'.heap/\s'.os=s₁.os/\AllBare s'.gens) s₁:=by
 have rv:=V8 hi;have lenV:=hi.length;have naP:a≠P:=λz=>by rw [z,hP] at ha;cases ha
 have core:∀H:Hp,Zc0 P H->H P=some (.tbl #[])->SqL K H a (ns.map V.int)->HOk Pr w H s₁.heap->(∀b,H b≠none->b=a\/b=P)->(H a≠none->K.lookup a=none) ->
   codeAny (model Pr w) callerA (.call (.ref fa) ⟨[.ref a],[]⟩) (λr s'=>r=.ok (.ret (.bool true))/\OldK s₁.heap s'.heap/\s'.os=s₁.os/\AllBare s'.gens) s₁:=by
  intro H hO hHP hS hok hA hK;have base_of:∀{b:Addr}{o:Obj},s₁.heap.get? b=some o->H b=none->(YT s₁.heap H).get? b=some o:=λe n=>ZaI e n;have noA:∀{b:Addr}{o:Obj},s₁.heap.get? b=some o->o.cls≠.type "list" -> o.cls≠.none->H b=none:=λ{b o} e d1 d2=>by
   cases q:H b with
   | none=>rfl
   | some u=>
    rcases hA b (by rw [q];simp) with e' | e'
    ·rw [e',ha] at e;cases e;exact absurd rfl d1
    ·rw [e',hP] at e;cases e;exact absurd rfl d2
  have noD:∀{b:Addr}{o:Obj}{es:Array DictEntry}{ep:Nat},s₁.heap.get? b=some o->o.data=.dict es ep->H b=none:=λ{b o es ep} e d=>by
   cases q:H b with
   | none=>rfl
   | some u=>
    rcases hA b (by rw [q];simp) with e' | e'
    ·rw [e',ha] at e;cases e;cases d
    ·rw [e',hP] at e;cases e;cases d
  have nsK:∀{b:Addr}{m:Str->Option Value},s₁.heap.Ns b m->(YT s₁.heap H).Ns b m:=λ{b m} ⟨o,es,ep,e,d,r⟩=>⟨o,es,ep,base_of e (noD e d),d,r⟩;have hKb:K.In (YT s₁.heap H):=λb o e=>base_of (KX b o e) (by
   cases q:H b with
   | none=>rfl
   | some u=>
    rcases hA b (by rw [q];simp) with e' | e'
    ·subst e';rw [hK (by rw [q];simp)] at e;cases e
    ·subst e';rw [hKP] at e;cases e)
  have hM:Mod K mg (YT s₁.heap H):=⟨hKb,nsK hns,⟨mb,nsK hb,hbb⟩,let ⟨mc,h1,h2⟩:=hlim;⟨mc,nsK h1,h2⟩⟩;have e0:Env0 Pr w K mg (YT s₁.heap H) callerA [] s₁ H:=⟨rfl,hM,λb o e=>Zck e,Nat.le_of_eq (YU _ _),trivial,λb hb=>absurd (show b∈([]:List Addr) from hb) (by simp),hok,.of_eq hg⟩;have Cb:W.CodeHd (YT s₁.heap H) c P:=by
   obtain ⟨o,ws,file,tf,flags,tg,inF,text,tt,e1,r1,r2⟩:=C;exact ⟨o,ws,file,tf,flags,tg,inF,text,tt,base_of e1 (noA e1 (by rw [r1];decide) (by rw [r1];nofun)),r1,r2⟩
  have Bb:(YT s₁.heap H).BuiltinsAt mg P:=by
   obtain ⟨bm,o,h1,h2,h3,h4,h5,h6,h7⟩:=hB;exact ⟨bm,o,h1,h2,h3,h4,base_of h5 (noA h5 (by rw [h6];decide) (by rw [h6];nofun)),h6,h7⟩
  refine codeAny_mono ((F _ hKb (nsK hns) Cb Bb).run callerA [] s₁ H ⟨[.ref a],[]⟩ [.ref a] [.ref a] _ _ hr e0 (hbind s₁ (.ref a)) (.cons rfl .nil) (hsp H hO hHP hS)) λr s' h=>?_;cases r with
  | error e=>exact (hCX H e s' h).elim
  | ok fl=>
   cases fl with
   | next=>exact False.elim h
   | brk=>exact False.elim h
   | cont=>exact False.elim h
   | ret u=>
    obtain ⟨v,H',os,bare,un,hok',r',q⟩:=h;have q':v=.bl true:=q;subst q';obtain rfl:u=Value.bool true:=r';obtain ⟨more,eP⟩:=un.tbls P _ hHP;have hP':s'.heap.get? P=some { cls:=.none,data:=.fields (#[]++more) }:=hok' P _ eP;have kp:∀b o,b≠P->s₁.heap.get? b=some o->s'.heap.get? b=some o:=λb o hbP e=>by
     cases q:H b with
     | none=>exact un.keep b o e q (by intro z;exact absurd (show b∈([]:List Addr) from z) (by simp)) (by simp)
     | some u=>
      rcases hO b hbP with z | ⟨ob,xs,z⟩
      ·rw [q] at z;cases z
      ·have z2:=un.frzs b ob _ z;obtain ⟨e1,_⟩:=hok b _ z;obtain ⟨e2,_⟩:=hok' b _ z2;rw [e] at e1;cases e1;exact e2
    refine ⟨rfl,⟨λb o e=>?_,λb o e=>?_⟩,os,bare⟩
    ·by_cases hbP:b=P
     ·subst hbP;rw [hP] at e;cases e;exact .inr (.inl ⟨(C.tab hP).isCodeTable,rfl,#[],more,rfl,hP'⟩)
     ·exact .inl (kp b o hbP e)
    ·by_cases hbP:b=P
     ·rw [hbP];exact ⟨_,hP'⟩
     ·exact ⟨o,kp b o hbP e⟩
 cases hk:K.lookup a with
 | some o=>
  have e:=KX a o hk;rw [ha] at e;cases e;refine core (λb=>if b=P then some (.tbl #[]) else none) (λb hb=>.inl (if_neg hb)) (if_pos rfl) (.inr ⟨_,vs.toArray,_,hk,rfl,rfl,rfl,by rw [Yan,lenV];exact hl,by simpa using rv⟩) (λb u z=>?_) (λb z=>?_) λz=>absurd (if_neg naP) z
  ·by_cases hb:b=P
   ·have z':=(if_pos hb).symm.trans z;cases z';rw [hb];exact hP
   ·have z':=(if_neg hb).symm.trans z;cases z'
  ·by_cases hb:b=P
   ·exact .inr hb
   ·exact absurd (if_neg hb) z
 | none=>
  refine core (λb=>if b=P then some (.tbl #[]) else if b=a then some (.frz { cls:=.type "list", data:=.seq vs.toArray } (.lst (ns.map V.int))) else none) (λb hb=>?_) (if_pos rfl) (.inl (.inr ⟨{ cls:=.type "list", data:=.seq vs.toArray },(if_neg naP).trans (if_pos rfl)⟩)) (λb u z=>?_) (λb z=>?_) λ_=>hk
  ·by_cases hb2:b=a
   ·exact .inr ⟨_,_,(if_neg hb).trans (if_pos hb2)⟩
   ·exact .inl ((if_neg hb).trans (if_neg hb2))
  ·by_cases hb:b=P
   ·have z':=(if_pos hb).symm.trans z;cases z';rw [hb];exact hP
   ·by_cases hb2:b=a
    ·have z':=((if_neg hb).trans (if_pos hb2)).symm.trans z;cases z';subst hb2;exact ⟨ha,by rw [Yad];exact hl,vs,_,rv,ha⟩
    ·have z':=((if_neg hb).trans (if_neg hb2)).symm.trans z;cases z'
  ·by_cases hb:b=P
   ·exact .inr hb
   ·by_cases hb2:b=a
    ·exact .inl hb2
    ·exact absurd ((if_neg hb).trans (if_neg hb2)) z
theorem walk_ofT {l:W.OpenLaw}{n k:Nat}{q:Program}{loose:List Str}{XP:(Str->Option Value)->Heap->Prop}{YP:World->Heap->Prop}{d dd:DefRec}{K:Params->W.Frag}{CX:World->CXT}{sp:World->Addr->Sp}{x tn:Str}(hn:l.most=some n)(hn2:n<=sizeLine)(hdf:d.params.defaults=[])(hr:Room k callerA)(hY:∀(w:World)(h:Heap),YP w h->(K w.params).In h)(hrec:(recsOf q).find? (λe=>e.name == tn)=some dd)(F:∀(w:World)(mg:Str->Option Value)(fa:Addr)(h:Heap),(K w.params).In h->h.Ns mainGlobals mg->mg d.name=some (.ref fa) ->
   ∃(fd:FuncData)(c P:Addr),W.tabIn (K w.params) tn=some (c,P)/\(K w.params).lookup P=none/\(∀(s:Shared)(u:Value),BindsTo s fd ⟨[u],[]⟩ [(x,u)]) /\
    ∀base:Heap,(K w.params).In base->base.Ns mainGlobals mg->W.CodeHd base c P->base.BuiltinsAt mg P->G7 l.prog w (K w.params) mg base (CX w) k fa fd [x] (sp w P))(hsp:∀(w:World)(P:Addr)(H:Hp)(a:Addr)(ns:List Int),ns.length<=n->Zc0 P H->H P=some (.tbl #[])->SqL (K w.params) H a (ns.map V.int)->sp w P [.ref a] H (λv _=>v=.bl true) λ_ _ _=>False)(hCX:∀(w:World)(H:Hp)(s:Shared)(e:Value)(s':Shared),CX w [] H s (λ_ _ _=>False) e s'->False) :
  W.WalkO q loose XP YP l.row.toRowW d [] (λf vs=>PySem.call f vs):=by
 refine Att.attach_call hn hdf λw s₀ s₁ mg mb fa o pm cd doc a vs ns G Y ho hd hcd hmg hobj hints qV hg=>?_;have KX:=hY w _ Y;obtain ⟨fd,c,P,htab,hKP,hb,hF⟩:=F w mg fa _ KX G.T.g hmg;obtain ⟨C,hP⟩:=W.tab_of G.T KX hrec htab;have hB:s₁.heap.BuiltinsAt mg P:=by
  obtain ⟨bm,ob,b1,b2,b3,b4,b5,b6⟩:=G.T.bmain;refine ⟨bm,ob,b1,b2,λz=>?_,λz=>?_,b3,b4,b5,b6⟩
  ·obtain ⟨o',es,ep,e,hd',_⟩:=G.T.g;rw [z,e] at b3;cases b3;rw [hd'] at b6;cases b6
  ·rw [z,hP] at b3;cases b3;cases b4
 exact Z6 KX G.T.g G.T.b G.T.builtins G.T.nolimit hg C hP hKP hB hobj hints (Ybr qV hn2) hr hF hb (λH hO hT hS=>hsp w P H a ns qV hO hT hS) λH e s'=>hCX w H s₁ e s'
section
variable {P:Program}{w:World}{K:W.Frag}{mg:Str->Option Value}{base:Heap}
theorem SameL.lst {P:Addr}{H H':Hp}{a:Addr}{xs:List V}{ps:Array Value}(s:SameL P H H')(hP:H P=some (.tbl ps))(e:H a=some (.lst xs)):H' a=some (.lst xs):=s a _ (λz=>by rw [z,hP] at e;cases e) e
theorem LamSt.tbl {P:Addr}{line col:Nat}{qual:Str}{H:Hp}(h:LamSt P line col qual H):∃ps,H P=some (.tbl ps):=by
 rcases h with h | ⟨c,h,_⟩
 ·exact ⟨_,h⟩
 ·exact ⟨_,h⟩
theorem SameL.free {P p:Addr}{H H':Hp}{ps:Array Value}(s:SameL P H H')(hP:H P=some (.tbl ps))(hP':∃qs,H' P=some (.tbl qs))(h:H' p=none):H p=none:=by
 cases e:H p with
 | none=>rfl
 | some o=>
  by_cases z:p=P
  ·obtain ⟨qs,e'⟩:=hP';rw [z,e'] at h;cases h
  ·rw [s p o z e] at h;cases h
end
end L2
namespace L2
open PySem PySem.Spec PyProof.Rows Classical
section
variable {prog:Program}{w:World}{A:Around}{E:EX}{s:Shared}{b:Keyed->Keyed->Bool}{good:Keyed->Prop}
theorem Z7 (h:∀x y,good x->good y->∀{E':EX}{Q:Bool->Shared->Prop},Q (b x y) s->wpAny (model prog w) A (keyLt' (tuples' true) x.1 y.1) Q E' s):Oo (model prog w) A E s (tuples' true) b good:=by
 intro x y st Q gx gy hs q;rw [lt'_eq];refine Yac (wpS_get ?_);refine Yac (wpS_lift ?_);rw [hs];exact Ydq (h x y gx gy ⟨rfl,Yaf q⟩)
theorem VE {Q:Bool->Shared->Prop}{fin:Bool}:∀{xs ys:List Value}{ns ms:List Int}(i:Nat),IntsAre xs ns->IntsAre ys ms->fin=decide (ns.length<ms.length)->Q (GM ns ms) s->W.KatLex prog w A true fin Q (xs.zip ys) i s
 | _,_,_,_,i,.nil,hy,hf,q=>by
  refine W.kat_nil ?_;cases hy with
  | nil=>rw [hf];exact q
  | cons m u hy=>rw [hf];simpa [GM] using q
 | _,_,_,_,i,.cons n t hx,.nil,hf,q=>by
  refine W.kat_nil ?_;rw [hf];simpa [GM] using q
 | _,_,_,_,i,.cons (vs:=xs) (ns:=ns) n t hx,.cons (vs:=ys) (ns:=ms) m u hy,hf,q=>by
  rw [List.zip_cons_cons];refine W.kat_cons (wpAny_eqBool_int ?_);unfold GM at q;refine W.kat_go (λhe=>W.kat_yes (VE (i+1) hx hy ?_ ?_)) λhe=>W.kat_no ?_
  ·rw [hf];simp
  ·have he:n=m:=by simpa using he
   rw [if_pos he] at q;exact q
  ·have he:n≠m:=by simpa using he
   rw [if_neg he] at q;cases hc:(true && i == 0) with
   | true=>exact oneLt_int q
   | false=>exact W.kat_one _ _ (PyProof.Rows.lt_int q)
noncomputable def Zby (h:Heap)(v:Value):List Int:=if q:∃ns a its,v=.ref a/\h.IsTuple a its/\IntsAre its.toList ns then choose q else []
theorem WV {h:Heap}{a:Addr}{xs ys:Array Value}(h1:h.IsTuple a xs)(h2:h.IsTuple a ys):xs=ys:=by
 obtain ⟨o,e,_,n,d⟩:=h1;obtain ⟨o',e',_,n',d'⟩:=h2;rw [e] at e';cases e';rw [d] at d';cases d'
 rfl
theorem J1 {h:Heap}{a:Addr}{its:Array Value}{ns:List Int}(hl:h.IsTuple a its)(hi:IntsAre its.toList ns):Zby h (.ref a)=ns:=by
 have q:∃ns a' its,Value.ref a=.ref a'/\h.IsTuple a' its/\IntsAre its.toList ns:=⟨ns,a,its,rfl,hl,hi⟩;unfold Zby;rw [dif_pos q];obtain ⟨a',its',e,h1,h2⟩:=choose_spec q;cases e;have:=WV hl h1;subst this;exact VA h2 hi
theorem Zb9 (h:Heap):WO (λx y=>GM (Zby h x.1) (Zby h y.1)):=Z5 (κ:=λx:Keyed=>Zby h x.1) (lt:=GM) Jg OW OH
end
section
variable {X:Cx}(K:W.Frag)
end
end L2
namespace L2
open PySem PySem.Spec PyProof.Rows
section
variable (P:Program)(w:World)
noncomputable def VF (h:Heap)(row:List Int)(v:Value):Prop:=∃b,v=.ref b/\IsTupleKey (intKind P w) h row b
noncomputable def O2 (h:Heap)(k:List (List Int))(a:Addr):Prop:=∃o vs n,h.get? a=some o/\o.cls=.type "tuple" /\ o.data=.seq vs n/\Paired (VF P w h) k vs.toList
noncomputable def VG (k:List (List Int)):Int:=reduceHash (Builtin.Tuple.tupleHashOf (k.map (tupleKeyHash (intKind P w))))
end
section
variable {P:Program}{w:World}{A:Around}{E:EX}{s:Shared}{h h':Heap}
theorem XH:∀{k l:List (List Int)}{vs:List Value},Paired (VF P w h) k vs->Paired (VF P w h) l vs->k=l
 | _,_,_,.nil,.nil=>rfl
 | _,_,_,.cons ⟨b,e,x⟩ r,.cons ⟨c,e',y⟩ t=>by
  rw [e] at e';cases e';rw [x.inj y,XH r t]
theorem Wv (hu:A.units<cLine):∀{k:List (List Int)}{vs:List Value}{b:Array Int}{s:Shared}{Q:Array Int->Shared->Prop},Paired (VF P w s.heap) k vs ->
  (∀b':Array Int,b'.toList=b.toList++k.map (tupleKeyHash (intKind P w))->Q b' { s with toks:=s.toks+(k.map λr=>r.length+1).sum }) ->
  wpAny (model P w) A (forIn vs b λx r=>do let h <- pyHash x;pure PUnit.unit;pure (ForInStep.yield (r.push h))) Q E s
 | _,_,b,s,Q,.nil,q=>by
  rw [List.forIn_nil];exact Yab (by simpa using q b (by simp))
 | _,_,b,s,Q,.cons (a:=row) (l₁:=k) ⟨c,e,x⟩ r,q=>by
  subst e;rw [List.forIn_cons];refine Yaa (Yaa (wpAny_pyHash_tuple hu x (Yaa (Yab (Yab ?_)))));refine Wv hu (s:={ s with toks:=s.toks+(row.length+1) }) r λb' hb=>?_;have:=q b' (by rw [hb];simp);simpa [Nat.add_assoc] using this
theorem WW {k:List (List Int)}{a:Addr}{Q:Int->Shared->Prop}(hu:A.units+70<cLine)(x:O2 P w s.heap k a)(q:Q (VG P w k) { s with toks:=s.toks+((k.map λr=>r.length+1).sum+1) }) :
  wpAny (model P w) A (pyHash (.ref a)) Q E s:=by
 obtain ⟨o,vs,n,ho,hc,hd,r⟩:=x;refine W.pyHash_slot (T := "tuple") ⟨o,ho,hc⟩ F.slot_tuple_hash F.entry_tuple_hash (F.args_tuple_hash_1 _) (beq_builtin_none _) (.inr (by lia)) ?_;show wpAny (model P w) A.in1 (Builtin.Tuple.tupleItemsOf (.ref a) >>= _) _ E s;refine Yaa (wpAny_tupleItemsOf ho hd (Yaa ?_));rw [<-Array.forIn_toList];refine Wv (by rw [Ydr];lia) r λb' hb=>?_;show wpAny _ _ (retInt (Builtin.Tuple.tupleHashOf b'.toList)) _ _ _;refine Yaa (wpAny_mkInt (Yab ⟨_,_,rfl,?_⟩));rw [hb];simpa [VG,Nat.add_assoc] using q
noncomputable def O3 (row:List Int):PyData:=.tuple (row.map PyData.int)
theorem YB {its:List Value}{row:List Int}(x:ItemsAre (intKind P w) row its):∃as,ReadsAll h its (row.map PyData.int) as:=by
 induction x with
 | nil=>exact ⟨_,.nil⟩
 | @cons k v ks vs h1 _ ih=>
  obtain ⟨as,r⟩:=ih;obtain ⟨t,rfl⟩:∃t,v=.int k t:=by
   cases v <;> simp [intKind,Value.isInt] at h1;subst h1;exact ⟨_,rfl⟩
  exact ⟨_,.cons (.int _ _) r⟩
theorem Z8 {row:List Int}{v:Value}(x:VF P w h row v):∃as,Reads h v (O3 row) as:=by
 obtain ⟨b,rfl,o,its,n,h1,h2,h3,h4⟩:=x;obtain ⟨as,r⟩:=YB (h:=h) h4;exact ⟨as,.tuple h1 h2 h3 r⟩
theorem OX:∀{k:List (List Int)}{vs:List Value},Paired (VF P w h) k vs->∃as,ReadsAll h vs (k.map O3) as
 | _,_,.nil=>⟨_,.nil⟩
 | _,_,.cons x r=>by
  obtain ⟨as,h1⟩:=Z8 x;obtain ⟨bs,h2⟩:=OX r;exact ⟨_,.cons h1 h2⟩
theorem XI (row:List Int):PyData.canLay0 (O3 row)=true:=by
 unfold O3;simp only [PyData.canLay0];exact Ug row
theorem Uo:∀k:List (List Int),PyData.canLayAll0 (k.map O3)=true
 | []=>by simp [PyData.canLayAll0]
 | r::k=>by
  rw [Yap];simp [PyData.canLayAll0,XI r,Uo k]
theorem OY:∀k:List (List Int),PyData.depthAll (k.map O3)<=2
 | []=>by simp [PyData.depthAll]
 | r::k=>by
  have ih:=OY k;have:=Jp r;rw [Yap];simp only [PyData.depthAll,O3,PyData.depth]
  lia
theorem VH (r q:List Int):PyData.eqv (O3 r) (O3 q)=decide (r=q):=by
 have:=Uh r q;unfold O3;simp only [PyData.eqv] at this ⊢;exact this
theorem UF:∀k l:List (List Int),PyData.eqvAll (k.map O3) (l.map O3)=decide (k=l)
 | [],[]=>by simp [PyData.eqvAll]
 | [],_::_=>by simp [PyData.eqvAll]
 | _::_,[]=>by simp [PyData.eqvAll]
 | r::k,q::l=>by
  rw [Yap,Yap];simp only [PyData.eqvAll,VH,UF k l];by_cases e1:r=q <;> by_cases e2:k=l <;> simp [e1,e2]
theorem XJ (k l:List (List Int)):PyData.eqv (.tuple (k.map O3)) (.tuple (l.map O3))=decide (k=l):=by
 simp only [PyData.eqv,UF]
theorem WX {k l:List (List Int)}{a b:Addr}{Q:Bool->Shared->Prop}(hu:A.units+70<cLine)(x:O2 P w s.heap k a)(y:O2 P w s.heap l b)(q:Q (decide (k=l)) s) :
  wpAny (model P w) A (eqBool (.ref a) (.ref b)) Q E s:=by
 obtain ⟨o,vs,n,ho,hc,hd,r⟩:=x;obtain ⟨o',vs',n',ho',hc',hd',r'⟩:=y;obtain ⟨as,h1⟩:=OX r;obtain ⟨bs,h2⟩:=OX r';have e:=SeqAt.eqAt_reads (.tuple (k.map O3)) (.tuple (l.map O3)) A s (.ref a) (.ref b) as bs (.tuple ho hc hd h1) (.tuple ho' hc' hd' h2) (by simp only [PyData.canLay0];exact Uo k) (by simp only [PyData.canLay0];exact Uo l) ?_
 ·rw [XJ] at e;exact e P w E Q q
 ·have d1:=OY k;simp only [PyData.depth]
  lia
theorem U5 {n:Nat}{Q:Option Bool×PUnit->Shared->Prop}(q:Q (none,⟨⟩) s):∀{vs:List Value},(∀v∈vs,∀{Q:Bool->Shared->Prop},Q true s->wpAny (model P w) A (eqIsQuiet n v) Q E s) ->
  wpAny (model P w) A (forIn vs ((none,⟨⟩):Option Bool×PUnit) λy r=>do if !(<- eqIsQuiet n y) then pure (ForInStep.done (some false,⟨⟩)) else pure (ForInStep.yield (none,⟨⟩))) Q E s
 | [],_=>by
  rw [List.forIn_nil];exact Yab q
 | v::vs,hv=>by
  rw [List.forIn_cons];refine Yaa (Yaa (hv v (Ybe ..) ?_));simp only [Bool.not_true,Ydy,if_false];exact Yab (U5 q λu hu=>hv u (Ybb _ hu))
theorem Ww {n m:Nat}{a:Addr}{o:Obj}{vs:Array Value}{Q:Bool->Shared->Prop}(ho:s.heap.get? a=some o)(hc:o.cls=.type "tuple")(hd:o.data=.seq vs m)(hv:∀v∈vs.toList,∀{Q:Bool->Shared->Prop},Q true s->wpAny (model P w) A (eqIsQuiet n v) Q E s)(q:Q true s):wpAny (model P w) A (eqIsQuiet (n+1) (.ref a)) Q E s:=by
 unfold eqIsQuiet;refine Yaa (wpAny_specialOf (⟨o,ho,hc⟩:s.TypeIs (.ref a) "tuple") F.slot_tuple_eq.lookup ?_);show wpAny _ _ (isInstance (.ref a) (.type "tuple") >>= _) _ _ s;refine Yaa (Yez (⟨o,ho,hc⟩:s.TypeIs (.ref a) "tuple") isSubtype_tuple_tuple ?_);simp only [Bool.not_true,Ydy,if_false];refine Yaa (wpAny_seqItems ho hd (Yaa ?_));show wpAny _ _ (forIn vs _ _) _ _ s;rw [<-Array.forIn_toList];exact U5 (Yab q) hv
theorem Z9 {n:Nat}{row:List Int}{its:List Value}{Q:Bool->Shared->Prop}(x:ItemsAre (intKind P w) row its):∀v∈its,∀{Q:Bool->Shared->Prop},Q true s->wpAny (model P w) A (eqIsQuiet n v) Q E s:=λv hv Q q=>by
 rw [eqIsQuiet_byValue n (x.byValue v hv)];exact Yab q
theorem YC {k:List (List Int)}{a:Addr}{Q:Bool->Shared->Prop}(x:O2 P w s.heap k a)(q:Q true s):wpAny (model P w) A (eqIsQuiet 8 (.ref a)) Q E s:=by
 obtain ⟨o,vs,n,ho,hc,hd,r⟩:=x;refine Ww ho hc hd (λv hv Q q=>?_) q;have each:∀{k:List (List Int)}{vs:List Value},Paired (VF P w s.heap) k vs->∀v∈vs,∃row,VF P w s.heap row v:=by
  intro k vs r
  induction r with
  | nil=>intro v hv;cases hv
  | cons x _ ih=>
   intro v hv;rcases Yat.mp hv with rfl | hv
   ·exact ⟨_,x⟩
   ·exact ih v hv
 obtain ⟨row,b,rfl,o',its,m,h1,h2,h3,h4⟩:=each r v hv;exact Ww h1 h2 h3 (Z9 (Q:=λ_ _=>True) h4) q
theorem YD {k:List (List Int)}{a d:Addr}{o:Obj}{es ep}(x:O2 P w h k a)(ho:h.get? d=some o)(hd:o.data=.dict es ep)(hs:Heap.SameBut d h h'):O2 P w h' k a:=by
 obtain ⟨o',vs,n,h1,h2,h3,r⟩:=x;have ne:a≠d:=λz=>by
  rw [z,ho] at h1;cases h1;rw [hd] at h3;cases h3
 refine ⟨o',vs,n,(hs.2 a ne).trans h1,h2,h3,?_⟩;refine Paired.mapP r λrow v z=>?_;obtain ⟨b,e,y⟩:=z;exact ⟨b,e,y.keeps ho hd hs⟩
end
noncomputable def XM (P:Program)(w:World):HeapKind P w (List (List Int)) where
 is:=O2 P w
 hash:=VG P w
 draws:=λk=>(k.map λr=>r.length+1).sum+1
 room:=λA=>A.units+70<cLine
 inj:=λ{h a x y} hx hy=>by
  obtain ⟨o,vs,n,h1,_,h3,r⟩:=hx;obtain ⟨o',vs',n',h1',_,h3',r'⟩:=hy;rw [h1] at h1';cases h1';rw [h3] at h3';cases h3';exact XH r r'
 keeps:=λx ho hd hs=>YD x ho hd hs
 pyHash:=λhu x q=>WW hu x q
 eqBool:=λhu x y q=>WX hu x y q
 quiet:=λx q=>YC x q
noncomputable def KeyTT (H:Hp)(b:Addr)(k:List (List Int)):Prop:=∃cs:List Addr,H b=some (.tup (cs.map V.ref))/\Paired (λ(row:List Int) (c:Addr)=>H c=some (.tup (row.map V.int))) k cs
theorem KeyTT.keep {H H':Hp}{b:Addr}{k:List (List Int)}(x:KeyTT H b k)(t:∀p ys,H p=some (.tup ys)->H' p=some (.tup ys)):KeyTT H' b k:=by
 obtain ⟨cs,h1,h2⟩:=x;exact ⟨cs,t _ _ h1,Paired.mapP h2 λ_ _ z=>t _ _ z⟩
theorem KeyTT.same {H H':Hp}{b:Addr}{k:List (List Int)}(x:KeyTT H b k)(s:Same H H'):KeyTT H' b k:=x.keep λp ys e=>s _ _ e
section
variable {P:Program}{w:World}{H:Hp}{h:Heap}{a:Addr}
theorem Zd6 {b:Addr}{k:List (List Int)}(ok:HOk P w H h)(x:KeyTT H b k):O2 P w h k b:=by
 obtain ⟨cs,h1,h2⟩:=x;obtain ⟨_,its,r,o,e1,e2,n,e3⟩:=(show ObjOk P w H h b (.tup (cs.map V.ref)) from ok b _ h1);refine ⟨o,its.toArray,n,e1,e2,e3,?_⟩;have row:∀{row:List Int}{c:Addr},H c=some (.tup (row.map V.int))->IsTupleKey (intKind P w) h row c:=λ{row c} e=>by
  obtain ⟨_,its,r,o,g1,g2,n,g3⟩:=(show ObjOk P w H h c (.tup (row.map V.int)) from ok c _ e);refine ⟨o,its.toArray,n,g1,g2,g3,?_⟩;have go:∀{row:List Int}{its:List Value},Vals (row.map V.int) its->ItemsAre (intKind P w) row its:=by
   intro row
   induction row with
   | nil=>intro its r;cases r;exact .nil
   | cons x row ih=>
    intro its r;rw [Yap] at r;cases r with
    | cons h t=>
     obtain ⟨tk,rfl⟩:=h;exact .cons (by simp [intKind,Value.isInt]) (ih t)
  simpa using go r
 have go:∀{k:List (List Int)}{cs:List Addr}{its:List Value},Paired (λ(row:List Int) (c:Addr)=>H c=some (.tup (row.map V.int))) k cs->Vals (cs.map V.ref) its->Paired (VF P w h) k its:=by
  intro k cs its p
  induction p generalizing its with
  | nil=>intro r;cases r;exact .nil
  | @cons a b l1 l2 e _ ih=>
   intro r;rw [Yap] at r;cases r with
   | cons hh t=>
    cases hh;exact .cons ⟨_,rfl,row e⟩ (ih t)
 simpa using go h2 r
end
section
variable {X:Cx}{qQ:List (Addr×Obj)}{σ:St}{H:Hp}{s:Shared}{a:Addr}{y v d:V}{u r:Value}{o:Option V}{A:Around}{E:EX}
theorem Zbz {P:Program}{w:World}(hu:A.units+71<cLine):(XM P w).room A.in1:=by
 show A.in1.units+70<cLine;rw [Ydr]
 lia
end
section
variable {X:Cx}{qQ:List (Addr×Obj)}{σ:St}{H:Hp}{s:Shared}{a:Addr}
end
section
variable (P:Program)(w:World)
end
section
variable {X:Cx}{P:Program}{w:World}{o i e f value:Expr}{pos pos' apos qG:Pos}{td ty tv tx tk:TE}
end
section
variable {X:Cx}
end
end L2
namespace L2
open PySem PySem.Spec PyProof.Rows Classical
section
variable {prog:Program}{w:World}{A:Around}{E:EX}{s:Shared}
theorem Zaa {β:Type}{f:Value×Value->β->Sem (ForInStep β)}{c0:β}{cR:Bool->β}{Q:β->Shared->Prop}(feq:∀(x:Int)(t u:Tok){Q:ForInStep β->Shared->Prop},Q (.yield c0) s->wpAny (model prog w) A (f (.int x t,.int x u) c0) Q E s)(fne:∀(x y:Int)(t u:Tok){Q:ForInStep β->Shared->Prop},x≠y->Q (.done (cR (decide (x<y)))) s->wpAny (model prog w) A (f (.int x t,.int y u) c0) Q E s) :
  ∀{xs ys:List Value}{ns ms:List Int},IntsAre xs ns->IntsAre ys ms->Q (cR (GM ns ms)) s->(decide (ns.length<ms.length)=GM ns ms->Q c0 s)->wpAny (model prog w) A (forIn (xs.zip ys) c0 f) Q E s
 | _,_,_,_,.nil,hy,_,q=>by
  rw [List.zip_nil_left,List.forIn_nil];refine Yab (q ?_);cases hy <;> simp [GM]
 | _,_,_,_,.cons n t hx,.nil,_,q=>by
  rw [List.zip_nil_right,List.forIn_nil];exact Yab (q (by simp [GM]))
 | _,_,_,_,.cons n t hx,.cons m u hy,q1,q2=>by
  rw [List.zip_cons_cons,List.forIn_cons];by_cases e:n=m
  ·subst e;refine Yaa (feq n t u ?_);dsimp only;unfold GM at q1 q2;rw [if_pos rfl] at q1 q2;exact Zaa feq fne hx hy q1 λz=>q2 (by rw [<-z];simp)
  ·refine Yaa (fne n m t u e ?_);dsimp only;unfold GM at q1;rw [if_neg e] at q1;exact Yab q1
theorem XN {a b:Addr}{xs ys:Array Value}{ns ms:List Int}{P:PySem.Fin->Shared->Prop}(ha:s.heap.IsTuple a xs)(hb:s.heap.IsTuple b ys)(hx:IntsAre xs.toList ns)(hy:IntsAre ys.toList ms)(h:P (.done (.ret (.bool (GM ns ms)))) s) :
  wpAny (model prog w) A (Builtin.«tuple.__lt__» ⟨[.ref a,.ref b],[]⟩) P E s:=by
 obtain ⟨oa,ga,ca,na,da⟩:=ha;obtain ⟨ob,gb,cb,nb,db⟩:=hb;show wpAny _ _ (isInstance (.ref b) (.type "tuple") >>= _) _ _ s;refine Yaa (Yez (T := "tuple") ⟨ob,gb,cb⟩ isSubtype_tuple_tuple ?_);simp only [Bool.not_true,Ydy,if_false];refine Yaa (wpAny_tupleItemsOf ga da (Yaa (wpAny_tupleItemsOf gb db (Yaa ?_))));refine Zaa (cR:=λc=>(some (PySem.Fin.done (.ret (.bool c))),())) ?_ ?_ hx hy ?_ ?_
 ·intro x t u Q q;refine Yaa (wpAny_eqBool_int ?_);rw [show (x == x)=true from Yex _];simp only [Bool.not_true,Ydy,if_false];exact Yab q
 ·intro x y t u Q hne q;refine Yaa (wpAny_eqBool_int ?_);rw [show (x == y)=false by rw [Ydk];exact hne];simp only [Bool.not_false,if_true];exact Yaa (Ycy (Yaa (lt_int (Yaa (Yab (Yab q))))))
 ·exact Yab h
 ·intro z;refine Yab ?_;have e:Builtin.Tuple.tupleCompareSizes .Lt xs.size ys.size=.bool (GM ns ms):=by
   rw [<-z,<-GV hx,<-GV hy,Yai,Yai]
   rfl
  show P (.done (.ret (Builtin.Tuple.tupleCompareSizes .Lt xs.size ys.size))) s;rw [e];exact h
theorem Zca {a b:Addr}{xs ys:Array Value}{ns ms:List Int}{Q:EX}(ha:s.heap.IsTuple a xs)(hb:s.heap.IsTuple b ys)(hx:IntsAre xs.toList ns)(hy:IntsAre ys.toList ms)(hu:A.units<cLine)(h:Q (.bool (GM ns ms)) s):wpAny (model prog w) A (richCompare .Lt (.ref a) (.ref b)) Q E s:=by
 have Ta:s.TypeIs (.ref a) "tuple" := ha.elim λo z=>⟨o,z.1,z.2.1⟩;have Tb:s.TypeIs (.ref b) "tuple" := hb.elim λo z=>⟨o,z.1,z.2.1⟩;exact wpAny_richCompare_same_room (op:=.Lt) Ta Tb F.slot_tuple_lt (Ycl F.slot_tuple_lt Ta F.entry_tuple_lt (XN ha hb hx hy ⟨_,rfl,(λe=>nomatch e),h⟩) (F.args_tuple_lt_2 _ _)) hu
theorem Wx {o:Bool}{a c:Addr}{xs ys:Array Value}{ns ms:List Int}{Q:Bool->Shared->Prop}(ha:s.heap.IsTuple a xs)(hc:s.heap.IsTuple c ys)(hx:IntsAre xs.toList ns)(hy:IntsAre ys.toList ms)(hu:A.units<cLine)(h:Q (GM ns ms) s) :
  wpAny (model prog w) A (oneLt' o (.ref a) (.ref c)) Q E s:=by
 cases o with
 | true=>
  rw [oneLt'_eq];dsimp only;rw [if_pos rfl];refine Yaa (wpAny_cRoom hu ?_);have Ta:s.TypeIs (.ref a) "tuple" := ha.elim λo z=>⟨o,z.1,z.2.1⟩;refine Yaa (wpAny_callSpecialIfBound?_slot Ta F.slot_tuple_lt (Ycl F.slot_tuple_lt Ta F.entry_tuple_lt (XN ha hc hx hy ⟨_,rfl,?_⟩) (F.args_tuple_lt_2 _ _)));show wpAny _ A (truthOfDropped (.bool (GM ns ms))) Q E s;exact Ydl h
 | false=>exact W.kat_one _ _ (Zca ha hc hx hy hu h)
noncomputable def Zcb (h:Heap):Value->Option Value
 | .ref a=>(h.get? a).bind λo=>match o.data with
  | .seq its _=>its[0]?
  | _=>none
 | _=>none
theorem VI {h:Heap}{a:Addr}{its:Array Value}(t:h.IsTuple a its):Zcb h (.ref a)=its[0]?:=by
 obtain ⟨o,e,_,n,d⟩:=t;show (h.get? a).bind _=_;rw [e];simp only [Option.bind_some,d]
noncomputable def kdT (h:Heap)(vs:List Value):SortKind:=if ((vs[0]?).bind (Zcb h)).isSome then general' else oneType'
theorem VJ {vs:List Value}{R:SortKind->Shared->Prop}(h:∀v∈vs,∃a,∃its:Array Value,v=.ref a/\s.heap.IsTuple a its)(h2:2<=vs.length)(he:∃v∈vs,Zcb s.heap v=none)(q:R (kdT s.heap vs) s):wpAny (model prog w) A (keyKind' vs.toArray) R E s:=by
 rw [keyKind'_eq,List.mapM_toArray];have ty:∀v∈vs,s.TypeIs v "tuple" := λv hv=>by
  obtain ⟨a,its,rfl,o,e,c,_⟩:=h v hv;exact ⟨o,e,c⟩
 refine Yaa (OI (JJ (g:=Zcb s.heap) (λv hv Q q=>?_) ?_))
 ·obtain ⟨a,its,rfl,t⟩:=h v hv;rw [VI t] at q;obtain ⟨o,e,c,n,d⟩:=t;show wpAny _ _ (typeOf _ >>= _) _ _ s;refine Yaa (Ydo (ty _ hv) ?_);rw [if_neg (by decide)];exact Yaa (Ycf e d (Yab q))
 ·obtain ⟨v1,v2,rest,rfl⟩:∃v1 v2 rest,vs=v1::v2::rest:=by
   match vs,h2 with
   | v1::v2::rest,_=>exact ⟨v1,v2,rest,rfl⟩
  rw [if_neg (by
   intro z;obtain ⟨v,hv,e⟩:=he;have:=List.all_eq_true.mp (by simpa using z:(((v1::v2::rest).map (Zcb s.heap)).all λx=>x.isSome)=true) _ (Yar.mpr ⟨v,hv,rfl⟩);rw [e] at this;cases this)]
  unfold kdT at q;simp only [List.getElem?_cons_zero,Option.bind_some] at q;by_cases hf:(Zcb s.heap v1).isSome=true
  ·rw [if_pos hf] at q;rw [if_pos (by simpa using hf)];exact Yab q
  ·rw [if_neg hf] at q;rw [if_neg (by simpa using hf)];rw [oneTypeOnly'_eq,List.mapM_toArray];refine Yaa (Yaa (OI (JJ (g:=λ_=>Value.type "tuple") (λv hv Q q=>Ydo (ty v hv) q) ?_)));simp only [Yap,List.getElem?_toArray,List.getElem?_cons_zero];refine Yab ?_;rw [if_pos (by simp)];exact Yab q
theorem Zc1 {kd:SortKind}{b:Keyed->Keyed->Bool}{good:Keyed->Prop}(h:∀x y,good x->good y->∀{E':EX}{Q:Bool->Shared->Prop},Q (b x y) s->wpAny (model prog w) A (keyLt' kd x.1 y.1) Q E' s):Oo (model prog w) A E s kd b good:=by
 intro x y st Q gx gy hs q;rw [lt'_eq];refine Yac (wpS_get ?_);refine Yac (wpS_lift ?_);rw [hs];exact Ydq (h x y gx gy ⟨rfl,Yaf q⟩)
end
noncomputable def Zcc (w:World)(a:Addr)(zs:List (Addr×List Int)):HO:=.ext λh=>∃es ep t,SAt w h a es ep t/\es.toList.map (·.2)=zs.map λz=>Value.ref z.1
theorem U6 {P:Program}{w:World}{Ad:Addr->List Int->Prop}{h:Heap}:∀{l:List (Int×Value)}{ps:List (List Int)},Paired (Yo P w Ad h) l ps->∃zs:List (Addr×List Int),l.map (·.2)=zs.map (λz=>Value.ref z.1)/\zs.map (·.2)=ps/\∀z∈zs,Ad z.1 z.2
 | _,_,.nil=>⟨[],rfl,rfl,λz hz=>by cases hz⟩
 | _,_,.cons (b:=r) ⟨h1,a,h2,h3,h4⟩ t=>by
  obtain ⟨zs,e1,e2,e3⟩:=U6 t;refine ⟨(a,r)::zs,by rw [Yap,Yap,h2,e1],by rw [Yap,e2],λz hz=>?_⟩;rcases Yat.mp hz with rfl | hz
  ·exact h4
  ·exact e3 z hz
theorem YE {h h':Heap}(k:∀c o,h.get? c=some o->h'.get? c=some o):∀vs:List Value,(∀v∈vs,∃a,∃it:Array Value,∃ns,v=.ref a/\h.IsTuple a it/\IntsAre it.toList ns/\ns≠[])->∃fs:List Value,W.KatTups h' vs fs/\fs.length=vs.length/\∀f∈fs,∃i t,f=.int i t:=by
 intro vs
 induction vs with
 | nil=>intro _;exact ⟨[],.nil,rfl,λf hf=>by cases hf⟩
 | cons v vs ih=>
  intro h;obtain ⟨fs,h1,h2,h3⟩:=ih λx hx=>h x (Ybb _ hx);obtain ⟨a,it,ns,rfl,t1,t2,t3⟩:=h v (Ybe ..);obtain ⟨o,e,c,n,d⟩:=t1;have e:=k _ _ e;have ff:∃i t,it[0]?=some (.int i t):=by
   rcases OV t2 0 with ⟨h1,h2⟩ | ⟨i,t,h1,h2⟩
   ·exact absurd (by simpa using h2) t3
   ·exact ⟨i,t,by simpa using h1⟩
  obtain ⟨i,t,ef⟩:=ff;refine ⟨.int i t::fs,.cons e c d ef h1,by simp [h2],λf hf=>?_⟩;rcases Yat.mp hf with rfl | hf
  ·exact ⟨i,t,rfl⟩
  ·exact h3 f hf
section
variable {X:Cx}{w:World}(K:W.Frag)
theorem ZfT (hc:X.calm=true)(hu:X.A.units+64<cLine)(h:X.K=K:=by rfl)(hw:X.w=w:=by rfl):JR X (.type "set") (λxs H Q=>∃(p:Addr)(ys:List V)(rs:List (List Int)),xs=[.ref p]/\SqL K H p ys/\Tus H ys rs/\rs.length<=306 /\
  ∀(l:Addr)(zs:List (Addr×List Int)),H l=none->(zs.map (·.2)).Nodup->(∀k,k∈zs.map (·.2)↔k∈rs)->(∀z∈zs,H z.1=some (.tup (z.2.map V.int)))->Q (.ref l) (upd H l (Zcc w l zs))):=by
 subst h hw;intro qQ s σ H xs us Q I rv h;obtain ⟨p,ys,rs,rfl,hq,pr,hn,q⟩:=h;obtain ⟨u,rfl,ru⟩:=rv.one;cases ru;obtain ⟨its,r,pl,hz⟩:=I.list hq;have hl:=r.length;have hyl:=pr.len;have es:its.toArray.size=rs.length:=by rw [Yan];lia
 refine ZE (I.ok.hd hc) pl.isList (λi o=>∃ps,Zbf X.prog X.w (λa r=>H a=some (.tup (r.map V.int))) s.heap o ps/\ps.length<=i/\(∀k,k∈ps↔k∈rs.take i)) (λh'=>∀b o,b<s.heap.objs.size->s.heap.get? b=some o->h'.get? b=some o) ⟨[],ZM _ _ _ _,Yae _,λk=>by simp⟩ (λ_ k=>k) ?_ ?_
 ·intro i v s1 o Q1 E1 hi hv kp ho ⟨ps,hps,hle,hm⟩ hq1;have hi':i<ys.length:=by lia
  have hir:i<rs.length:=by lia
  have hv':its[i]?=some v:=by rw [List.getElem?_toArray] at hv;exact hv
  obtain ⟨t,rr,et,ett,er⟩:=pr.get (i:=i) (x:=ys[i]) (Ybd hi');obtain ⟨u,eu,ru⟩:=r.get (i:=i) (x:=ys[i]) (Ybd hi');rw [hv'] at eu;cases eu;rw [et] at ru;cases ru;have hx:IsTu X.prog X.w s.heap rr t:=ZcO I.hok ett;have k00:∀c o',s.heap.get? c=some o'->s1.heap.get? c=some o':=λc o' e=>kp c o' (Yah e) e;have hu3:X.A.in1.in1.in1.units<cLine:=by simp only [Ydr];lia
  unfold setAdd;apply Ybp;apply Yaa;refine wpAny_pyHash_tuple hu3 (hx.keep λo' e=>k00 t o' e) ?_;refine ZcN (s:={ s1 with toks:=s1.toks+((rr:List Int).length+1) }) hu3 k00 ho hps hx ett (by lia) λb h' o' ps' sb ho' hps' hp=>?_;refine hq1 b h' _ o' (Nat.le_add_right _ _) sb ho' ⟨ps',hps',?_,λk=>?_⟩
  ·rw [hp.length_eq];split
   ·lia
   ·rw [Yak,Ybc];lia
  ·rw [hp.mem_iff,Vq er];split
   ·rename_i hin;rw [hm k];constructor
    ·exact .inl
    ·rintro (z | rfl)
     ·exact z
     ·exact (hm _).mp hin
   ·rw [Yal,hm k,Yaw]
 ·intro h' tk o' ho' ⟨ps,hps,hle,hm⟩ hk;rw [es,Ycq] at hm;obtain ⟨es2,ep,t,h1,h2,h3,h4,h5,h6,h7⟩:=hps;obtain ⟨zs,z1,z2,z3⟩:=U6 h3;subst z2;exact ⟨.ref _,_,I.laid (o:=Zcc X.w s.heap.objs.size zs) (λb o e=>hk b o (Yah e) e) (Yae _) ⟨⟨es2,ep,t,⟨⟨o',ho',h1,h2⟩,h5,h6,h7⟩,z1⟩,⟨o',ho'⟩,λh1 h2 ⟨es',ep',t',e,r⟩ k=>⟨es',ep',t',e.ext λo e=>k o e,r⟩⟩,rfl,q _ zs I.fresh h4 hm z3⟩
theorem Zd7 (hc:X.calm=true)(hu:X.A.units+64<cLine)(h:X.K=K:=by rfl)(hw:X.w=w:=by rfl):JR X (.builtin "sorted") (λxs H Q=>∃(p:Addr)(zs:List (Addr×List Int)),xs=[.ref p]/\H p=some (Zcc w p zs)/\(∀z∈zs,H z.1=some (.tup (z.2.map V.int)))/\zs.length<=1000 /\
  ∀(l:Addr)(zs':List (Addr×List Int)),H l=none->zs'.Perm zs->(zs'.map (·.2)).Pairwise (λa b=>GM b a=false)->Q (.ref l) (upd H l (.lst (zs'.map λz=>V.ref z.1)))):=by
 subst h hw;intro qQ s σ H xs us Q I rv h;obtain ⟨p,zs,rfl,hp,hz,hl,q⟩:=h;obtain ⟨u,rfl,ru⟩:=rv.one;cases ru;obtain ⟨⟨es,ep,t,hat,hE⟩,_⟩:=I.hok p _ hp;have h16:=Ybh.symm;have qV:es.size=zs.length:=by
  have:=Ybf List.length hE
  rwa [Yad,Yad,Yai] at this
 have hh:X.A.in1.handled=none:=I.ok.hd hc;have hwp:=(Jv (w:=X.w) p es ep).map (·.2);rw [hE] at hwp;obtain ⟨zs1,p1,e1⟩:=JI hwp;have key:∀z∈zs1,∃its:Array Value,s.heap.IsTuple z.1 its/\IntsAre its.toList z.2:=λz hzm=>by
  obtain ⟨iz,rz,pz,_⟩:=I.tuple (SqT.of (K:=X.K) (hz z (p1.mem_iff.mp hzm)));exact ⟨iz.toArray,pz,J3 rz⟩
 have keepL:∀{h':Heap}{a:Addr}{it:Array Value},(∀c o,s.heap.get? c=some o->h'.get? c=some o)->s.heap.IsTuple a it->h'.IsTuple a it:=λk hl=>by
  obtain ⟨o,e,r⟩:=hl;exact ⟨o,k _ _ e,r⟩
 refine Calls.call_function_entry kind_sorted plain_sorted entry_sorted (args_sorted1 _) ?_;unfold Builtin.«sorted»;apply Yaa (m:=checkCount "sorted" 1 1 _);apply Yab;apply Yaa;refine W.kdu_collect (ZcK (P:=X.prog) (es:=es) (ep:=ep) (t:=t)) hh hat (by lia) λh' tk acc hk' hacc=>?_;have hal:acc.toList.length=es.size:=by rw [Yai];exact hacc.1
 have hvs:acc.toList=zs1.map λz=>Value.ref z.1:=by
  rw [e1];refine List.ext_getElem? λi=>?_;by_cases hi:i<acc.size
  ·obtain ⟨e,e3,e4⟩:=hacc.2 i acc[i] (Yav hi);rw [Ybk,e3,Yaq,Yav hi,e4]
   rfl
  ·have hw2:(Ju X.w p es ep).length=es.size:=by rw [(Jv (w:=X.w) p es ep).length_eq,Yai]
   rw [Yai] at hal;rw [Yaq,Yfi (by lia),List.getElem?_eq_none (by rw [Yad];lia)]
 have isL:∀v∈acc.toList,∃a,∃it:Array Value,∃ns,v=.ref a/\s.heap.IsTuple a it/\IntsAre it.toList ns:=λv hv=>by
  rw [hvs] at hv;obtain ⟨z,hzm,rfl⟩:=Yar.mp hv;obtain ⟨it,h1,h2⟩:=key z hzm;exact ⟨z.1,it,z.2,rfl,h1,h2⟩
 apply Yaa;refine Yer ?_ (by rw [hal];lia);have hoL:(h'.push (seqObj "list" acc.toList.toArray 0)).get? h'.objs.size=some (seqObj "list" acc.toList.toArray 0):=Yay _ rfl;apply Yaa;apply Ybp;have k3:∀(T:Nat) c o,s.heap.get? c=some o->(GX { s with heap:=h'.push (seqObj "list" acc.toList.toArray 0),toks:=T } h'.objs.size acc.toList).heap.get? c=some o:=λT c o e=>by
  unfold GX;refine Yag _ (Yag _ (GT ?_ (Yag _ (hk' c o e))));exact Yam (Yah (hk' c o e))
 have hu2:X.A.in1.in1.units<cLine:=by rw [Ydr,Ydr];lia
 let kd:SortKind:=if ∀z∈zs1,z.2≠[] then tuples' true else kdT s.heap acc.toList
 have fst_keep:∀T,∀v∈acc.toList,Zcb (GX { s with heap:=h'.push (seqObj "list" acc.toList.toArray 0),toks:=T } h'.objs.size acc.toList).heap v=Zcb s.heap v:=λT v hv=>by
  obtain ⟨a,it,ns,rfl,t1,_⟩:=isL v hv;rw [VI t1,VI (keepL (k3 T) t1)]
 refine Ycl slot_list_sort ⟨_,hoL,rfl⟩ entry_list_sort (OG (kd:=kd) (good:=λx=>∃a,∃it:Array Value,∃ns,x.1=.ref a/\s.heap.IsTuple a it/\IntsAre it.toList ns/\((∀z∈zs1,z.2≠[])->ns≠[])) (Zb9 s.heap) hoL (by lia) (λv hv=>?_) (λh2 E' R q=>?_) (Zc1 λx y gx gy E' Q q=>?_) λout hpm hr=>⟨_,rfl,?_⟩) (args_list_sort _)
 ·rw [hvs] at hv;obtain ⟨z,hzm,rfl⟩:=Yar.mp hv;obtain ⟨it,h1,h2⟩:=key z hzm;exact ⟨z.1,it,z.2,rfl,h1,h2,λh=>h z hzm⟩
 ·by_cases qK:∀z∈zs1,z.2≠[]
  ·have ek:kd=tuples' true:=if_pos qK;rw [ek] at q;obtain ⟨fs,t1,t2,t3⟩:=YE (k3 _) acc.toList λv hv=>by
    rw [hvs] at hv;obtain ⟨z,hzm,rfl⟩:=Yar.mp hv;obtain ⟨it,h1,h2⟩:=key z hzm;exact ⟨z.1,it,z.2,rfl,h1,h2,qK z hzm⟩
   exact W.kat_kind (T:=.type "int") t1 (by lia) (λv hv=>by obtain ⟨i,t,rfl⟩:=t3 v hv;exact .now) rfl q
  ·have ek:kd=kdT s.heap acc.toList:=if_neg qK;rw [ek] at q;have eq:∀T,kdT (GX { s with heap:=h'.push (seqObj "list" acc.toList.toArray 0),toks:=T } h'.objs.size acc.toList).heap acc.toList=kdT s.heap acc.toList:=λT=>by
    unfold kdT;cases e0:acc.toList[0]? with
    | none=>rfl
    | some v=>rw [Option.bind_some,Option.bind_some];simp only [fst_keep T v (Ybg e0)]
   refine VJ (λv hv=>?_) h2 ?_ (by rw [eq];exact q)
   ·obtain ⟨a,it,ns,e,t1,_⟩:=isL v hv;exact ⟨a,it,e,keepL (k3 _) t1⟩
   ·have:∃z∈zs1,z.2=[]:=by
     refine Classical.byContradiction λhn=>qK λz hz e=>hn ⟨z,hz,e⟩
    obtain ⟨z,hzm,ez⟩:=this;have hv:Value.ref z.1∈acc.toList:=by rw [hvs];exact Yar.mpr ⟨z,hzm,rfl⟩
    refine ⟨_,hv,?_⟩;rw [fst_keep _ _ hv];obtain ⟨it,h1,h2⟩:=key z hzm;rw [VI h1];rw [ez] at h2;have:=GV h2;rw [Yai] at this;exact Yfi (by simpa using this)
 ·obtain ⟨a,it,ns,e1,h1,h2,_⟩:=gx;obtain ⟨c,jt,ms,e2,h3,h4,_⟩:=gy;simp only [e1,e2,J1 h1 h2,J1 h3 h4] at q ⊢;have g1:=keepL (k3 tk) h1;have g3:=keepL (k3 tk) h3;by_cases qK:∀z∈zs1,z.2≠[]
  ·have ek:kd=tuples' true:=if_pos qK;rw [ek];obtain ⟨o1,g1,_,n1,d1⟩:=g1;obtain ⟨o2,g2,_,n2,d2⟩:=g3;refine W.kat_lt (xs:=it) (ys:=jt) g1 d1 g2 d2 (VE 0 h2 h4 ?_ q);rw [<-GV h2,<-GV h4];simp
  ·have ek:kd=kdT s.heap acc.toList:=if_neg qK;rw [ek];unfold kdT;split
   ·exact Wx (o:=false) g1 g3 h2 h4 hu2 q
   ·rw [keyLt'_oneType];exact Wx (o:=true) g1 g3 h2 h4 hu2 q
 ·obtain ⟨o1,o2,o3⟩:=Vz hpm;refine Yab ⟨_,rfl,?_⟩;obtain ⟨e,he⟩:=sortedHeap_at (out:=out.map (·.2)) hoL;have hkeep:∀b o,s.heap.get? b=some o->(sortedHeap (h'.push (seqObj "list" acc.toList.toArray 0)) h'.objs.size acc.toList (out.map (·.2))).get? b=some o:=λb o e=>by
   have e':=hk' b o e;have hb:=Yah e';rw [sortedHeap_old (Yam hb) (by rw [Ybx];exact Ydg hb)];exact Yag _ e'
  rw [hvs] at o1;obtain ⟨zs',p2,e2⟩:=JI o1;have ps:(zs'.map (·.2)).Pairwise (λa b=>GM b a=false):=by
   have a1:=JC hr o3;have a2:(out.toList.map (·.2)).Pairwise (λu v=>GM (Zby s.heap v) (Zby s.heap u)=false):=by
    rw [Yby];refine a1.imp_of_mem λ{x y} hx hy hxy=>?_;rw [<-(o2 x hx).1,<-(o2 y hy).1];exact hxy
   rw [Array.toList_map] at e2;rw [<-e2,Yby] at a2;rw [Yby];refine a2.imp_of_mem λ{x y} hx hy hxy=>?_;obtain ⟨it,h1,h2⟩:=key x (p2.mem_iff.mp hx);obtain ⟨jt,h3,h4⟩:=key y (p2.mem_iff.mp hy);rw [J1 h1 h2,J1 h3 h4] at hxy;exact hxy
  have hpm':zs'.Perm zs:=p2.trans p1;have hl':(zs'.map λz=>V.ref z.1).length<=sizeLine:=by rw [Yad,hpm'.length_eq];lia
  have hn:H h'.objs.size=none:=by
   cases zz:H h'.objs.size with
   | none=>rfl
   | some o=>
    obtain ⟨x,ex⟩:∃x,s.heap.get? h'.objs.size=some x:=(I.hok _ _ zz).there;exact absurd (Yah (hk' _ _ ex)) (Ycb _)
  have sm:Same H (upd H h'.objs.size (.lst (zs'.map λz=>V.ref z.1))):=Same.new hn;refine ⟨.ref h'.objs.size,upd H h'.objs.size (.lst (zs'.map λz=>V.ref z.1)),I.un (t':=tk) ⟨λb o e _ _ _=>hkeep b o e,λb o e _ _ _=>⟨o.slots,hkeep b o e⟩,λb o e n _=>?_,λb o e _=>⟨o,hkeep b o e⟩,λb ys e=>sm _ _ e,λb o u e=>sm _ _ e,λb ps e=>⟨#[],by rw [sm _ _ e];simp⟩⟩ (λb o e'=>?_),rfl,q _ zs' hn hpm' ps⟩
  ·rw [Gi (Yam (Yah (hk' b o e)))];exact n
  ·by_cases hb:b=h'.objs.size
   ·subst hb;rw [Gb] at e';cases e';exact ⟨hl',(out.map (·.2)).toList,e,by rw [<-e2];exact OJ zs',he⟩
   ·rw [Gi hb] at e';exact (I.hok b o e').stay (λc v _ x=>hkeep c v x) (λd x=>sm _ _ x) λd ys x=>sm _ _ x
end
end L2
namespace L2
open PySem PySem.Spec PyProof.Rows
theorem ZbA {a b c:List Int}(h1:GM b a=false)(h2:GM c b=false):GM c a=false:=by
 cases h:GM c a with
 | false=>rfl
 | true=>
  cases h3:GM a b with
  | true=>rw [OW h h3] at h2;cases h2
  | false=>
   rw [OH h3 h1] at h;rw [h] at h2;cases h2
theorem XO (f:Nat->List Int):∀k,argBest (λi j=>GM (f i) (f j)) k<=k/\∀j,j<=k->GM (f j) (f (argBest (λi j=>GM (f i) (f j)) k))=false
 | 0=>⟨Yae _,λj hj=>by
  have:j=0:=by lia
  subst this;exact Jg _⟩
 | k+1=>by
  obtain ⟨i1,i2⟩:=XO f k;have e:argBest (λi j=>GM (f i) (f j)) (k+1)=if GM (f (k+1)) (f (argBest (λi j=>GM (f i) (f j)) k))=true then k+1 else argBest (λi j=>GM (f i) (f j)) k:=rfl
  rw [e];generalize argBest (λi j=>GM (f i) (f j)) k=g at i1 i2;by_cases z:GM (f (k+1)) (f g)=true
  ·rw [if_pos z];refine ⟨Yae _,λj hj=>?_⟩;by_cases hk:j=k+1
   ·subst hk;exact Jg _
   ·refine ZbA ?_ (i2 j (by lia));cases h:GM (f g) (f (k+1)) with
    | false=>rfl
    | true=>have:=OW h z;rw [Jg] at this;cases this
  ·rw [if_neg z];refine ⟨by lia,λj hj=>?_⟩;by_cases hk:j=k+1
   ·rw [hk];exact Yek.mpr z
   ·exact i2 j (by lia)
section
variable {X:Cx}
noncomputable def Zcd (xs:List V)(rs:List (List Int))(t:Addr)(r:List Int):Prop:=(∃i:Nat,xs[i]?=some (.ref t)/\rs[i]?=some r)/\∀r'∈rs,GM r' r=false
noncomputable def ZfU (K:W.Frag):List V->Hp->VK->Prop:=λvs H Q=>∃(p:Addr)(xs:List V)(rs:List (List Int)),vs=[.ref p]/\SqL K H p xs/\Tus H xs rs/\rs≠[]/\∀t r,Zcd xs rs t r->Q (.ref t) H
theorem Zab {qQ:List (Addr×Obj)}{s:Shared}{σ:St}{H:Hp}{Q:VK}{p:Addr}{xs:List V}{rs:List (List Int)}{its:List Value}{kw:List (Str×Value)}(hc:X.calm=true)(hu:X.A.units+1<cLine)(I:Inv X qQ σ H s)(r:Vals xs its)(pl:PlainL s.heap p its.toArray)(pr:Tus H xs rs)(hne:rs≠[])(q:∀t r,Zcd xs rs t r->Q (.ref t) H){R:Result->Shared->Prop}(hR:∀v s',EP X qQ σ Q v s'->R (.ok (.ret v)) s'):∀c:Nat,
  codeAny (model X.prog X.w) X.A (.builtin "min.loop" ⟨[.ref s.heap.objs.size,.none,.ref (s.heap.objs.size+1)],kw⟩) R { s with heap:=(s.heap.push { cls:=.type "list_iterator", data:=.fields #[.ref p,.int 0 0] }).push { cls:=.type "list", dict:=none,data:=.seq #[] c,slots:=#[] } }:=by
 intro c;have hl:=r.length;have hx:=pr.len;have hpos:0<rs.length:=List.length_pos_iff.mpr hne;have hh:X.A.in1.handled=none:=I.ok.hd hc;obtain ⟨o,eo,_⟩:=id pl.isList;have hlt:p<s.heap.objs.size:=Yah eo;have e1:(s.heap.push { cls:=.type "list_iterator", data:=.fields #[.ref p,.int 0 0] }).objs.size=s.heap.objs.size+1:=Ybx ..;have at_:∀i v,its[i]?=some v->∃t,∃it:Array Value,v=.ref t/\xs[i]?=some (.ref t)/\rs[i]?=some (rs.getD i [])/\s.heap.IsTuple t it/\IntsAre it.toList (rs.getD i []):=λi v hv=>by
  have hi:i<its.length:=(Yau.mp hv).1;have hxi:xs[i]?=some xs[i]:=Ybd (by lia);obtain ⟨t,q',et,eh,er⟩:=pr.get hxi;obtain ⟨u,gu,ru⟩:=r.get hxi;rw [gu] at hv;cases hv;rw [et] at ru;cases ru;have eg:rs.getD i []=q':=by rw [Ydz,er];rfl
  obtain ⟨its2,r2,pl2,_⟩:=I.tuple (SqT.of eh);exact ⟨t,its2.toArray,rfl,by rw [hxi,et],by rw [eg];exact er,pl2,by rw [eg];exact J3 r2⟩
 have kept0:∀b o,s.heap.get? b=some o->((s.heap.push { cls:=.type "list_iterator", data:=.fields #[.ref p,.int 0 0] }).push { cls:=.type "list", dict:=none,data:=.seq #[] c,slots:=#[] }).get? b=some o:=λb o e=>Yag _ (Yag _ e);have W:=Walks.list (prog:=X.prog) (w:=X.w) hh s.heap.objs.size p (Yam hlt) its.toArray;have hsz:its.toArray.size=rs.length:=by rw [Yan];lia
 refine Yr (J:=λh=>∀t,∀it:Array Value,s.heap.IsTuple t it->h.IsTuple t it) W (λi j=>GM (rs.getD i []) (rs.getD j [])) ?cmp (s.heap.objs.size+1) ?hD ?kJ (by rw [hsz];exact hpos) ?st ?j (by rw [<-e1];exact Yay _ rfl) ?fin
 case cmp=>
  intro s' i j vi vj Q' E' hJ hi hj hq;obtain ⟨a,u1,rfl,_,_,ha,ia⟩:=at_ i vi (by simpa using hi);obtain ⟨b,w1,rfl,_,_,hb,ib⟩:=at_ j vj (by simpa using hj);exact Zca (hJ a u1 ha) (hJ b w1 hb) ia ib (by rw [Ydr];exact hu) hq
 case hD=>
  intro z;have:s.heap.objs.size+1=s.heap.objs.size\/s.heap.objs.size+1=p:=by simpa using z
  rcases this with e | e
  ·exact absurd e (Nat.succ_ne_self _)
  ·exact absurd hlt (by rw [<-e];exact Nat.not_lt.mpr (Yda _))
 case kJ=>
  intro h h' hJ kp t it hT;obtain ⟨o',g',rest⟩:=hJ t it hT;obtain ⟨o0,g0,_⟩:=hT;have ht:t<s.heap.objs.size:=Yah g0;refine ⟨o',kp t o' (λz=>?_) (Yam (Ydg ht)) g',rest⟩;have:t=s.heap.objs.size:=by simpa using z
  exact absurd ht (by rw [this];exact Ycb _)
 case st=>
  refine ⟨⟨_,Yag _ (Yay _ rfl),rfl,rfl⟩,pl.isList.at λo e=>kept0 _ _ e⟩
 case j=>
  intro t it hT;obtain ⟨o0,g0,rest⟩:=hT;exact ⟨o0,kept0 _ _ g0,rest⟩
 case fin=>
  intro v h' tk hv hk;obtain ⟨b1,b2⟩:=XO (λi=>rs.getD i []) (its.toArray.size-1);generalize argBest (λi j=>GM (rs.getD i []) (rs.getD j [])) (its.toArray.size-1)=g at hv b1 b2;obtain ⟨t,u1,rfl,ex,er,_⟩:=at_ g v (by simpa using hv);refine hR _ _ ⟨.ref t,H,I.kept λb o e'=>hk b o ?_ ?_ (kept0 b o e'),rfl,q t _ ⟨⟨g,ex,er⟩,λr' hr'=>?_⟩⟩
  ·intro z;have:b=s.heap.objs.size:=by simpa using z
   exact absurd (Yah e') (by rw [this];exact Ycb _)
  ·exact Yam (Ydg (Yah e'))
  ·obtain ⟨j,hj,rfl⟩:=Ydd hr';have:=b2 j (by lia);rw [Ydz,Ybd hj] at this;exact this
theorem Zd8 (K:W.Frag)(hc:X.calm=true)(hu:X.A.units+1<cLine)(h:X.K=K:=by rfl):JR X (.builtin "min") (ZfU K):=by
 subst h;intro qQ s σ H xs us Q I rv h;obtain ⟨p,xs,rs,rfl,hq,pr,hne,q⟩:=h;obtain ⟨u,rfl,ru⟩:=rv.one;cases ru;obtain ⟨its,r,pl,hz⟩:=I.list hq;have nm:(toString "min" ++ toString ".loop" : String) = "min.loop" := by decide
 refine call_function_tree F.kind_min F.plain_min F.entry_min (F.args_min1 _) ?_;refine Yaa (wpAny_of_eq (show Builtin.Builtins.bindParams "min" ["key", "default"] 0 ⟨[],[]⟩=pure [none,none] from rfl) (Yaa (Yab (Yaa (wpAny_pyIter_list pl.isList (Yaa (Ydp ?_)))))));rw [nm];have e1:(s.heap.push { cls:=.type "list_iterator", data:=.fields #[.ref p,.int 0 0] }).objs.size=s.heap.objs.size+1:=Ybx ..;refine Yab ⟨Yec Yep _,?_⟩;show codeAny _ _ (.builtin "min.loop" ⟨[.ref s.heap.objs.size,.none,.ref (s.heap.push { cls:=.type "list_iterator", data:=.fields #[.ref p,.int 0 0] }).objs.size],[]⟩) _ _;rw [e1];exact Zab hc hu I r pl pr hne q (λv s' h=>h) 0
end
section
variable {prog:Program}{w:World}{A:Around}{E:EX}{s:Shared}
theorem VL {t sl:Addr}{items:Array Value}{vl vu:Value}{lo hi:Option Int}{Q:EX}(ht:IsTup s.heap t items)(hs:s.heap.IsSliceOf sl vl vu .none)(pl:IsPart vl lo)(pu:IsPart vu hi)(h0:HT.sIx items.size 0 lo=0)(h1:HT.sIx items.size items.size hi=items.size)(h:Q (.ref t) s):wpAny (model prog w) A (getItem (.ref t) (.ref sl)) Q E s:=by
 have Ts:s.TypeIs (.ref sl) "slice" := by
  obtain ⟨os,hos,hcs,_⟩:=id hs;exact ⟨os,hos,hcs⟩
 unfold getItem
 try with_reducible refine Ybp ?_
 first | refine Yaa (Yab ?_) | skip
 refine Yaa (wpAny_sequenceKey ht.typeIs (by decide) (Yaa (Yew (name:=Str.ofString "__getitem__") ht.typeIs Yfl (Ycl Yfl ht.typeIs entry_tuple_getitem ?_ (args_tuple_getitem _ _)))));show wpAny _ _ (Builtin.Tuple.tupleItemsOf (.ref t) >>= _) _ _ s;refine Yaa (tupleItemsOf_ ht (Yaa (Ydo Ts ?_)));rw [if_pos (by decide)];refine Yaa (HT.sliceApplied_gen hs pl pu ?_);show wpAny _ _ (if (((HT.sIx items.size 0 lo:Nat):Int) == 0 && (1:Int) == 1 && (HT.sIx items.size items.size hi-HT.sIx items.size 0 lo) == items.size)=true then _ else _) _ _ s;rw [h0,h1,if_pos (by simp)]
 first
  | exact Yaa (m:=Builtin.Tuple.tupleIsExact _) (Yaa (Ydo ht.typeIs (Yab (Yaa (Ycy (Yab ⟨_,rfl,Yab h⟩))))))
end
section
variable {X:Cx}(K:W.Frag)
noncomputable def Zgs:V->Option Int->Option Int->Hp->VK->Prop:=λx lo hi H Q=>∃a xs,x=.ref a/\SqT K H a xs/\(UQ xs lo hi=xs->Q (.ref a) H)/\∀p,H p=none->Q (.ref p) (upd H p (.tup (UQ xs lo hi)))
theorem Zfb (h:X.K=K:=by rfl):SlR X (Zgs K):=by
 subst h;intro qQ s σ H x v vl vu lo hi sl Q I rx hs pl pu h;obtain ⟨a,xs,rfl,hx,qw,q⟩:=h;by_cases hw:HT.sIx xs.length 0 lo=0/\HT.sIx xs.length xs.length hi=xs.length
 ·cases rx;obtain ⟨its,r,ht,hz⟩:=I.tuple hx;have qV:its.toArray.size=xs.length:=by rw [Yan];exact r.length.symm
  refine ⟨"tuple", _,PyProof.Rows.slot_tuple_getitem.lookup,ht.typeIs,VL ht hs pl pu (by rw [qV];exact hw.1) (by rw [qV];exact hw.2) ⟨.ref a,H,I,rfl,qw ?_⟩⟩;unfold UQ;rw [hw.1,hw.2];simp
 ·exact ZbT qQ s σ H _ v vl vu lo hi sl Q I rx hs pl pu ⟨a,xs,rfl,hx,hw,q⟩
end
section
variable {prog:Program}{w:World}{A:Around}{E:EX}{s:Shared}{kd:SortKind}{b:Keyed->Keyed->Bool}{good:Keyed->Prop}
theorem VM {a:Addr}{vs:List Value}{n:Nat}{P:PySem.Fin->Shared->Prop}(W:WO b)(ha:s.heap.get? a=some (seqObj "list" vs.toArray n))(hz:vs.length<=sizeLine)(hg:∀v∈vs,good (v,v))(hk:2<=vs.length->∀{E':EX}{R:SortKind->Shared->Prop},R kd (GX s a vs)->wpAny (model prog w) A (keyKind' vs.toArray) R E' (GX s a vs))(L:Oo (model prog w) A E (GX s a vs) kd b good)(q:∀out:Array Keyed,out.Perm (pairsOf vs)->Rng b out 0 vs.length->P (.done (.ret .none)) { s with heap:=sortedHeap s.heap a vs (out.map (·.2)).reverse }) :
  wpAny (model prog w) A (Builtin.«list.sort» ⟨[.ref a],[(Str.ofString "reverse", .bool true)]⟩) P E s:=by
 have hps:(pairsOf vs).size=vs.length:=pairsOf_size vs;show wpAny _ _ (Builtin.List.listItems (.ref a) >>= _) P E s;refine Yaa (Ycf ha rfl ?_);refine Yaa (Ydh ha rfl ?_ (by rw [Yan];exact hz) (Yao _));have ha1:=get?_update_seq ha (λ_=>#[]);generalize (if ((#[]:Array Value).size == vs.toArray.size)=true then n else n+1)=n1 at ha1;refine Yaa (seqEpoch_at ha1 rfl ?_);refine Yaa (wpAny_newTuple ?_ hz);refine Yaa (Yer ?_ (Yao _));refine Ybp ?_;have ha2:(GX s a vs).heap.get? a=some (seqObj "list" #[] n1):=Yag _ (Yag _ ha1);show wpAny (model prog w) A (rule "list.sort.reverse" >>= _) P E (GX s a vs);refine Yaa (Ycy ?_);dsimp only [Yan];have hrz:(vs.toArray.zip vs.toArray).reverse.Perm (pairsOf vs):=Array.perm_iff_toList_perm.mpr (by rw [Ycz];exact List.reverse_perm _);split
 ·rename_i h2;have h2:vs.length<2:=by simpa using h2
  refine Yaa (Yab ?_);refine Yaa (Ybm (Q:=λr s'=>s'=GX s a vs/\failedOf r.2=none/\(arrOf r.2).Perm (pairsOf vs)/\Rng b (arrOf r.2) 0 vs.length) (Yab ⟨rfl,rfl,hrz,?_⟩) ?_ (λ_ _ z=>z))
  ·have hs:(vs.toArray.zip vs.toArray).reverse.size=vs.length:=hrz.size_eq.trans hps;have:=Wu W (arr:=(vs.toArray.zip vs.toArray).reverse) (by lia);rw [hs] at this;exact this
  ·rintro ⟨_,st⟩ s' ⟨rfl,e2,hp,hr⟩;dsimp only;refine Yaa (seqEpoch_at ha2 rfl ?_);have e2:failedOf st=none:=e2;have hl:((arrOf st).map (·.2)).reverse.size<=sizeLine+1:=by
    have this:(arrOf st).size=(pairsOf vs).size:=hp.size_eq;rw [pairsOf_size] at this;rw [Array.size_reverse,Array.size_map]
    lia
   refine Yaa (Ydh ha2 rfl ?_ (Yao _) hl);have:(n1 != n1)=false:=by simp
   rw [this];split
   ·rename_i e he;have:=he.symm.trans e2;cases this
   ·exact Yab (q (arrOf st) hp hr)
 ·rename_i h2;have h2:¬ vs.length<2:=by simpa using h2
  refine Yaa (hk (by lia) ?_);refine Yaa (Ybm (Q:=λr s'=>s'=GX s a vs/\failedOf r.2=none/\(arrOf r.2).Perm (pairsOf vs)/\Rng b (arrOf r.2) 0 vs.length) ?_ ?_ (λ_ _ z=>z))
  ·refine Jk (st:=SortSt.mk' kd (vs.toArray.zip vs.toArray).reverse #[] 7 none) (Q:=λ_ st=>failedOf st=none/\(arrOf st).Perm (pairsOf vs)/\Rng b (arrOf st) 0 vs.length) W L rfl rfl rfl (λx hx=>?_) λst' k1 k2 k3=>⟨k2,k1.trans hrz,?_⟩
   ·have hx:x∈(vs.toArray.zip vs.toArray).reverse.toList:=hx;rw [Ycz,List.mem_reverse] at hx;have hx:x∈(pairsOf vs).toList:=hx;rw [pairsOf_toList] at hx;obtain ⟨e,hm⟩:=mem_zip_self hx;obtain ⟨x1,x2⟩:=x;have e:x1=x2:=e;subst e;exact hg _ hm
   ·have e:(arrOf (SortSt.mk' kd (vs.toArray.zip vs.toArray).reverse #[] 7 none)).size=vs.length:=hrz.size_eq.trans hps;rw [e] at k3;exact k3
  ·rintro ⟨_,st⟩ s' ⟨rfl,e2,hp,hr⟩;dsimp only;refine Yaa (seqEpoch_at ha2 rfl ?_);have e2:failedOf st=none:=e2;have hl:((arrOf st).map (·.2)).reverse.size<=sizeLine+1:=by
    have this:(arrOf st).size=(pairsOf vs).size:=hp.size_eq;rw [pairsOf_size] at this;rw [Array.size_reverse,Array.size_map]
    lia
   refine Yaa (Ydh ha2 rfl ?_ (Yao _) hl);have:(n1 != n1)=false:=by simp
   rw [this];split
   ·rename_i e he;have:=he.symm.trans e2;cases this
   ·exact Yab (q (arrOf st) hp hr)
theorem VN (a v:Value):argsOk "sorted" ⟨[a],[(Str.ofString "reverse", v)]⟩:=by unfold argsOk;kernel_rfl
theorem WY (a v:Value):argsOk "list.sort" ⟨[a],[(Str.ofString "reverse", v)]⟩:=by unfold argsOk;kernel_rfl
theorem YF {l:Addr}{vs:List Value}{Q:EX}(W:WO b)(hl:s.heap.IsList l vs.toArray)(hz:vs.length<=sizeLine)(hg:∀v∈vs,good (v,v))(hk:∀h':Heap,(∀c o,s.heap.get? c=some o->h'.get? c=some o)->2<=vs.length->∀{E':EX}{R:SortKind->Shared->Prop},R kd { s with heap:=h' }->wpAny (model prog w) A.in1.in1 (keyKind' vs.toArray) R E' { s with heap:=h' })(L:∀h':Heap,(∀c o,s.heap.get? c=some o->h'.get? c=some o)->Oo (model prog w) A.in1.in1 E { s with heap:=h' } kd b good)(q:∀out:Array Keyed,out.Perm (pairsOf vs)->Rng b out 0 vs.length->Q (.ref (s.heap.objs.size+1)) { s with heap:=sortedAll s.heap vs (out.map (·.2)).reverse }) :
  wpAny (model prog w) A (call (.builtin "sorted") [.ref l] [(Str.ofString "reverse", .bool true)]) Q E s:=by
 refine call_function_entry_kw kind_sorted plain_sorted entry_sorted (VN _ _) ?_;unfold Builtin.sorted;refine Yaa (Yab ?_);refine Yaa (collect_list hl ?_ hz);refine Yaa (Yer ?_ hz);generalize hh1:(s.heap.push (seqObj "list" #[] 0)).update s.heap.objs.size (Obj.mapSeq λx=>x++vs.toArray)=h1;have sz1:h1.objs.size=s.heap.objs.size+1:=by rw [<-hh1,Heap.size_update,Ybx]
 have k1:∀c o,s.heap.get? c=some o->h1.get? c=some o:=λc o e=>by
  rw [<-hh1];exact GT (Yam (Yah e)) (Yag _ e)
 generalize hh2:h1.push { cls:=Value.type "list", data:=Data.seq vs.toArray }=h2;have ha:h2.get? h1.objs.size=some (seqObj "list" vs.toArray 0):=by rw [<-hh2];exact Yay _ rfl
 have k2:∀c o,s.heap.get? c=some o->h2.get? c=some o:=λc o e=>by
  rw [<-hh2];exact Yag _ (k1 c o e)
 have k3:∀c o,s.heap.get? c=some o->(GX { s with heap:=h2 } h1.objs.size vs).heap.get? c=some o:=λc o e=>by
  unfold GX;refine Yag _ (Yag _ (GT ?_ (k2 c o e)));have:=Yah e;rw [sz1];exact Yam (Ydg this)
 refine Yaa (Ybp (wpAny_call_entry_kw (s:={ s with heap:=h2 }) slot_list_sort ⟨_,ha,rfl⟩ entry_list_sort ?_ (WY _ _)));refine VM (s:={ s with heap:=h2 }) W ha hz hg (λh=>hk _ k3 h) (L _ k3) λout p r=>⟨.none,rfl,Yab ⟨_,rfl,?_⟩⟩;have e:({ s with heap:=sortedHeap h2 h1.objs.size vs (out.map (·.2)).reverse }:Shared)={ s with heap:=sortedAll s.heap vs (out.map (·.2)).reverse }:=by
  unfold sortedAll;rw [sz1,<-hh2,<-hh1]
 show Q (.ref h1.objs.size) { s with heap:=sortedHeap h2 h1.objs.size vs (out.map (·.2)).reverse };rw [e,sz1];exact q out p r
end
section
variable {X:Cx}(K:W.Frag)
noncomputable def Zc2:List V->List V->Hp->VK->Prop:=λxs ks H Q=>∃(p:Addr)(zs:List (Addr×List Int)),xs=[.ref p]/\ks=[.bl true]/\SqL K H p (zs.map λz=>V.ref z.1)/\(∀z∈zs,SqT K H z.1 (z.2.map V.int)/\z.2≠[]) /\
 ∀(l:Addr)(zs':List (Addr×List Int)),H l=none->zs'.Perm zs->(zs'.map (·.2)).Pairwise (λa b=>GM a b=false)->Q (.ref l) (upd H l (.lst (zs'.map λz=>V.ref z.1)))
theorem Zc3 (h:X.K=K:=by rfl):Zb4 X (.builtin "sorted") ["reverse"] (Zc2 K):=by
 subst h;intro qQ s σ H xs us kv ku Q I rv rk h;obtain ⟨p,zs,rfl,rfl,hq,hz,q⟩:=h;obtain ⟨_,rfl,rk1⟩:=rk.one;cases rk1;obtain ⟨u,rfl,ru⟩:=rv.one;cases ru;obtain ⟨its,r,pl,hzl⟩:=I.list hq;have hl:=r.length;rw [Yad] at hl hzl;have ei:=VC r;have key:∀z∈zs,∃its:Array Value,s.heap.IsTuple z.1 its/\IntsAre its.toList z.2/\z.2≠[]:=λz hzm=>by
  obtain ⟨iz,rz,pz,_⟩:=I.tuple (hz z hzm).1;exact ⟨iz.toArray,pz,J3 rz,(hz z hzm).2⟩
 have isL:∀v∈its,∃a,∃it:Array Value,∃ns,v=.ref a/\s.heap.IsTuple a it/\IntsAre it.toList ns/\ns≠[]:=λv hv=>by
  rw [ei] at hv;obtain ⟨z,hzm,rfl⟩:=Yar.mp hv;obtain ⟨it,h1,h2,h3⟩:=key z hzm;exact ⟨z.1,it,z.2,rfl,h1,h2,h3⟩
 have keepL:∀{h':Heap}{a:Addr}{it:Array Value},(∀c o,s.heap.get? c=some o->h'.get? c=some o)->s.heap.IsTuple a it->h'.IsTuple a it:=λk hl=>by
  obtain ⟨o,e,r⟩:=hl;exact ⟨o,k _ _ e,r⟩
 have tups:∀(h':Heap),(∀c o,s.heap.get? c=some o->h'.get? c=some o)->∀vs:List Value,(∀v∈vs,∃a,∃it:Array Value,∃ns,v=.ref a/\s.heap.IsTuple a it/\IntsAre it.toList ns/\ns≠[])->∃fs:List Value,W.KatTups h' vs fs/\fs.length=vs.length/\∀f∈fs,∃i t,f=.int i t:=by
  intro h' k vs
  induction vs with
  | nil=>intro _;exact ⟨[],.nil,rfl,λf hf=>by cases hf⟩
  | cons v vs ih=>
   intro h;obtain ⟨fs,h1,h2,h3⟩:=ih λx hx=>h x (Ybb _ hx);obtain ⟨a,it,ns,rfl,t1,t2,t3⟩:=h v (Ybe ..);obtain ⟨o,e,c,n,d⟩:=keepL k t1;have ff:∃i t,it[0]?=some (.int i t):=by
    rcases OV t2 0 with ⟨h1,h2⟩ | ⟨i,t,h1,h2⟩
    ·exact absurd (by simpa using h2) t3
    ·exact ⟨i,t,by simpa using h1⟩
   obtain ⟨i,t,ef⟩:=ff;refine ⟨.int i t::fs,.cons e c d ef h1,by simp [h2],λf hf=>?_⟩;rcases Yat.mp hf with rfl | hf
   ·exact ⟨i,t,rfl⟩
   ·exact h3 f hf
 refine YF (kd:=tuples' true) (good:=λx=>∃a,∃it:Array Value,∃ns,x.1=.ref a/\s.heap.IsTuple a it/\IntsAre it.toList ns/\ns≠[]) (Zb9 s.heap) pl.isList (by lia) isL (λh' k h2 E' R q=>?_) (λh' k=>Z7 λx y gx gy E' Q q=>?_) λout hp hr=>?_
 ·obtain ⟨fs,t1,t2,t3⟩:=tups h' k its isL;exact W.kat_kind (T:=.type "int") t1 (by lia) (λv hv=>by obtain ⟨i,t,rfl⟩:=t3 v hv;exact .now) rfl q
 ·obtain ⟨a,it,ns,e1,h1,h2,_⟩:=gx;obtain ⟨c,jt,ms,e2,h3,h4,_⟩:=gy;simp only [e1,e2,J1 h1 h2,J1 h3 h4] at q ⊢;obtain ⟨o1,g1,_,n1,d1⟩:=keepL k h1;obtain ⟨o2,g2,_,n2,d2⟩:=keepL k h3;refine W.kat_lt (xs:=it) (ys:=jt) g1 d1 g2 d2 (VE 0 h2 h4 ?_ q);rw [<-GV h2,<-GV h4];simp
 ·obtain ⟨o1,o2,o3⟩:=Vz hp;obtain ⟨e,he⟩:=sortedAll_at s.heap its (out.map (·.2)).reverse;rw [ei] at o1;obtain ⟨zs',p1,p2⟩:=JI o1;have ps:(zs'.map (·.2)).Pairwise (λa b=>GM b a=false):=by
   have a1:=JC hr o3;have a2:(out.toList.map (·.2)).Pairwise (λu v=>GM (Zby s.heap v) (Zby s.heap u)=false):=by
    rw [Yby];refine a1.imp_of_mem λ{x y} hx hy hxy=>?_;rw [<-(o2 x hx).1,<-(o2 y hy).1];exact hxy
   rw [Array.toList_map] at p2;rw [<-p2,Yby] at a2;rw [Yby];refine a2.imp_of_mem λ{x y} hx hy hxy=>?_;obtain ⟨it,h1,h2,_⟩:=key x (p1.mem_iff.mp hx);obtain ⟨jt,h3,h4,_⟩:=key y (p1.mem_iff.mp hy);rw [J1 h1 h2,J1 h3 h4] at hxy;exact hxy
  refine ⟨.ref _,_,I.laid (a:=s.heap.objs.size+1) (t':=s.toks) (o:=.lst (zs'.reverse.map λz=>V.ref z.1)) (λb o e=>sortedAll_old e) (Yda _) ⟨by rw [Yad,List.length_reverse,p1.length_eq];exact hzl,(out.map (·.2)).reverse.toList,e,by rw [Ycz,<-p2,<-List.map_reverse];exact OJ zs'.reverse,he⟩,rfl,q _ _ (I.hok.fresh (Yda _)) ((List.reverse_perm _).trans p1) (by rw [List.map_reverse,List.pairwise_reverse];exact ps)⟩
end
section
variable {X:Cx}
theorem Zd9:OpR X (compareOp .Is) (λx y H Q=>∃a b,x=.bl a/\y=.bl b/\Q (.bl (a == b)) H):=by
 intro qQ s σ H x y v u Q I rx ry h;obtain ⟨a,b,rfl,rfl,q⟩:=h;cases rx;cases ry;exact is_bool (GC I q rfl)
theorem UG (ns:List Int):∀n:Nat,n<=ns.length->preSum (λi=>ns.getD i 0) n=(ns.take n).sum
 | 0,_=>rfl
 | n+1,h=>by
  show preSum _ n+ns.getD n 0=_;rw [UG ns n (by lia),Ycp,List.sum_append,Ydz,Ybd (by lia:n<ns.length)];simp
theorem ZfV (K:W.Frag)(hc:X.calm=true)(h:X.K=K:=by rfl):JR X (.builtin "sum") (λxs H Q=>∃(p:Addr)(ns:List Int),xs=[.ref p]/\SqL K H p (ns.map V.int)/\Q (.int ns.sum) H):=by
 subst h;intro qQ s σ H xs us Q I rv h;obtain ⟨p,ns,rfl,hq,q⟩:=h;obtain ⟨u,rfl,ru⟩:=rv.one;cases ru;obtain ⟨its,r,pl,hz⟩:=I.list hq;have hl:=r.length;rw [Yad] at hl;have hh:X.A.in1.handled=none:=I.ok.hd hc;have pl':s.heap.IsList p its.toArray:=pl.isList;obtain ⟨o,eo,_⟩:=id pl';have hlt:p<s.heap.objs.size:=Yah eo;refine call_sum_walkAnyS (wpAny_pyIter_list pl' ?_);refine ⟨s.heap.objs.size,_,_,_,_,_,_,λi=>ns.getD i 0,rfl,(Walks.list hh s.heap.objs.size p (Yam hlt) its.toArray).toS,⟨⟨_,Yay _ rfl,rfl,rfl⟩,?_⟩,?_,?_,λs' t' M=>?_⟩
 ·obtain ⟨o,e,c⟩:=pl';exact ⟨o,Yag _ e,c⟩
 ·intro c hc';show c<(s.heap.push _).objs.size;rw [Ybx];rcases Yat.mp hc' with z | z
  ·rw [z];exact Nat.lt_succ_self _
  ·rcases Yat.mp z with z | z
   ·rw [z];exact Ydg hlt
   ·cases z
 ·intro i v hv;have hv:its[i]?=some v:=by simpa using hv
  have hi:i<its.length:=(Yau.mp hv).1;obtain ⟨u,hu,t,e⟩:=r.get (i:=i) (x:=.int (ns.getD i 0)) (by rw [Ybk,Ybd (by lia:i<ns.length),Ydz,Ybd (by lia:i<ns.length)];rfl);rw [hv] at hu;cases hu;exact ⟨t,e⟩
 ·have es:preSum (λi=>ns.getD i 0) its.toArray.size=ns.sum:=by
   rw [Yan,<-hl,UG ns _ (Yae _),Ycq]
  rw [es];obtain ⟨h',g',d',tk',o'⟩:=s';have e1:g'=s.gens:=M.gens;have e2:d'=s.drawn:=M.drawn;have e3:o'=s.os:=M.os;subst e1 e2 e3;refine ⟨.int ns.sum,H,I.kept (t':=tk') λc o e'=>M.heap c o (λz=>?_) (Yag _ e'),⟨t',rfl⟩,q⟩;have:c=s.heap.objs.size:=by simpa using z
  exact absurd (Yah e') (by rw [this];exact Ycb _)
end
section
variable {prog:Program}{w:World}{A:Around}{E:EX}{s:Shared}
theorem Zc4 (a v:Value):checkTypeCall "enumerate" ⟨[a],[(Str.ofString "start", v)]⟩=pure ():=by kernel_rfl
theorem Zea (a v:Value):checkBuiltinCall "enumerate.__new__" ⟨[.type "enumerate", a],[(Str.ofString "start", v)]⟩=pure ():=by kernel_rfl
theorem YG {l:Addr}{items:Array Value}{t:Tok}{Q:EX}(hL:s.heap.IsList l items)(h:∀h',IsEnum h' (s.heap.objs.size+1) s.heap.objs.size 2 .none->h'.IsListIter s.heap.objs.size l 0->h'.objs.size=s.heap.objs.size+2 ->
   (∀b o,s.heap.get? b=some o->h'.get? b=some o)->Q (.ref (s.heap.objs.size+1)) { s with heap:=h' }) :
  wpAny (model prog w) A (call (.type "enumerate") [.ref l] [(Str.ofString "start", .int 2 t)]) Q E s:=by
 have T:=F.called_enumerate;obtain ⟨c,tl,hmro⟩:=T.mro;have hmade:=T.made;have hsub:=T.sub;have h1:=T.notType;have h2:=T.canCreate;have e1:=Zc4 (.ref l) (.int 2 t);have e2:=Zea (.ref l) (.int 2 t);refine wpAny_call (codeAny_of_tree (Yab ⟨Code.quiet_builtin _ (by decide +kernel),Ycu F.entry_type_call ?_⟩))
 wp_walk
 obtain ⟨⟨c0,dct,dt,sl⟩,hl,hc,n,hd⟩:=id hL
 replace hc:c0=.type "list" := hc
 replace hd:dt=.seq items n:=hd
 subst hc hd;obtain ⟨hp,g,d,tk,os⟩:=s;refine codeAny_call_builtin T.plain F.entry_enumerate_new (wpAny_of_eq e2 ?_);have hsu:=sub_enumerate;have hli:=T.init.lookup;have ini:∀obj:Value,argsOk "object.__init__" ⟨[obj,.ref l],[(Str.ofString "start", .int 2 t)]⟩:=λobj=>by unfold argsOk;kernel_rfl
 have fin:Q (.ref (hp.push { cls:=.type "list_iterator", data:=.fields #[.ref l,.int 0 0] }).objs.size) ⟨(hp.push { cls:=.type "list_iterator", data:=.fields #[.ref l,.int 0 0] }).push { cls:=.type "enumerate", data:=.fields #[.none,.bool false,.ref hp.objs.size,rawInt 2,.none,.none] },g,d,tk,os⟩:=by
  have hz:=Ybx hp { cls:=.type "list_iterator", data:=.fields #[.ref l,.int 0 0] };have he:=Yay (hp.push { cls:=.type "list_iterator", data:=.fields #[.ref l,.int 0 0] }) (o:={ cls:=.type "enumerate", data:=.fields #[.none,.bool false,.ref hp.objs.size,rawInt 2,.none,.none] }) rfl;rw [hz] at he ⊢;exact h _ he ⟨_,Yag _ (Yay _ rfl),rfl,rfl⟩ (by rw [Ybx,hz]) λb o x=>Yag _ (Yag _ x)
 wp_walk using AutoSeq1.wpAny_loadPart' hl
 refine wpAny_stack_any λst=>Yab ?_;split;rename_i cc _ _ _ _ _;cases (cc == Value.type "enumerate")
 all_goals
  wp_walk using AutoSeq1.wpAny_loadPart' hl,wpAny_pyIter_list hL
  refine wpAny_of_eq (T.init.bind _) ?_
  wp_walk
  refine codeAny_call_builtin T.init.plain F.entry_object_init (T.init.check _ _ _ _ _ _ _ _ ⟨_,Yay _ rfl,rfl⟩ (ini _) ?_)
  wp_walk
  exact fin
end
section
variable {prog:Program}{w:World}{A:Around}
theorem U7 {it:Addr}{fp:List Addr}{n:Nat}{P:Nat->Value->Prop}{St:Nat->Heap->Prop}(D:Draws prog w A it fp n P St)(k:Nat):Draws prog w A it fp (n+k) (λi x=>k<=i/\P (i-k) x) (λi h=>k<=i/\St (i-k) h) where
 live:=λi h st=>D.live _ _ st.2
 frame:=λi h h' st q=>⟨st.1,D.frame _ _ _ st.2 q⟩
 item:=λi s Q E hi st q=>D.item (i-k) s Q E (by have:=st.1;lia) st.2 λx h' tk p st' sb=>q x h' tk ⟨st.1,p⟩ ⟨by have:=st.1;lia,by have:=st.1;rw [show i+1-k=i-k+1 by lia];exact st'⟩ sb
 done:=λs Q E st q=>D.done s Q E (by have:=st.2;rwa [Nat.add_sub_cancel] at this) q
end
section
variable {X:Cx}
noncomputable def ZfW (K:W.Frag)(a:Addr):It:=
 ⟨λi H=>∃xs x,SqL K H a xs/\xs[i]?=some x,λi H x H'=>∃T y,x=.ref T/\H T=none/\H'=upd H T (.tup [.int ((i:Nat)+2),y])/\∀xs,SqL K H a xs->xs[i]?=some y,λi H=>∃xs,SqL K H a xs/\xs.length=i⟩
theorem YH {P:Program}{w:World}{K:W.Frag}{elts:List Expr}{k:Nat}{pos:Pos}(a e it:Addr)(hne:e≠it)(hea:e≠a)(hia:a≠it) :
  ZbQ P w K (.Tuple elts k pos) (ZfW K a) [e,it] e (λi h=>(∃old,IsEnum h e it (((i+2:Nat)):Int) old)/\h.IsListIter it a i) where
 mem:=by simp
 obj:=λi h st b hb=>by
  obtain ⟨⟨old,he⟩,⟨o,ei,c,d⟩⟩:=st;rcases Yat.mp hb with rfl | hb
  ·exact ⟨_,he,λv z=>by
    have z':Data.fields _=Data.cell v:=z;cases z'⟩
  ·have eb:b=it:=by simpa using hb
   subst eb;exact ⟨o,ei,λv z=>by rw [d] at z;cases z⟩
 keep:=λi h h' st q=>by
  obtain ⟨⟨old,he⟩,hi⟩:=st;exact ⟨⟨old,q e (by simp) _ he⟩,hi.at λo ho=>q it (by simp) o ho⟩
 item:=by
  intro X hP hw hK hc i qQ s σ H E I hf st hg;subst hP hw hK;obtain ⟨xs,x,hq,hx⟩:=hg;obtain ⟨its,rv,p,hz⟩:=I.list hq;obtain ⟨u,hu,ru⟩:=rv.get hx;obtain ⟨⟨old,he⟩,hit⟩:=st;have hh:X.A.in1.handled=none:=I.ok.hd hc;have hil:i<its.length:=(Yau.mp hu).1;refine wpAny_pyNext_enum_itemD (U7 (Draws.list hh it a hia its.toArray) 2) he ⟨by lia,by rw [Nat.add_sub_cancel];exact ⟨hit,p.isList⟩⟩ (by rw [Yan];lia) hne (by simp [hne,hea]) λx' h1 tk px heo hit1 ht1 hz1 hk1=>?_;have ex:x'=u:=by
   have:=px.2;rw [Nat.add_sub_cancel] at this;have:its[i]?=some x':=by simpa using this
   rw [hu] at this;exact (Ybl this).symm
  subst ex;have hit1:h1.IsListIter it a (i+1):=by
   have:=hit1.2.1
   rwa [show i+2+1-2=i+1 by lia] at this
  refine ⟨_,rfl,wpAny_letOwnedTupleGo_enum (s:={ s with heap:=h1,toks:=tk+1 }) heo λh2 he2 hs2=>?_⟩;have hs2':Heap.SameBut e h1 h2:=hs2;have hfr:H s.heap.objs.size=none:=I.fresh;have hel:e<s.heap.objs.size:=Yah he;have kk:∀b o,b ∉ [e,it]->s.heap.get? b=some o->h2.get? b=some o:=λb o hb q=>by
   have n1:b≠e:=λz=>hb (by simp [z]);have n2:b≠it:=λz=>hb (by simp [z]);exact (hs2'.2 b n1).trans (hk1 b o n1 n2 q)
  have nT:∀b o,s.heap.get? b=some o->b≠s.heap.objs.size:=λb o q=>Yam (Yah q);have trk:∀c u,H c=some u->c ∉ [e,it]:=λc u q z=>by
   rw [(hf c z).1] at q;cases q
  refine ⟨.ref s.heap.objs.size,upd H s.heap.objs.size (.tup [.int ((i:Nat)+2),x]),I.call' (ch:=[e,it]) rfl ⟨λb o q _ _ hb=>kk b o hb q,λb o q _ _ hb=>⟨o.slots,kk b o hb q⟩,λb o q n _=>by rw [Gi (nT b o q)];exact n,
   λb o q hb=>⟨o,kk b o hb q⟩,λb ys q=>by rw [Gi (Gf q hfr)];exact q,λb o u q=>by rw [Gi (Gf q hfr)];exact q,λb ps q=>⟨#[],by rw [Gi (Gf q hfr),q];simp⟩⟩ (λb v q=>?_) I.bare (λb hb=>?_),
   rfl,⟨_,x,rfl,hfr,rfl,λys hy=>by rw [I.list_inj hy hq];exact hx⟩,⟨⟨_,by rw [show ((i+1+2:Nat):Int)=((i+2:Nat):Int)+1 by lia];exact he2⟩,hit1.extBut hs2'.extBut (Ne.symm hne)⟩,λb hb=>?_⟩
  ·by_cases hb:b=s.heap.objs.size
   ·subst hb;rw [Gb] at q;cases q;exact ⟨by have h16:=Ybh.symm;rw [<-h16];show 2<=16777216;lia,[.int ((i:Nat)+2) tk,x'],.cons ⟨_,rfl⟩ (.cons ru .nil),⟨_,(hs2'.2 _ (Ydm hel)).trans ht1,rfl,_,rfl⟩⟩
   ·rw [Gi hb] at q;refine (I.hok b v q).stay (λc v' hc z=>kk c v' ?_ z) (λc z=>by rw [Gi (Gf z hfr)];exact z) λc ys z=>by rw [Gi (Gf z hfr)];exact z
    rcases hc with rfl | hc
    ·exact trk _ _ q
    ·exact trk _ _ hc
  ·obtain ⟨f0,f1,f2,f3,f4,f5⟩:=hf b hb;exact ⟨f3,f1,f4,f5⟩
  ·have ho:∃o,s.heap.get? b=some o:=by
    rcases Yat.mp hb with rfl | hb
    ·exact ⟨_,he⟩
    ·have eb:b=it:=by simpa using hb
     subst eb;obtain ⟨o,ei,_⟩:=hit;exact ⟨o,ei⟩
   obtain ⟨o,ho⟩:=ho;rw [Gi (nT b o ho)];exact (hf b hb).1
 done:=by
  intro X hP hw hK hc i qQ s σ H E I hf st hg;subst hP hw hK;obtain ⟨xs,hq,hx⟩:=hg;obtain ⟨its,rv,p,hz⟩:=I.list hq;obtain ⟨⟨old,he⟩,hit⟩:=st;obtain ⟨f0,f1,f2,f3,f4,f5⟩:=hf it (by simp);have hl:=rv.length;have hh:X.A.in1.handled=none:=I.ok.hd hc;exact wpAny_pyNext_enum_endD (U7 (Draws.list hh it a hia its.toArray) 2) he ⟨by lia,by rw [Nat.add_sub_cancel,Yan];exact ⟨by rw [<-hl,hx];exact hit,p.isList⟩⟩ λh' eb=>⟨rfl,I.turned (t':=s.toks) (λb o hb q=>eb b o hb q) f0 f1 f3 f4 f5⟩
 self:=λ_ _ _ _ _ ⟨⟨_,he⟩,_⟩ h=>wpAny_pyIter_enum he h
noncomputable def Zeb (K:W.Frag)(ta:TA):TI:=λσ H R=>ta σ H λvs H1=>∃a xs,vs=[.ref a]/\SqL K H1 a xs/\R (ZfW K a) H1
theorem Zec (K:W.Frag){elts:List Expr}{k d2:Nat}{p0:Pos}{l:Expr}{ta:TA}{p pos kp p2:Pos}(hg:Gl X "enumerate")(hm:X.mg "enumerate" = none)(ha:PA X [l] ta)(h:X.K=K:=by rfl)(he:backTo pos (starEach [l] X.env)=(false,eval l X.env)::backTo pos (starEach [] X.env):=by rfl) :
  PI X (.Tuple elts k p0) (.Call (.Name "enumerate" p) [l] [⟨some "start", .Constant (.int 2) d2 p2,kp⟩] pos) (Zeb K ta):=by
 subst h;intro qQ s σ H R I h;refine Ydw (Op I hg hm boot_enumerate ?_);unfold callWith;refine Yaa (Ybp ?_);rw [he];refine PyProof.Rows.evalArgs_kwB rfl ?_;rw [<-he];refine thn (ha pos qQ s σ H _ I h) λus s1 ⟨vs,H1,I1,r1,q1⟩=>?_;obtain ⟨a,xs,e,hq,q⟩:=q1;subst e;obtain ⟨u,rfl,ru⟩:=r1.one;cases ru;refine PyProof.Rows.kws_cons (thn (Gd qQ s1 σ H1 (λv H'=>v=.int 2/\H'=H1) I1 ⟨rfl,rfl⟩) λw1 s2 ⟨z,H2,I2,rz,ez,eH⟩=>PyProof.Rows.kws_nil ?_);subst ez eH;obtain ⟨t2,rfl⟩:=rz;obtain ⟨its,rv,pl,hz⟩:=I2.list hq
 wp_walk
 have hb:((backTo pos (starEach [l] X.env)).any λx=>x.fst)=false:=by rw [he];rfl
 rw [hb];refine Yaa (YG pl.isList λh' hE hI hsz hk=>Yaa (Ybp (wpAny_point (Yab ?_))));refine wpAny_pyIter_enum hE ?_;have hlt:a<s2.heap.objs.size:=by obtain ⟨o,e,_⟩:=pl.isList;exact Yah e
 refine ⟨s2.heap.objs.size+1,[s2.heap.objs.size+1,s2.heap.objs.size],_,_,H2,rfl,I2.kept (t':=s2.toks) hk,YH a _ _ (Nat.succ_ne_self _) (by lia) (by lia),⟨⟨_,hE⟩,hI⟩,λb hb=>?_,q⟩;have e:s2.heap.objs.size<=b:=by
  rcases Yat.mp hb with rfl | hb
  ·exact Yda _
  ·have eb:b=s2.heap.objs.size:=by simpa using hb
   rw [eb];exact Yae _
 exact I2.fpOk e (I2.hok.fresh e)
theorem YI {K:PySem.W.Frag}{a D:Addr}{xs:List V}{g:TG}{tc:TT}{te:TE}{σ0:St}{R:Hp->Prop}{H1:Hp}(Pv:Nat->List V->Hp->Prop)(h0:Pv 0 [] (upd H1 D (.lst [])))(hl:∀i ys H,i<=xs.length->Pv i ys H->SqL K H a xs)(hs:∀i x ys H T,xs[i]?=some x->Pv i ys H->H T=none->g (.ref T) σ0 (upd H T (.tup [.int ((i:Nat)+2),x])) λσ4 H4=>JA σ0 σ4/\tc σ4 H4 λb H5=>if b=true then te σ4 H5 λy H6=>H6 D=some (.lst ys)/\ys.length<sizeLine/\Pv (i+1) (ys++[y]) (upd H6 D (.lst (ys++[y]))) else Pv (i+1) ys H5)(hd:∀ys H,Pv xs.length ys H->R H):∃W:Nat->Nat->List V->Hp->Prop,(∃m,W 0 m [] (upd H1 D (.lst [])))/\Jt (ZfW K a) D g tc te σ0 W R:=by
 refine ⟨λi m ys H=>m=xs.length-i/\i<=xs.length/\Pv i ys H,⟨_,rfl,Yao _,h0⟩,?_⟩;rintro i m ys H ⟨rfl,hi,p⟩;have q:=hl i ys H hi p;by_cases hlt:i<xs.length
 ·refine .inr ⟨⟨xs,xs[i],q,by simp [hlt]⟩,Pv (i+1),λys' H' p'=>⟨xs.length-(i+1),by lia,rfl,hlt,p'⟩,λx H' y=>?_⟩;obtain ⟨T,y',rfl,hT,rfl,y⟩:=y;exact hs i y' ys _ T (y xs q) p hT
 ·have e:i=xs.length:=by lia
  subst e;exact .inl ⟨⟨xs,q,rfl⟩,hd ys H p⟩
end
section
variable {prog:Program}{w:World}{A:Around}{E:EX}{s:Shared}
theorem Zac {it d:Addr}{i ep:Nat}{es:Array DictEntry}{o:Obj}{e:DictEntry}{Q:EX}(hit:s.heap.IsKeyIter it d i es.size ep)(ho:s.heap.get? d=some o)(hd:o.data=.dict es ep)(hi:es[i]?=some e)(q:∀h',h'.IsKeyIter it d (i+1) es.size ep->Heap.SameBut it s.heap h'->Q e.key { s with heap:=h' }):wpAny (model prog w) A (Builtin.«dict_keyiterator.__next__» ⟨[.ref it],[]⟩) (λfin s'=>∃v,fin=.done (.ret v)/\Q v s') E s:=by
 obtain ⟨⟨c0,d0,t0,sl0⟩,hoi,hci,hdi⟩:=id hit;subst hci hdi;have T:=hit.typeIs
 wp_walk using wpAny_fieldsOf hoi rfl,wpAny_dictEntries ho hd,wpAny_dictEpoch ho hd,Yfm T,wpAny_isOneOf_keyiter T
 rw [if_neg (by lia),Yck,hi]
 wp_walk using Yfm T,wpAny_isOneOf_keyiter T,wpAny_setField hoi rfl
 case hi=>exact (by decide:(0:Nat)+1<4)
 case h=>
  have K1:(s.heap.update it (Obj.mapFields (·.setIfInBounds 1 (rawInt ((i:Int)+1))))).IsKeyIter it d (i+1) es.size ep:=by
   exact ⟨_,Yei _ hoi rfl,rfl,rfl⟩
  have B1:Heap.SameBut it s.heap (s.heap.update it (Obj.mapFields (·.setIfInBounds 1 (rawInt ((i:Int)+1))))):=Yeo ..;have T1:=K1.typeIs (s:={ s with heap:=s.heap.update it (Obj.mapFields (·.setIfInBounds 1 (rawInt ((i:Int)+1)))) });show wpAny _ _ _ _ _ { s with heap:=s.heap.update it (Obj.mapFields (·.setIfInBounds 1 (rawInt ((i:Int)+1)))) };generalize s.heap.update it (Obj.mapFields (·.setIfInBounds 1 (rawInt ((i:Int)+1))))=h1 at K1 B1 T1 ⊢
  wp_walk using wpAny_isOneOf_keyiter T1
  exact ⟨_,rfl,q _ K1 B1⟩
theorem Zad {it d:Addr}{i ep:Nat}{es:Array DictEntry}{o:Obj}{Q:EX}(hh:A.handled=none)(hit:s.heap.IsKeyIter it d i es.size ep)(ho:s.heap.get? d=some o)(hd:o.data=.dict es ep)(hi:es[i]?=none)(q:∀h' e,(∀c o,c≠it->s.heap.get? c=some o->h'.get? c=some o)->(∃o,h'.get? e=some o/\o.cls=.type "StopIteration")->E (.ref e) { s with heap:=h' }):wpAny (model prog w) A (Builtin.«dict_keyiterator.__next__» ⟨[.ref it],[]⟩) (λfin s'=>∃v,fin=.done (.ret v)/\Q v s') E s:=by
 obtain ⟨⟨c0,d0,t0,sl0⟩,hoi,hci,hdi⟩:=id hit;subst hci hdi;have T:=hit.typeIs
 wp_walk using wpAny_fieldsOf hoi rfl,wpAny_dictEntries ho hd,wpAny_dictEpoch ho hd,Yfm T,wpAny_isOneOf_keyiter T
 rw [if_neg (by lia),Yck,hi]
 wp_walk using Yfm T,wpAny_setField hoi rfl
 case hi=>exact (by decide:(0:Nat)<4)
 case h=>
  have B1:Heap.SameBut it s.heap (s.heap.update it (Obj.mapFields (·.setIfInBounds 0 Value.none))):=Yeo ..;show wpAny _ _ _ _ _ { s with heap:=s.heap.update it (Obj.mapFields (·.setIfInBounds 0 Value.none)) };generalize s.heap.update it (Obj.mapFields (·.setIfInBounds 0 Value.none))=h1 at B1 ⊢
  wp_walk using wpAny_raiseNew_none hh
  exact q _ _ (λc o n e=>Yag _ (Yag _ (by rw [B1.2 c n];exact e))) ⟨_,Yay _ rfl,rfl⟩
theorem Zae {it d:Addr}{i ep:Nat}{es:Array DictEntry}{o:Obj}{e:DictEntry}{Q:Option Value->Shared->Prop}(hit:s.heap.IsKeyIter it d i es.size ep)(ho:s.heap.get? d=some o)(hd:o.data=.dict es ep)(hi:es[i]?=some e)(q:∀h',h'.IsKeyIter it d (i+1) es.size ep->Heap.SameBut it s.heap h'->Q (some e.key) { s with heap:=h' }):wpAny (model prog w) A (pyNext (.ref it)) Q E s:=by
 refine Yaa (Ydq (Yew hit.typeIs Yfn (Ycl Yfn hit.typeIs F.entry_dict_keyiterator_next (Zac hit ho hd hi λh' k b=>?_) (F.args_dict_keyiterator_next_1 _))))
 wp_walk
 exact q h' k b
theorem Zaf {it d:Addr}{i ep:Nat}{es:Array DictEntry}{o:Obj}{Q:Option Value->Shared->Prop}(hh:A.in1.handled=none)(hit:s.heap.IsKeyIter it d i es.size ep)(ho:s.heap.get? d=some o)(hd:o.data=.dict es ep)(hi:es[i]?=none)(q:∀h',(∀c o,c≠it->s.heap.get? c=some o->h'.get? c=some o)->Q none { s with heap:=h' }):wpAny (model prog w) A (pyNext (.ref it)) Q E s:=by
 refine Yaa (Ydq (Yew hit.typeIs Yfn (Ycl Yfn hit.typeIs F.entry_dict_keyiterator_next (Zad hh hit ho hd hi ?_) (F.args_dict_keyiterator_next_1 _))));rintro h' e k ⟨o',e1,e2⟩;exact Yaa (Yez ⟨o',e1,e2⟩ isSubtype_stop (Yab (q h' k)))
theorem Zag {d:Addr}{ep:Nat}{es:Array DictEntry}{o:Obj}{Q:EX}(hs:(d == sysModules)=false)(ho:s.heap.get? d=some o)(hc:o.ExactDict)(hd:o.data=.dict es ep)(q:∀h',h'.IsKeyIter s.heap.objs.size d 0 es.size ep->(∀c o,s.heap.get? c=some o->h'.get? c=some o)->Q (.ref s.heap.objs.size) { s with heap:=h' }):wpAny (model prog w) A (pyIter (.ref d)) Q E s:=by
 have T:s.TypeIs (.ref d) "dict" := ⟨o,ho,hc.1⟩;refine wpAny_pyIter_slot T F.slot_dict_iter (Ycl F.slot_dict_iter T F.entry_dict_iter ?_ (F.args_dict_iter_1 _))
 wp_walk using wpAny_notOrdered_dict T,wpAny_dictEntries ho hd,wpAny_dictEpoch ho hd
 exact ⟨_,rfl, "dict_keyiterator", _,⟨_,Yay _ rfl,rfl⟩,F.slot_dict_keyiterator_next.lookup,q _ ⟨_,Yay _ rfl,rfl,rfl⟩ λc o e=>Yag _ e⟩
end
section
variable {X:Cx}
theorem ZbB {α β:Type}{F:α->β->Prop}{l:List α}{m:List β}(h:Paired F l m):∀{i:Nat}{x:α},l[i]?=some x->∃y,m[i]?=some y/\F x y:=by
 induction h with
 | nil=>intro i x e;simp at e
 | @cons p q _ _ r _ ih=>
  intro i x e;cases i with
  | zero=>simp at e;subst e;exact ⟨q,by simp,r⟩
  | succ i=>simp at e;obtain ⟨y,h1,h2⟩:=ih e;exact ⟨y,by simpa using h1,h2⟩
end
structure GK (P:Program)(w:World)(κ:Type)[DecidableEq κ] where
 knd:HeapKind P w κ
 At:Hp->Addr->κ->Prop
 ok:∀{H:Hp}{h:Heap}{b:Addr}{k:κ},HOk P w H h->At H b k->knd.is h k b
 keep:∀{H H':Hp}{b:Addr}{k:κ},At H b k->(∀p ys,H p=some (.tup ys)->H' p=some (.tup ys))->At H' b k
 room:∀{A:Around},A.units+71<cLine->knd.room A.in1
noncomputable abbrev GKv (κ:Type):=List (κ×Addr×V)
section
variable {P:Program}{w:World}{κ:Type}[DecidableEq κ](G:GK P w κ)
noncomputable def GPr (p:κ×Addr×V)(q:κ×Addr×Value):Prop:=p.1=q.1/\p.2.1=q.2.1/\RelV p.2.2 q.2.2
noncomputable def gd (a:Addr)(kvs:GKv κ):HO:=.ext λh=>kvs.length<=sizeLine/\(a == sysModules)=false/\∃xs:List (κ×Addr×Value),Paired GPr kvs xs/\∃o es ep,h.get? a=some o/\o.ExactDict/\o.data=.dict es ep/\es.toList=xs.map (entryOfKey G.knd)/\(xs.map (·.1)).Nodup
noncomputable def GKeys (H:Hp)(kvs:GKv κ):Prop:=∀p∈kvs,G.At H p.2.1 p.1
noncomputable def ON (kvs:GKv κ)(k:κ):Option V:=(kvs.find? λp=>decide (p.1=k)).map (·.2.2)
end
section
variable {P:Program}{w:World}{κ:Type}[DecidableEq κ]{G:GK P w κ}{H H':Hp}{h:Heap}{a:Addr}{kvs:GKv κ}
theorem GKeys.keep (x:GKeys G H kvs)(t:∀p ys,H p=some (.tup ys)->H' p=some (.tup ys)):GKeys G H' kvs:=λp hp=>G.keep (x p hp) t
theorem Zah (ok:HOk P w H h)(e:Rd H a (gd G a kvs))(K:GKeys G H kvs):kvs.length<=sizeLine/\(a == sysModules)=false/\∃xs,Paired GPr kvs xs/\h.DictOfH G.knd a xs:=by
 obtain ⟨⟨z,y,xs,r,o,es,ep,h1,h2,h3,h4,h5⟩,_,_⟩:=(show ObjOk P w H h a (gd G a kvs) from e.ok ok);refine ⟨z,y,xs,r,o,es,ep,h1,h2,h3,h4,λx hx=>?_,h5⟩;have all:∀{l:GKv κ}{m:List (κ×Addr×Value)},Paired GPr l m->GKeys G H l->∀x∈m,G.knd.is h x.1 x.2.1:=by
  intro l m q
  induction q with
  | nil=>intro _ x hx;cases hx
  | @cons p q ps qs hq t ih=>
   intro K x hx;rcases Yat.mp hx with rfl | hx
   ·rw [<-hq.1,<-hq.2.1];exact G.ok ok (K p (Ybe ..))
   ·exact ih (λy hy=>K y (Ybb _ hy)) x hx
 exact all r K x hx
theorem XQ {xs:List (κ×Addr×Value)}(r:Paired GPr kvs xs)(k:κ):RelO (ON kvs k) ((atKey xs k).map (·.2)):=by
 induction r with
 | nil=>exact True.intro
 | @cons p q ps qs h t ih=>
  obtain ⟨h1,_,h2⟩:=h;by_cases e:p.1=k
  ·have e':q.1=k:=h1.symm.trans e;have a1:ON (p::ps) k=some p.2.2:=by simp [ON,Ycv,e]
   have a2:atKey (q::qs) k=some q.2:=by simp [atKey,Ycv,e']
   rw [a1,a2];exact h2
  ·have e':¬ q.1=k:=λz=>e (h1.trans z);have a1:ON (p::ps) k=ON ps k:=by simp [ON,Ycv,e]
   have a2:atKey (q::qs) k=atKey qs k:=by simp [atKey,Ycv,e']
   rw [a1,a2];exact ih
theorem Zce {xs:List (κ×Addr×Value)}(z:kvs.length<=sizeLine)(y:(a == sysModules)=false)(r:Paired GPr kvs xs)(dd:h.DictOfH G.knd a xs):ObjOk P w H' h a (gd G a kvs):=by
 obtain ⟨o,es,ep,h1,h2,h3,h4,_,h5⟩:=dd;refine ⟨⟨z,y,xs,r,o,es,ep,h1,h2,h3,h4,h5⟩,⟨o,h1⟩,λg1 g2 x k=>?_⟩;obtain ⟨z',y',xs',r',o',es',ep',e1,e2⟩:=x;exact ⟨z',y',xs',r',o',es',ep',k _ e1,e2⟩
theorem ZbC (h:Heap)(hb:sysModules<h.objs.size):ObjOk P w H (h.push { cls:=.type "dict", data:=.dict #[] }) h.objs.size (gd G h.objs.size ([]:GKv κ)):=by
 have e:(h.push { cls:=.type "dict", data:=.dict #[] }).get? h.objs.size=some { cls:=.type "dict", data:=.dict #[] }:=Yay _ rfl;refine Zce (Yao _) (Ydk.mpr (Ydm hb)) .nil ⟨_,#[],_,e,⟨rfl,rfl,rfl⟩,rfl,rfl,λx hx=>(by cases hx),Yea⟩
end
noncomputable def YJ {P:Program}{w:World}{κ:Type}[DecidableEq κ](G:GK P w κ)(H:Hp)(a:Addr)(y:V)(o:Option V):Prop:=∃kvs k b,Rd H a (gd G a kvs)/\GKeys G H kvs/\y=.ref b/\G.At H b k/\o=ON kvs k
section
variable {X:Cx}{κ:Type}[DecidableEq κ]{G:GK X.prog X.w κ}{qQ:List (Addr×Obj)}{σ:St}{H:Hp}{s:Shared}{a:Addr}{y v d:V}{u r:Value}{o:Option V}{A:Around}{E:EX}
theorem Zc5 {Q:EX}(hu:A.units+71<cLine)(I:Inv X qQ σ H s)(g:YJ G H a y o)(ry:RelV y u)(h:∀s',Inv X qQ σ H s'->Q (.bool (!o.isSome)) s') :
  wpAny (model X.prog X.w) A (compareOp .NotIn u (.ref a)) Q E s:=by
 obtain ⟨kvs,k,b,e,K,rfl,kb,rfl⟩:=g;cases (show u=Value.ref b from ry);obtain ⟨z,hd,xs,rel,dd⟩:=Zah I.hok e K;refine wpAny_notIn_heap (G.room hu) (G.ok I.hok kb) hd dd ?_;have q:=(XQ rel k).isSome_eq;rw [Option.isSome_map] at q;rw [<-q];exact h _ (I.tok _)
theorem Zai {Q:EX}(hu:A.units+71<cLine)(I:Inv X qQ σ H s)(g:YJ G H a y (some v))(ry:RelV y u)(h:∀w' s',Inv X qQ σ H s'->RelV v w'->Q w' s') :
  wpAny (model X.prog X.w) A (getItem (.ref a) u) Q E s:=by
 obtain ⟨kvs,k,b,e,K,rfl,kb,ev⟩:=g;cases (show u=Value.ref b from ry);obtain ⟨z,hd,xs,rel,dd⟩:=Zah I.hok e K;obtain ⟨w',hw,rw'⟩:=RelO.some_of (v:=v) (o:=(atKey xs k).map (·.2)) (by rw [ev];exact XQ rel k);obtain ⟨p,hp,rfl⟩:=Ybt.mp hw;exact wpAny_getItem_heap (G.room hu) (G.ok I.hok kb) dd hp (h _ _ (I.tok _) rw')
theorem Zaj {kvs:GKv κ}{k:κ}{b:Addr}{Q:Unit->Shared->Prop}(hu:A.units+71<cLine)(I:Inv X qQ σ H s)(e:H a=some (gd G a kvs))(K:GKeys G H kvs)(kb:G.At H b k)(hn:ON kvs k=none)(hl:kvs.length<sizeLine)(rv:RelV v r)(h:∀s',Inv X qQ σ (upd H a (gd G a (kvs++[(k,b,v)]))) s'->Q () s'):wpAny (model X.prog X.w) A (setItem (.ref a) (.ref b) r) Q E s:=by
 obtain ⟨z,hd,xs,rel,dd⟩:=Zah I.hok (.inl e) K;have hz:xs.length<=sizeLine:=by rw [<-Ycj rel];exact z
 have hn':atKey xs k=none:=Yfa.mp (RelO.none_of (by rw [<-hn];exact XQ rel k));refine wpAny_setItem_heap (hsz:=hz) (G.room hu) (G.ok I.hok kb) dd λh' dd' hs=>h _ ?_;rw [storedH_new hn'] at dd';have he:∃q,h'.get? a=some q:=let ⟨q,_,_,hq,_⟩:=dd';⟨q,hq⟩;exact Vj I (by rw [e];exact True.intro) hs he (Zce (by rw [Yak,Ybc];lia) hd (Paired.snoc rel ⟨rfl,rfl,rv⟩) dd')
theorem Inv.freezeG {kvs:GKv κ}(I:Inv X qQ σ H s)(e:H a=some (gd G a kvs)):∃o,Inv X qQ σ (upd H a (.frz o (gd G a kvs))) s:=by
 have ob:ObjOk X.prog X.w H s.heap a (gd G a kvs):=I.hok a _ e;obtain ⟨⟨_,_,_,_,o,_,_,h1,_⟩,_⟩:=id ob;have ob':ObjOk X.prog X.w (upd H a (.frz o (gd G a kvs))) s.heap a (gd G a kvs):=ob;exact ⟨o,I.write (x:=a) (e:=a) (o:=.frz o (gd G a kvs)) (h':=s.heap) (t':=s.toks) (by rw [e];exact True.intro) (.inl rfl) (λb u _ q=>q) ⟨_,h1⟩ ⟨h1,ob'⟩⟩
end
section
variable {X:Cx}{κ:Type}[DecidableEq κ]{G:GK X.prog X.w κ}{qQ:List (Addr×Obj)}{σ:St}{H:Hp}{s:Shared}{a:Addr}
theorem Zak {y:V}{o:Option V}(I:Inv X qQ σ H s)(g:YJ G H a y o):s.TypeIs (.ref a) "dict" /\ ∀b,Value.ref a=.ref b->∃ob,s.heap.get? b=some ob/\ob.dict=none:=by
 obtain ⟨kvs,k,b,e,K,_,_,_⟩:=g;obtain ⟨_,_,xs,_,dd⟩:=Zah I.hok e K;refine ⟨dd.typeIs,λb q=>?_⟩;cases q;obtain ⟨ob,_,_,h1,h2,_⟩:=dd;exact ⟨ob,h1,h2.2.1⟩
end
section
variable {P:Program}{w:World}{κ:Type}[DecidableEq κ](G:GK P w κ)
noncomputable def ZfX:TE:=λ_ H Q=>∀p,H p=none->Q (.ref p) (upd H p (gd G p ([]:GKv κ)))
noncomputable def Zc6 (ty td:TE):TE:=λσ H Q=>ty σ H λy H1=>td σ H1 λx H2=>∃a o,x=.ref a/\YJ G H2 a y o/\Q (.bl (!o.isSome)) H2
noncomputable def Zgt (td ty:TE):TE:=λσ H Q=>td σ H λx H1=>ty σ H1 λy H2=>∃a v,x=.ref a/\YJ G H2 a y (some v)/\Q v H2
noncomputable def ZfY (td ty tv:TE):TS:=λD σ H=>tv σ H λv H1=>td σ H1 λx H2=>ty σ H2 λy H3=>∃a b kvs k,x=.ref a/\y=.ref b/\H3 a=some (gd G a kvs)/\GKeys G H3 kvs/\G.At H3 b k/\ON kvs k=none/\kvs.length<sizeLine/\D.nx σ (upd H3 a (gd G a (kvs++[(k,b,v)])))
end
section
variable {X:Cx}{κ:Type}[DecidableEq κ]{G:GK X.prog X.w κ}{o i e f value:Expr}{pos pos' apos qG:Pos}{td ty tv tx:TE}
theorem Zal:PE X (.Dict [] [] pos) (ZfX G):=λqQ s σ H Q I h=>
 wpAny_Dict_empty ⟨.ref s.heap.objs.size,_,I.laid (a:=s.heap.objs.size) (o:=gd G s.heap.objs.size ([]:GKv κ)) (t':=s.toks) (λ_ _ q=>Yag _ q) (Yae _) (ZbC s.heap I.big),rfl,h _ (I.hok.fresh (Yae _))⟩
theorem Zam (hu:X.A.units+71<cLine)(hi:PE X i ty)(ho:PE X o td):PC X .NotIn i o (Zc6 G ty td):=by
 intro qQ s σ H Q I h;refine thn (hi qQ s σ H _ I h) λiv s1 ⟨y,H1,I1,ry,q1⟩=>thn (ho qQ s1 σ H1 _ I1 q1) λu s2 ⟨x,H2,I2,rx,a,ov,ex,g,q2⟩=>?_;subst ex;obtain rfl:u=Value.ref a:=rx;exact Zc5 hu I2 g ry λs3 I3=>⟨.bl (!ov.isSome),H2,I3,rfl,q2⟩
theorem OK (hu:X.A.units+71<cLine)(ho:PE X o td)(hi:PE X i ty)(hs:Ze8 i):PE X (.Subscript o i pos) (Zgt G td ty):=by
 intro qQ s σ H Q I h;refine Zq PySem.F.slot_dict_getitem.lookup hs (thn (ho qQ s σ H _ I h) λu s1 ⟨x,H1,I1,rx,q1⟩=>thn (hi qQ s1 σ H1 _ I1 q1) λiv s2 ⟨y,H2,I2,ry,a,v,ex,g,q2⟩=>?_);subst ex;obtain rfl:u=Value.ref a:=rx;exact ⟨(Zak I2 g).1,Zai hu I2 g ry λw' s3 I3 rw'=>⟨v,H2,I3,rw',q2⟩⟩
theorem WZ (hu:X.A.units+71<cLine)(ho:PE X o td)(hi:PE X i ty)(hv:PE X value tv)(hs:swapsWith value (some (.Subscript o i pos')) pos.line X.env=pure false) :
  PS X (.Assign [.Subscript o i pos'] value pos) (ZfY G td ty tv):=by
 intro qQ s σ H D I h;refine wpAny_Assign_Subscript (thn (hv qQ s σ H _ I h) λr s1 ⟨v,H1,I1,rv,q1⟩=>thn (ho qQ s1 σ H1 _ I1 q1) λu s2 ⟨x,H2,I2,rx,q2⟩=>thn (hi qQ s2 σ H2 _ I2 q2) λiv s3 ⟨y,H3,I3,ry,a,b,kvs,k,ex,ey,ea,K,kb,hn,hl,q3⟩=>?_) hs;subst ex ey;obtain rfl:u=Value.ref a:=rx;obtain rfl:iv=Value.ref b:=ry;exact Zaj hu I3 ea K kb hn hl rv λs4 I4=>⟨σ,_,I4,q3⟩
end
section
variable {X:Cx}{κ:Type}[DecidableEq κ]
noncomputable def ItG {P:Program}{w:World}(G:GK P w κ)(a:Addr)(o:Obj)(kvs:GKv κ):It:=
 ⟨λi H=>H a=some (.frz o (gd G a kvs))/\i<kvs.length,λi H x H'=>H'=H/\∃k b v,kvs[i]?=some (k,b,v)/\x=.ref b,λi H=>H a=some (.frz o (gd G a kvs))/\kvs.length<=i⟩
theorem VO {G:GK X.prog X.w κ}{qQ:List (Addr×Obj)}{σ:St}{H:Hp}{s:Shared}{a:Addr}{o:Obj}{kvs:GKv κ}(I:Inv X qQ σ H s)(e:H a=some (.frz o (gd G a kvs))) :
  (a == sysModules)=false/\s.heap.get? a=some o/\o.ExactDict/\∃es ep,o.data=.dict es ep/\es.size=kvs.length/\∀(i:Nat) k b v,kvs[i]?=some (k,b,v)->∃de:DictEntry,es[i]?=some de/\de.key=.ref b:=by
 obtain ⟨h1,⟨z,hd,xs,r,o',es,ep,h2,h3,h4,h5,h6⟩,_⟩:=(show ObjOk X.prog X.w H s.heap a (.frz o (gd G a kvs)) from I.hok a _ e);rw [h1] at h2;cases h2;refine ⟨hd,h1,h3,es,ep,h4,?_,λi k b v hi=>?_⟩
 ·rw [<-Yai,h5,Yad,Ycj r]
 ·obtain ⟨⟨k',b',u⟩,hq,e1,e2,_⟩:=ZbB r hi;refine ⟨entryOfKey G.knd (k',b',u),?_,?_⟩
  ·rw [<-Yaq,h5,Ybk,hq]
   rfl
  ·exact Ybf Value.ref e2.symm
theorem YK {P:Program}{w:World}{G:GK P w κ}{K:W.Frag}{tg:Expr}(a it:Addr)(o:Obj)(kvs:GKv κ)(es:Array DictEntry)(ep:Nat)(ho:o.data=.dict es ep)(hsz:es.size=kvs.length) :
  ZbQ P w K tg (ItG G a o kvs) [it] it (λi h=>h.IsKeyIter it a i es.size ep) where
 mem:=by simp
 obj:=λi h st b hb=>by
  have e:b=it:=by simpa using hb
  subst e;obtain ⟨o,e,c,d⟩:=st;exact ⟨o,e,λv z=>by rw [d] at z;cases z⟩
 keep:=λi h h' st k=>by
  obtain ⟨o,e,c,d⟩:=st;exact ⟨o,k it (by simp) o e,c,d⟩
 item:=by
  intro X hP hw hK hc i qQ s σ H E I hf st hg;subst hP hw hK;obtain ⟨hq,hi⟩:=hg;obtain ⟨hd,h1,h2,es',ep',h3,h4,h5⟩:=VO I hq;rw [ho] at h3;cases h3;obtain ⟨⟨k,b,v⟩,hx⟩:∃x,kvs[i]?=some x:=⟨_,Ybd hi⟩;obtain ⟨de,hde,hkey⟩:=h5 i k b v hx;obtain ⟨f0,f1,f2,f3,f4,f5⟩:=hf it (by simp);refine Zae st h1 ho hde λh' st' sb=>?_;have I1:Inv X qQ σ H { s with heap:=h' }:=I.turned (t':=s.toks) (λb o hb e=>(sb.2 b hb).trans e) f0 f1 f3 f4 f5;obtain ⟨o',e,c,d⟩:=id st';exact ⟨de.key,rfl,ZaK (s:={ s with heap:=h' }) e c d (by decide) ⟨.ref b,H,I1,hkey,⟨rfl,k,b,v,hx,rfl⟩,st',λb hb=>(hf b hb).1⟩⟩
 done:=by
  intro X hP hw hK hc i qQ s σ H E I hf st hg;subst hP hw hK;obtain ⟨hq,hi⟩:=hg;obtain ⟨hd,h1,h2,es',ep',h3,h4,h5⟩:=VO I hq;rw [ho] at h3;cases h3;obtain ⟨f0,f1,f2,f3,f4,f5⟩:=hf it (by simp);exact Zaf (I.ok.hd hc) st h1 ho (Yfi (by lia)) λh' eb=>⟨rfl,I.turned (t':=s.toks) (λb o hb e=>eb b o hb e) f0 f1 f3 f4 f5⟩
 self:=λ_ _ _ _ _ st h=>wpAny_pyIter_keyiter st h
noncomputable def Zed {P:Program}{w:World}(G:GK P w κ)(tl:TE):TI:=λσ H R=>tl σ H λx H1=>∃a kvs,x=.ref a/\((H1 a=some (gd G a kvs)/\∀o,R (ItG G a o kvs) (upd H1 a (.frz o (gd G a kvs))))\/∃o,H1 a=some (.frz o (gd G a kvs))/\R (ItG G a o kvs) H1)
theorem XR {G:GK X.prog X.w κ}{tg l:Expr}{tl:TE}(hl:PE X l tl):PI X tg l (Zed G tl):=by
 intro qQ s σ H R I h;refine thn (hl qQ s σ H _ I h) λv s1 ⟨x,H1,I1,r1,q1⟩=>?_;obtain ⟨a,kvs,e,q⟩:=q1;subst e;cases r1;obtain ⟨o,H2,I2,hq,q2⟩:∃o H2,Inv X qQ σ H2 s1/\H2 a=some (.frz o (gd G a kvs))/\R (ItG G a o kvs) H2:=by
  rcases q with ⟨e,q⟩ | ⟨o,e,q⟩
  ·obtain ⟨o,I2⟩:=I1.freezeG e;exact ⟨o,_,I2,Gb,q o⟩
  ·exact ⟨o,H1,I1,e,q⟩
 obtain ⟨hd,h1,h2,es,ep,h3,h4,h5⟩:=VO I2 hq;refine Zag hd h1 h2 h3 λh' st kp=>?_;refine ⟨s1.heap.objs.size,[s1.heap.objs.size],_,_,H2,rfl,I2.kept (t':=s1.toks) kp,YK a _ o kvs es ep h3 h4,st,λb hb=>?_,q2⟩;have e:b=s1.heap.objs.size:=by simpa using hb
 subst e;exact I2.fpOk (Yae _) (I2.hok.fresh (Yae _))
theorem Zan {P:Program}{w:World}{G:GK P w κ}{a:Addr}{o:Obj}{kvs:GKv κ}{g:TG}{tb:TS}{D:ZaD}{σ:St}{H:Hp}(Pv:Nat->St->Hp->Prop)(h0:Pv 0 σ H)(hl:∀i σ H,i<=kvs.length->Pv i σ H->H a=some (.frz o (gd G a kvs)))(hs:∀i k b v σ H,kvs[i]?=some (k,b,v)->Pv i σ H->g (.ref b) σ H λσ2 H2=>tb { D with nx:=Pv (i+1),ct:=Pv (i+1),bk:=D.nx } σ2 H2)(hd:∀ σ H,Pv kvs.length σ H->D.nx σ H) :
  ∃W:Nat->Nat->St->Hp->Prop,(∃m,W 0 m σ H)/\∀i m σ H,W i m σ H ->
   ((ItG G a o kvs).stop i H/\D.nx σ H)\/((ItG G a o kvs).go i H/\∃N:St->Hp->Prop,(∀ σ' H',N σ' H'->∃m',m'<m/\W (i+1) m' σ' H')/\∀x H',(ItG G a o kvs).yld i H x H'->g x σ H' λσ2 H2=>tb { D with nx:=N,ct:=N,bk:=D.nx } σ2 H2):=by
 refine ⟨λi m σ H=>m=kvs.length-i/\i<=kvs.length/\Pv i σ H,⟨_,rfl,Yao _,h0⟩,?_⟩;rintro i m σ H ⟨rfl,hi,p⟩;have q:=hl i σ H hi p;by_cases hlt:i<kvs.length
 ·refine .inr ⟨⟨q,hlt⟩,Pv (i+1),λσ' H' p'=>⟨kvs.length-(i+1),by lia,rfl,hlt,p'⟩,λx H' y=>?_⟩;obtain ⟨e,k,b,v,ek,rfl⟩:=y;subst e;exact hs i k b v σ _ ek p
 ·have e:i=kvs.length:=by lia
  subst e;exact .inl ⟨⟨q,Yae _⟩,hd σ H p⟩
theorem YL {P:Program}{w:World}{G:GK P w κ}{a D:Addr}{o:Obj}{kvs:GKv κ}{g:TG}{tc:TT}{te:TE}{σ0:St}{R:Hp->Prop}{H1:Hp}(Pv:Nat->List V->Hp->Prop)(h0:Pv 0 [] (upd H1 D (.lst [])))(hl:∀i ys H,i<=kvs.length->Pv i ys H->H a=some (.frz o (gd G a kvs)))(hs:∀i k b v ys H,kvs[i]?=some (k,b,v)->Pv i ys H->g (.ref b) σ0 H λσ4 H4=>JA σ0 σ4/\tc σ4 H4 λc H5=>if c=true then te σ4 H5 λy H6=>H6 D=some (.lst ys)/\ys.length<sizeLine/\Pv (i+1) (ys++[y]) (upd H6 D (.lst (ys++[y]))) else Pv (i+1) ys H5)(hd:∀ys H,Pv kvs.length ys H->R H):∃W:Nat->Nat->List V->Hp->Prop,(∃m,W 0 m [] (upd H1 D (.lst [])))/\Jt (ItG G a o kvs) D g tc te σ0 W R:=by
 refine ⟨λi m ys H=>m=kvs.length-i/\i<=kvs.length/\Pv i ys H,⟨_,rfl,Yao _,h0⟩,?_⟩;rintro i m ys H ⟨rfl,hi,p⟩;have q:=hl i ys H hi p;by_cases hlt:i<kvs.length
 ·refine .inr ⟨⟨q,hlt⟩,Pv (i+1),λys' H' p'=>⟨kvs.length-(i+1),by lia,rfl,hlt,p'⟩,λx H' y=>?_⟩;obtain ⟨e,k,b,v,ek,rfl⟩:=y;subst e;exact hs i k b v ys _ ek p
 ·have e:i=kvs.length:=by lia
  subst e;exact .inl ⟨⟨q,Yae _⟩,hd ys H p⟩
end
section
variable {X:Cx}
noncomputable def Zee (i:Nat)(f:Addr)(sp:Sp)(dvs:List V)(E:XK)(t:TA):TE:=λσ H Q=>σ[i]?=some (some (.ref f))/\ZdF sp dvs E t σ H Q
theorem ZbD {CX:CXT}{k i:Nat}{f:Addr}{fd:FuncData}{ps:List Str}{sp:Sp}{ds:List Value}{dvs:List V}{E:XK}{x:Str}{e:Expr}{es:List Expr}{t:TA}{p pos:Pos}(F:G7 X.prog X.w X.K X.mg X.base CX k f fd ps sp)(hr:Room k X.A)(hv:PE X (.Name x p) (Zfm i))(hk:W.keepIn X.K (.ref f)=true)(hb:Binds X.K fd ps ds)(hd:Vals dvs ds)(hx:Ou CX X E)(ha:PA X (e::es) t)(he:starEach (e::es) X.env=(false,eval e X.env)::starEach es X.env:=by rfl)(hpl:(backTo pos (starEach es X.env)).any (·.1)=false:=by rfl):PE X (.Call (.Name x p) (e::es) [] pos) (Zee i f sp dvs E t):=by
 intro qQ s σ H Q I h;refine Ydw (thn (hv qQ s σ H (λv H'=>v=.ref f/\H'=H) I ⟨_,h.1,rfl,rfl⟩) λu s1 ⟨v,H1,I1,r1,ev,eH⟩=>?_);subst ev eH;obtain rfl:u=Value.ref f:=r1;refine W.callWith_K (h₀:=X.base) I1.ok.mod.kin hk (thn (ha pos qQ s1 σ H1 _ I1 h.2) λus s2 ⟨vs,H2,I2,r,q⟩=>⟨I2.kIn,?_⟩) he hpl;exact Y8 F hr hb hd hx I2 r q
end
section
variable {prog:Program}{w:World}{A:Around}{E:EX}{s:Shared}{d:Addr}{o:Obj}{es:Array DictEntry}{ep:Nat}
end
section
variable {prog:Program}{w:World}{A:Around}{E:EX}{s:Shared}
theorem UM {r q:Addr}{vs:List Value}{kz:List Int}{J:Shared->Prop}{Q:EX}(hv:s.heap.IsList r vs.toArray)(hz:vs.length<=sizeLine)(hl:kz.length=vs.length)(hJ:∀h' tk,(∀c o,s.heap.get? c=some o->h'.get? c=some o)->J { s with heap:=h',toks:=tk })(put:∀(s1:Shared)(c:Addr)(f:Obj->Obj),s.heap.objs.size<=c->J s1->J { s1 with heap:=s1.heap.update c f })(ask:∀(i:Nat)(v:Value)(k:Int)(s1:Shared)(R:EX)(E':EX),vs[i]?=some v->kz[i]?=some k->J s1 ->
   (∀t s2,J s2->s1.heap.objs.size<=s2.heap.objs.size->(∀c o,s.heap.objs.size<=c->s1.heap.get? c=some o->s2.heap.get? c=some o)->R (.int k t) s2)->wpAny (model prog w) A.in1.in1 (call (.ref q) [v]) R E' s1)(fin:∀(s2:Shared)(l:Addr)(out:Array Value)(c:Nat),J s2->s.heap.objs.size<=l->s2.heap.get? l=some (seqObj "list" out c)->ZfS kz vs out.toList->Q (.ref l) s2) :
  wpAny (model prog w) A (call (.builtin "sorted") [.ref r] [(Str.ofString "key", .ref q),(Str.ofString "reverse", .bool true)]) Q E s:=by
 have h16:=Ybh;refine call_function_entry_kw kind_sorted plain_sorted entry_sorted (ksk_s2 _ _ _) ?_;unfold Builtin.sorted;refine Yaa (Yab ?_);refine Yaa (collect_list hv ?_ hz);generalize hh1:(s.heap.push (seqObj "list" #[] 0)).update s.heap.objs.size (Obj.mapSeq λx=>x++vs.toArray)=h1;have sz:s.heap.objs.size<=h1.objs.size:=by rw [<-hh1,Heap.size_update,Ybx];exact Yda _
 have k1:∀c o,s.heap.get? c=some o->h1.get? c=some o:=λc o e=>by
  rw [<-hh1];exact GT (Yam (Yah e)) (Yag _ e)
 refine Yaa (Yer ?_ hz);have k2:∀c o,s.heap.get? c=some o->(h1.push { cls:=Value.type "list", data:=Data.seq vs.toArray }).get? c=some o:=λc o e=>Yag _ (k1 c o e);have eL:(h1.push { cls:=Value.type "list", data:=Data.seq vs.toArray }).get? h1.objs.size=some (seqObj "list" vs.toArray 0):=Yay _ rfl;have zz:(h1.push { cls:=Value.type "list", data:=Data.seq vs.toArray }).objs.size=h1.objs.size+1:=Ybx ..;show wpAny _ _ _ _ _ { s with heap:=h1.push { cls:=Value.type "list", data:=Data.seq vs.toArray } };have hput:∀h':Heap,(∀c o,s.heap.get? c=some o->h'.get? c=some o)->J { s with heap:=h' }:=λh' k=>hJ h' s.toks k;generalize h1.push { cls:=Value.type "list", data:=Data.seq vs.toArray }=h2 at k2 eL zz ⊢;refine Yaa (Ybp (wpAny_call_entry_kw (s:={ s with heap:=h2 }) slot_list_sort ⟨_,eL,rfl⟩ entry_list_sort ?_ (ksk_l2 _ _ _)));refine VD (s:={ s with heap:=h2 }) (J:=λs1=>J s1) eL hz hl ⟨λs1 c f hc j=>put s1 c f (by rcases hc with rfl | rfl;exact sz;show _<=h2.objs.size+1;lia) j⟩ ?_ ?_ ?_
 ·refine hput _ λc o e=>Yag _ (Yag _ ((Ycm _ _ ?_).trans (k2 c o e)));exact Ydm (Ybi (Yah e) sz)
 ·intro i v k s1 R E' hvi hk j _ hR;exact ask i v k s1 R E' hvi hk j λt s2 j2 l2 kp=>hR t s2 j2 l2 λc o hc e=>kp c o (by rcases hc with rfl | rfl;exact sz;show _<=h2.objs.size+1;lia) e
 ·intro s2 out c j e F;exact ⟨.none,rfl,Yab ⟨_,rfl,fin s2 _ out c j sz e F⟩⟩
end
section
variable {X:Cx}
theorem XS:∀{bs:List Addr}{us:List Value}{i:Nat}{v:Value},Vals (bs.map V.ref) us->us[i]?=some v->∃b,bs[i]?=some b/\v=.ref b
 | [],_,i,v,h,e=>by cases h;simp at e
 | b::bs,_,0,v,h,e=>by
  cases h with
  | cons r t=>cases r;simp at e;exact ⟨b,rfl,e.symm⟩
 | b::bs,_,i+1,v,h,e=>by
  cases h with
  | cons r t=>obtain ⟨c,h1,h2⟩:=XS (i:=i) t (by simpa using e);exact ⟨c,by simpa using h1,h2⟩
theorem Zao:∀{bs:List Addr}{us:List Value},Vals (bs.map V.ref) us->us=bs.map Value.ref
 | [],_,h=>by cases h;rfl
 | b::bs,_,h=>by
  cases h with
  | cons r t=>cases r;rw [Zao t];rfl
theorem O4:∀bs:List Addr,Vals (bs.map V.ref) (bs.map Value.ref)
 | []=>.nil
 | b::bs=>.cons rfl (O4 bs)
theorem YM {κ:Type}[DecidableEq κ]{G:GK X.prog X.w κ}{qQ:List (Addr×Obj)}{σ:St}{H:Hp}{s:Shared}{a:Addr}{y v:V}{u:Value}{A:Around}{E:EX}{Q:EX}(hu:A.units+71<cLine)(I:Inv X qQ σ H s)(g:YJ G H a y (some v))(ry:RelV y u)(h:∀w' tk,RelV v w'->Q w' { s with toks:=tk }) :
  wpAny (model X.prog X.w) A (getItem (.ref a) u) Q E s:=by
 obtain ⟨kvs,k,b,e,K,rfl,kb,ev⟩:=g;cases (show u=Value.ref b from ry);obtain ⟨z,hd,xs,rel,dd⟩:=Zah I.hok e K;obtain ⟨w',hw,rw'⟩:=RelO.some_of (v:=v) (o:=(atKey xs k).map (·.2)) (by rw [ev];exact XQ rel k);obtain ⟨p,hp,rfl⟩:=Ybt.mp hw;exact wpAny_getItem_heap (G.room hu) (G.ok I.hok kb) dd hp (h _ _ rw')
noncomputable def Zef {P:Program}{w:World}{κ:Type}[DecidableEq κ](G:GK P w κ)(K:W.Frag)(j:Nat)(qual:Str)(params:Arguments)(body:Expr)(scope:Scope)(clos:List (Str×Addr))(pm:Value):St->List V->List V->Hp->VK->Prop:=λσ xs zs H Q=>
 ∃(r f c nd:Addr)(oc:Obj)(ctv:Value)(ts:List (Addr×Int)),xs=[.ref r]/\zs=[.ref f,.bl true]/\SqL K H r (ts.map λt=>V.ref t.1) /\
  H f=some (.frz (W.kla_obj "<lambda>" qual params body scope clos pm c ctv) (.own f))/\H c=some (.frz oc (.own c))/\Zd4 qual oc/\σ[j]?=some (some (.ref nd)) /\
  (∀t∈ts,∃(b:Addr)(ys:List V),YJ G H nd (.ref t.1) (some (.ref b))/\SqT K H b (V.int t.2::ys)) /\
  ∀(l:Addr)(ps:List (Addr×Int)),H l=none->ps.Perm ts->ps.Pairwise (λp q=>q.2<=p.2)->Q (.ref l) (upd H l (.lst (ps.map λt=>V.ref t.1)))
theorem YN {κ:Type}[DecidableEq κ]{G:GK X.prog X.w κ}{K:W.Frag}{j:Nat}{x y:Str}{qual:Str}{params:Arguments}{scope:Scope}{pm:Value}{cc:Addr}{p1 p2 p5 p6 p7:Pos}{d2:Nat}(hK:X.K=K)(jJ:X.A.in1.in1.depth<recursionLimit)(hu:X.A.units+80<cLine)(hN:X.N[j]?=some y)(hv:Vis X.env.scope y)(hky:X.env.kindOf y=some .cell)(hcy:X.env.cells.lookup y=some cc)(hco:scope.isCoroutine=false)(hgen:scope.isGenerator=false)(hk:scope.kind=.function)(hbind:∀(c:Addr)(ctv arg:Value),bindArgs (W.kla_fn "<lambda>" qual params (.Subscript (.Subscript (.Name y p1) (.Name x p2) p5) (.Constant (.int 0) d2 p6) p7) scope [(y,cc)] pm (.ref c) ctv) ⟨[arg],[]⟩=pure [(x,arg)])(hlx:scope.names.lookup x=some .local)(hly:scope.names.lookup y=some .free)(jX:∀z∈scope.names,z.2≠.cell)(hdx:(x == ("__debug__" : Str))=false)(hdy:(y == ("__debug__" : Str))=false)(hcd:(y == ("__classdict__" : Str))=false)(qQ:List (Addr×Obj))(s:Shared)(σ:St)(H:Hp)(xs:List V)(us:List Value)(zs:List V)(ws:List Value)(Q:VK)(I:Inv X qQ σ H s)(rx:Vals xs us)(rz:Vals zs ws)(h:Zef G K j qual params (.Subscript (.Subscript (.Name y p1) (.Name x p2) p5) (.Constant (.int 0) d2 p6) p7) scope [(y,cc)] pm σ xs zs H Q) :
  wpAny (model X.prog X.w) X.A (call (.builtin "sorted") us (([Str.ofString "key", Str.ofString "reverse"]:List Str).zip ws)) (EP X qQ σ Q) X.xe s:=by
 subst hK;obtain ⟨r,f,c,nd,oc,ctv,ts,rfl,rfl,er,ef,ec,⟨vs1,tq,hd1,hv1⟩,eσ,ht,q⟩:=h;obtain ⟨u,rfl,ru⟩:=rx.one;cases ru;obtain ⟨u1,u2,rfl,ru1,ru2⟩:=rz.two;cases ru1;cases ru2;obtain ⟨its,rv,pl,hz⟩:=I.list er;have qV:=rv.length;rw [Yad] at qV hz;have h16:=Ybh.symm;have rv':Vals ((ts.map Prod.fst).map V.ref) its:=by rw [Ydt];exact rv
 have keepI:∀(h1:Heap)(tk:Nat),(∀b o,s.heap.get? b=some o->h1.get? b=some o)->Inv X qQ σ H { s with heap:=h1,toks:=tk }:=λh1 tk k=>I.kept (t':=tk) k;show wpAny (model X.prog X.w) X.A (call (.builtin "sorted") [.ref r] [(Str.ofString "key", .ref f),(Str.ofString "reverse", .bool true)]) (EP X qQ σ Q) X.xe s;refine UM (kz:=ts.map (·.2)) (vs:=its) (J:=λs1=>∃h1 tk,s1={ s with heap:=h1,toks:=tk }/\∀b o,s.heap.get? b=some o->h1.get? b=some o) pl.isList (by lia) (by rw [Yad];exact qV)
  (λh1 tk k=>⟨h1,tk,rfl,k⟩) ?_ ?_ ?_
 ·rintro s1 d g hd ⟨h1,tk,rfl,k⟩;exact ⟨_,tk,rfl,λb o e=>(Ycm _ _ (Ydm (Ybi (Yah e) hd))).trans (k b o e)⟩
 ·rintro i v k s1 R E' hvi hki ⟨h1,tk,rfl,kp⟩ hR;have I1:=keepI h1 tk kp;obtain ⟨ti,eti,rfl⟩:∃ti,ts[i]?=some ti/\ti.2=k:=by
   rw [Ybk] at hki;obtain ⟨ti,h1,h2⟩:=Ybt.mp hki;exact ⟨ti,h1,h2⟩
  obtain ⟨b0,hb0,rfl⟩:=XS rv' hvi;have eb0:b0=ti.1:=by
   rw [Ybk,eti] at hb0;exact (Ybl hb0).symm
  subst eb0;have of:h1.get? f=some (W.kla_obj "<lambda>" qual params (.Subscript (.Subscript (.Name y p1) (.Name x p2) p5) (.Constant (.int 0) d2 p6) p7) scope [(y,cc)] pm c ctv):=(I1.hok f _ ef).1;have oc1:h1.get? c=some oc:=(I1.hok c _ ec).1;refine Zbx (s:={ s with heap:=h1,toks:=tk }) (x:=x) jJ of ⟨c,oc,vs1,tq,rfl,oc1,hd1,hv1⟩ (I1.ok.mod.nolimit.keeps I1.bk) hco hgen hk (hbind _ _ _) hlx jX λh2 L k2 sz hns=>?_;have I2:Inv X qQ σ H { s with heap:=h2,toks:=tk+1 }:=keepI h2 (tk+1) λb o e=>k2 b o (kp b o e);obtain ⟨m,hm,lk⟩:=I2.loc;obtain ⟨u,ru,lu⟩:=lk j y _ hN eσ hv;cases ru;have hcl:h2.IsCell cc (some (.ref nd)):=by
   rcases lu with ⟨z,_⟩ | ⟨_,c2,z1,z2⟩
   ·rw [hky] at z;cases z
   ·rw [hcy] at z1;cases z1;exact z2
  obtain ⟨b,ys,gg,hb⟩:=ht ti (Ybg eti);refine Subscript_ (Subscript_ (wpAny_Name (wpAny_loadName_free hk hly (by simp) hcl ?_ hcd) hdy));refine wpAny_Name (wpAny_loadName_local hk hlx hns (show (λz=>[(x,Value.ref ti.1)].reverse.lookup z) x=some (.ref ti.1) by simp) ?_) hdx;refine tail_any (ops:=[.ref nd,.ref ti.1]) (Zak I2 gg).1 PySem.F.slot_dict_getitem.lookup (YM (s:={ s with heap:=h2,toks:=tk+1 }) (by show X.A.units+1+1+3+71<cLine;lia) I2 gg rfl λw' tk' rw'=>?_) rfl;obtain rfl:w'=Value.ref b:=rw';have I3:Inv X qQ σ H { s with heap:=h2,toks:=tk' }:=keepI h2 tk' λb o e=>k2 b o (kp b o e);obtain ⟨its2,rv2,pl2,hz2⟩:=I3.tuple hb;obtain ⟨uk,gk,rk⟩:=rv2.get (show (V.int ti.2::ys)[0]?=some (V.int ti.2) from rfl);obtain ⟨tu,rfl⟩:=rk;have hvz:0<its2.length:=(Yau.mp gk).1;have hz3:its2.length<=sizeLine:=by rw [<-rv2.length];exact hz2
  refine wpAny_Constant_int ?_;exact subscriptTail_builtinR (x:=.int ti.2 tu) pl2.typeIs slot_tuple_getitem.lookup (getItem_tuple (j:=0) (Q:=λr s'=>r=.int ti.2 tu/\R r s') pl2 (by decide) (by decide) (by rw [Yan,seqIndex_of (by lia) (by lia)];rfl) (by simpa using gk) ⟨rfl,hR tu _ ⟨h2,_,rfl,λb o e=>k2 b o (kp b o e)⟩ sz λb o _ e=>k2 b o e⟩) rfl
 ·rintro s2 l out cn ⟨h1,tk,rfl,kp⟩ hl eL ⟨ps,pm,po,pw⟩;have ei:=Zao rv';have ez:(ts.map (·.2)).zip its=ts.map λt=>(t.2,Value.ref t.1):=by
   rw [ei,Ydt,List.zip_map']
   rfl
  rw [ez] at pm;obtain ⟨qs,q1,rfl⟩:=JI pm;have eo:out.toList=(qs.map Prod.fst).map Value.ref:=by
   rw [po,Ydt,Ydt]
   rfl
  rw [Yby] at pw;have hql:=q1.length_eq;refine ⟨.ref l,_,I.laid (a:=l) (o:=.lst (qs.map λt=>V.ref t.1)) (h':=h1) (t':=tk) kp hl ⟨by rw [Yad];lia,out.toList,cn,?_,by simpa [seqObj] using eL⟩,rfl,q l qs (I.hok.fresh hl) q1 pw⟩;rw [eo];have:=O4 (qs.map Prod.fst);rw [Ydt] at this;exact this
end
end L2
namespace M
open PySem L2
noncomputable def top (i:Nat):Stmt:=PySem.Challenge.pw_onceways_k57_papers_looked_at.main.body.getD i (.Pass ⟨0,0,0,0⟩)
noncomputable abbrev Zfc:Stmt:=top 1
noncomputable abbrev Zfd:Stmt:=top 2
noncomputable abbrev Zeg:Stmt:=top 9
noncomputable abbrev Zdk:Stmt:=top 10
noncomputable abbrev Zeh:Stmt:=top 11
noncomputable abbrev Zei:Stmt:=top 12
noncomputable abbrev Zej:Stmt:=top 13
noncomputable abbrev Zfe:Stmt:=top 15
noncomputable abbrev Zff:Stmt:=top 16
noncomputable abbrev Zek:Stmt:=top 18
noncomputable abbrev Zdl:Stmt:=top 19
noncomputable abbrev Zfg:Stmt:=top 20
noncomputable abbrev Zel:Stmt:=top 21
noncomputable abbrev Zfh:Stmt:=top 22
noncomputable abbrev Zem:Stmt:=top 23
noncomputable abbrev Zfi:Stmt:=top 24
noncomputable abbrev Zfj:Stmt:=top 25
noncomputable abbrev Zfk:Stmt:=top 26
noncomputable abbrev ZbE:Stmt:=top 27
noncomputable abbrev ZbF:Stmt:=Zg (top 8) 0
noncomputable abbrev Zc7:Stmt:=Zg (top 8) 1
section
variable {P:Program}{w:World}{K:W.Frag}{mg:Str->Option Value}{base:Heap}
theorem U8:2<=sizeLine:=by decide
theorem Zc8 {xs:List V}{i:Int}{v:V}(h0:0<=i)(h:xs[i.toNat]?=some v):atI xs i=some v:=by
 obtain ⟨k,rfl⟩:=Int.eq_ofNat_of_zero_le h0;exact Gs h
theorem Zap {H:Hp}{xs:List V}{ts:List Tri}(T:Trs H xs ts){c:Int}{r:Tri}(n:Nd ts c r):∃t,atI xs (c-2)=some (.ref t)/\H t=some (.tup [.int r.1,.int r.2.1,.int r.2.2]):=by
 obtain ⟨t,h1,h2⟩:=T.at n.2;exact ⟨t,Zc8 (by have:=n.1;lia) h1,h2⟩
structure TabAt (H:Hp)(tb l:Addr)(root:Int)(xs:List V)(ts:List Tri):Prop where
 w:H tb=some (.tup [.int root,.ref l])
 l:H l=some (.lst xs)
 t:Trs H xs ts
theorem TabAt.same {H H':Hp}{tb l:Addr}{root:Int}{xs:List V}{ts:List Tri}(h:TabAt H tb l root xs ts)(s:Same H H'):TabAt H' tb l root xs ts:=⟨s _ _ h.w,s _ _ h.l,h.t.same s⟩
theorem Up {ns:List Int}{i:Nat}{x:V}(h:(ns.map V.int)[i]?=some x):∃z,x=.int z/\ns[i]?=some z:=by
 rw [Ybk] at h;cases hz:ns[i]? with
 | none=>rw [hz] at h;cases h
 | some z=>rw [hz] at h;cases h;exact ⟨z,rfl,rfl⟩
end
section
theorem ZfZ:¬ (("most" : Str) = "nodes"):=by decide +kernel
theorem Zf0:¬ (("most" : Str) = "places"):=by decide +kernel
theorem Zf1:¬ (("nodes" : Str) = "places"):=by decide +kernel
noncomputable def ZaH (m:V)(nl pd:Addr):List (Str×V):=O0 "places" (.ref pd) (O0 "nodes" (.ref nl) (O0 "most" m []))
theorem Wy (m:V)(nl pd:Addr):(ZaH m nl pd).lookup ("most" : Str)=some m:=by
 unfold ZaH;rw [GE,if_neg Zf0,GE,if_neg ZfZ,GE,if_pos rfl]
theorem J9 (m:V)(nl pd:Addr):(ZaH m nl pd).lookup ("nodes" : Str)=some (.ref nl):=by
 unfold ZaH;rw [GE,if_neg Zf1,GE,if_pos rfl]
theorem Jx (m:V)(nl pd:Addr):(ZaH m nl pd).lookup ("places" : Str)=some (.ref pd):=by
 unfold ZaH;rw [GE,if_pos rfl]
theorem Zc9 (m:V)(nl pd:Addr){x:Str}(h1:¬ x = "places")(h2:¬ x = "nodes")(h3:¬ x = "most"):(ZaH m nl pd).lookup x=none:=by
 unfold ZaH;rw [GE,if_neg h1,GE,if_neg h2,GE,if_neg h3]
 rfl
end
structure PlOk (kvs:List (List Key×V))(ts:List Tri):Prop where
 s:SeenOk kvs ts
 n:∀r:Tri,JP kvs (UL r)=none->r ∉ ts
 l:kvs.length<=ts.length
theorem PlOk.nil:PlOk [] []:=⟨λr v e=>(by cases e),λr _ h=>(by cases h),Yae _⟩
theorem PlOk.add {kvs:List (List Key×V)}{ts:List Tri}(S:PlOk kvs ts)(r:Tri):PlOk (JL kvs (UL r) (.int ((ts.length:Int)+2))) (ts++[r]):=by
 refine ⟨S.s.add rfl,λq e hq=>?_,Ybr (Je _ _ _) (by rw [Yak,Ybc];have:=S.l;lia)⟩;rw [Jn] at e;by_cases h:UL q=UL r
 ·rw [if_pos h] at e;cases e
 ·rw [if_neg h] at e;rcases Yal.mp hq with z | z
  ·exact S.n q e z
  ·exact h (by rw [Yaw.mp z])
structure ShelfAt (C:Addr)(H:Hp)(p nl pd:Addr)(m:V)(xs:List V)(ts:List Tri)(kvs:List (List Key×V)):Prop where
 ob:∃dx,H p=some (.ins C dx (ZaH m nl pd))
 nd:H nl=some (.lst xs)
 tr:Trs H xs ts
 pl:H pd=some (.dT kvs)
 ok:PlOk kvs ts
structure Shf (C:Addr)(H0 H:Hp)(p nl pd:Addr)(m:V)(ts:List Tri):Prop where
 kp:∀b o,b≠nl->b≠pd->H0 b=some o->H b=some o
 at_:∃xs kvs,ShelfAt C H p nl pd m xs ts kvs
section
variable {C p nl pd:Addr}{H0 H H':Hp}{m:V}{xs:List V}{ts:List Tri}{kvs:List (List Key×V)}
theorem ShelfAt.same (S:ShelfAt C H p nl pd m xs ts kvs)(s:Same H H'):ShelfAt C H' p nl pd m xs ts kvs:=
 ⟨S.ob.elim λdx e=>⟨dx,s _ _ e⟩,s _ _ S.nd,S.tr.same s,s _ _ S.pl,S.ok⟩
end
structure Zen (K:W.Frag)(mg:Str->Option Value)(C TM:Addr):Prop where
 cl:Cls K C
 nM:NoAttr K C "most"
 nN:NoAttr K C "nodes"
 nP:NoAttr K C "places"
 mgC:mg "Shelf" = some (.ref C)
section
variable {P:Program}{w:World}{K:W.Frag}{mg:Str->Option Value}{base:Heap}
noncomputable def Zeo (C:Addr):Sp:=λvs H Q _=>∃(p dx:Addr)(m:V),vs=[.ref p,m]/\H p=some (.ins C dx [])/\∀(nl pd:Addr)(H':Hp),H nl=none->H pd=none->nl≠pd->ShelfAt C H' p nl pd m [] [] []->(∀b o,H b=some o->b≠p->H' b=some o)->Q .non H'
theorem Zf2:Gy ["self", "most"] ["self", "most"] (Gg ZbF):=⟨rfl,rfl,rfl,by decide +kernel,rfl,by decide +kernel,by decide +kernel⟩
theorem Zep {f C TM:Addr}{fd:FuncData}{dV:Value}(F:FunD K "__init__" "Shelf.__init__" ZbF dV f fd)(T:Zen K mg C TM):G7 P w K mg base CX0 1 f fd ["self", "most"] (Zeo C):=by
 refine F.ok Zf2 (λvs H Q E h=>?_) (λcdv A outer s H vs Q E hr h=>?_)
 ·obtain ⟨p,dx,m,rfl,_⟩:=h
  rfl
 ·obtain ⟨p,dx,m,rfl,hp,q⟩:=h;refine ⟨_,Gc (Y6 (pv 0) (pv 1) rfl)
    (Gc (Y6 (pv 0) (Jc Ge) rfl)
    (Gh (Y6 (pv 0) Za4 rfl))),?_⟩
  refine ⟨_,rfl,_,rfl,p,C,dx,[],rfl,hp,T.cl,T.nM,(by show 0<1000;decide),?_⟩;have e1:upd H p (.ins C dx (O0 "most" m [])) p=some (.ins C dx (O0 "most" m [])):=Gb;have k1:∀b o,H b=some o->b≠p->upd H p (.ins C dx (O0 "most" m [])) b=some o:=λb o e n=>Gm e n;have f1:∀b,upd H p (.ins C dx (O0 "most" m [])) b=none->H b=none:=λb e=>by
   by_cases z:b=p
   ·rw [z,e1] at e;cases e
   ·rw [Gi z] at e;exact e
  generalize upd H p (.ins C dx (O0 "most" m []))=H1 at e1 k1 f1 ⊢;refine ⟨Yao _,λnl hnl=>?_⟩;have npn:p≠nl:=Gf e1 hnl;refine ⟨_,rfl,p,C,dx,_,rfl,Gm e1 npn,T.cl,T.nN,(by show 1<1000;decide),?_⟩;intro pd hpd;have npp:p≠pd:=λz=>by rw [z,Gb] at hpd;cases hpd
  have nnp:nl≠pd:=λz=>by rw [z,Gi (Ne.symm npp),Gb] at hpd;cases hpd
  have hpd1:H1 pd=none:=by rw [Gi (Ne.symm npp),Gi (Ne.symm nnp)] at hpd;exact hpd
  refine ⟨_,rfl,p,C,dx,_,rfl,Gm Gb npp,T.cl,T.nP,(by simp [O0];split <;> simp [O0]),?_⟩;refine q nl pd _ (f1 _ hnl) (f1 _ hpd1) nnp ⟨⟨dx,Gb⟩,?_,.nil,?_,PlOk.nil⟩ λb o e n=>?_
  ·rw [Gi (Ne.symm npn),Gi nnp,Gi (Ne.symm npn),Gb]
  ·rw [Gi (Ne.symm npp),Gb]
  ·have e':=k1 b o e n;rw [Gi n,Gi (Gf e' hpd1),Gi n,Gi (Gf e' hnl)];exact e'
noncomputable def Zeq (C TM:Addr):Sp:=λvs H Q E=>∃(p nl pd:Addr)(M:Int)(xs:List V)(ts:List Tri)(kvs:List (List Key×V))(r lo hi:Int),vs=[.ref p,.int r,.int lo,.int hi]/\ShelfAt C H p nl pd (.int M) xs ts kvs/\ts.length<=10000 /\
 (hi=0->Q (.int lo) H)/\(hi≠0->(∀c H',Nd ts c (r,lo,hi)->Same H H'->Q (.int c) H')/\((r,lo,hi) ∉ ts->((ts.length:Int)<M->∀H',Shf C H H' p nl pd (.int M) (ts++[(r,lo,hi)])->Q (.int ((ts.length:Int)+2)) H')/\(¬ (ts.length:Int)<M->∀H',Same H H'->E (.ref TM) none H')))
theorem scPut:Gy ["self", "road", "low", "high", "node"] ["self", "road", "low", "high"] (Gg Zc7):=⟨rfl,rfl,rfl,by decide +kernel,rfl,by decide +kernel,by decide +kernel⟩
theorem Zer {f C TM:Addr}{fd:FuncData}(F:Fun K "put" "Shelf.put" Zc7 f fd)(T:Zen K mg C TM)(mTM:mg "TooMany" = some (.ref TM))(xTM:ExcC K TM)(mLen:mg "len" = none):G7 P w K mg base (CXr P w) 1 f fd ["self", "road", "low", "high"] (Zeq C TM):=by
 refine F.okR scPut (λvs H Q E h=>?_) (λcdv A outer s H vs Q E hr h=>?_)
 ·obtain ⟨_,_,_,_,_,_,_,_,_,_,rfl,_⟩:=h
  rfl
 ·obtain ⟨p,nl,pd,M,xs,ts,kvs,r,lo,hi,rfl,S,hts,q0,q1⟩:=h;have hu1:(A.deeper (PyProof.Rows.envOfC "Shelf.put" (Gg Zc7) s.heap.objs.size f cdv)).units+1<cLine:=by have:=hr.un;lia
  have h16:=Ybh.symm;refine ⟨_,Gc (G6 (Gp Ob (pv 3) Gd (Gx _)) (Gh (Gz (pv 2))) Gu)
    (Gc (Go (i:=4) scPut.nd rfl (Or.inl rfl) (Ot (Ga (pv 1) (Ga (pv 2) (Ga (pv 3) Ge)))))
    (Gc (G6 (YW (Wg hu1 (pv 4) (Os (pv 0) rfl)) rfl) (Gc (G6 (PW.pt (UN (Gp Zcn (Os (pv 0) rfl) Zdt (Gx _)) (OP (Gp Zfx (Gn (VT K) rfl mLen Ybw (Ga (Os (pv 0) rfl) Ge)) (Os (pv 0) rfl) (Gx _))))) (Gh (ZaT (E:=E) rfl Wa rfl mTM xTM (Ga Zdu Ge))) Gu)
    (Gc (WI hu1 (Os (pv 0) rfl) (pv 4) (Gk Jy (Gn (VT K) rfl mLen Ybw (Ga (Os (pv 0) rfl) Ge)) Gd) rfl)
    (Gh (JM (Vf Ydi Yes Yet Ji (Os (pv 0) rfl) (Ga (pv 4) Ge)))))) Gu)
    (Gh (Gz (Vk hu1 (Os (pv 0) rfl) (pv 4) (λ_ _=>rfl)))))),?_⟩
  refine ⟨_,rfl,rfl,_,rfl,JU (λc1=>?_) (λc1=>?_)⟩
  ·have c1':hi=0:=V.int.inj (Ybv c1);exact ⟨_,rfl,q0 c1'⟩
  have c1':hi≠0:=λz=>c1 (Yba (Ybf V.int z));obtain ⟨qo,qn⟩:=q1 c1';dsimp only [Oa];refine ⟨_,rfl,_,rfl,_,rfl,(by show 3<=sizeLine;decide),λt ht=>?_⟩;have s1:Same H (upd H t (.tup [.int r,.int lo,.int hi])):=Same.new ht;have et:upd H t (.tup [.int r,.int lo,.int hi]) t=some (.tup ((UL (r,lo,hi)).map kV)):=Gb;have S1:=S.same s1;generalize upd H t (.tup [.int r,.int lo,.int hi])=H1 at s1 et S1 ⊢;obtain ⟨dx,ob⟩:=S1.ob;have hxl:=S1.tr.len;have hkl:=S1.ok.l;dsimp only [GO];cases hv:JP kvs (UL (r,lo,hi)) with
  | some v=>
   obtain ⟨c,rfl,hc⟩:=S1.ok.s _ _ hv;have dg:DGet H1 pd (.ref t) (some (.int c)):=hv▸DGet.t S1.pl et;refine ⟨_,rfl,_,rfl,p,C,dx,_,_,rfl,ob,T.cl,T.nP,Jx _ _ _,pd,_,rfl,dg,_,rfl,Uc ?_⟩;dsimp only [Oa];exact ⟨_,rfl,p,C,dx,_,_,rfl,ob,T.cl,T.nP,Jx _ _ _,_,rfl,pd,_,rfl,dg,qo c H1 hc s1⟩
  | none=>
   have dg:DGet H1 pd (.ref t) none:=hv▸DGet.t S1.pl et;obtain ⟨qM,qE⟩:=qn (S1.ok.n _ hv);refine ⟨_,rfl,_,rfl,p,C,dx,_,_,rfl,ob,T.cl,T.nP,Jx _ _ _,pd,_,rfl,dg,_,rfl,Oc ?_⟩;refine ⟨_,rfl,p,C,dx,_,_,rfl,ob,T.cl,T.nM,Wy _ _ _,rfl,_,rfl,Oc ?_⟩;refine ⟨_,rfl,p,C,dx,_,_,rfl,ob,T.cl,T.nN,J9 _ _ _,nl,_,rfl,.inl (SqL.of S1.nd),_,rfl,p,C,dx,_,_,rfl,ob,T.cl,T.nM,Wy _ _ _,_,_,rfl,rfl,_,rfl,JU (λc2=>?_) (λc2=>?_)⟩
   ·have c2':((xs.length:Int))>=M:=Ybv c2;exact ⟨by show 1<=sizeLine;rw [Ybh];lia,qE (by lia) H1 s1⟩
   ·have c2':¬ ((xs.length:Int))>=M:=λz=>c2 (Yba z);dsimp only [Oa];refine ⟨_,rfl,p,C,dx,_,_,rfl,ob,T.cl,T.nN,J9 _ _ _,nl,_,rfl,.inl (SqL.of S1.nd),_,_,rfl,rfl,_,rfl,p,C,dx,_,_,rfl,ob,T.cl,T.nP,Jx _ _ _,_,rfl,pd,_,rfl,DPut.t S1.pl et (by lia),?_⟩;have npp:p≠pd:=GP ob S1.pl (λz=>by cases z);have nnp:nl≠pd:=GP S1.nd S1.pl (λz=>by cases z);have npn:p≠nl:=GP ob S1.nd (λz=>by cases z);have ntp:t≠pd:=GP et S1.pl (λz=>by cases z);have ntn:t≠nl:=GP et S1.nd (λz=>by cases z);rw [show (xs.length:Int)=(ts.length:Int) by lia];refine ⟨_,rfl,p,C,dx,_,_,rfl,Gm ob npp,T.cl,T.nN,J9 _ _ _,.inl ⟨rfl,_,SqL.of (Gm S1.nd nnp)⟩,_,rfl,nl,_,_,rfl,rfl,Gm S1.nd nnp,by lia,?_⟩;have pOk:=S1.ok.add (r,lo,hi);have ev:JP (JL kvs (UL (r,lo,hi)) (.int ((ts.length:Int)+2))) (UL (r,lo,hi))=some (.int ((ts.length:Int)+2)):=by rw [Jn,if_pos rfl]
    have e1:upd (upd H1 pd (.dT (JL kvs (UL (r,lo,hi)) (.int ((ts.length:Int)+2))))) nl (.lst (xs++[.ref t])) pd=some (.dT (JL kvs (UL (r,lo,hi)) (.int ((ts.length:Int)+2)))):=Gm Gb (Ne.symm nnp);have e2:upd (upd H1 pd (.dT (JL kvs (UL (r,lo,hi)) (.int ((ts.length:Int)+2))))) nl (.lst (xs++[.ref t])) t=some (.tup ((UL (r,lo,hi)).map kV)):=Gm (Gm et ntp) ntn;have e3:upd (upd H1 pd (.dT (JL kvs (UL (r,lo,hi)) (.int ((ts.length:Int)+2))))) nl (.lst (xs++[.ref t])) p=some (.ins C dx (ZaH (.int M) nl pd)):=Gm (Gm ob npp) npn;have t1:∀b ys,H1 b=some (.tup ys)->upd (upd H1 pd (.dT (JL kvs (UL (r,lo,hi)) (.int ((ts.length:Int)+2))))) nl (.lst (xs++[.ref t])) b=some (.tup ys):=λb ys e=>Gm (Gm e (GP e S1.pl (λz=>by cases z))) (GP e S1.nd (λz=>by cases z));refine ⟨_,rfl,p,C,dx,_,_,rfl,e3,T.cl,T.nP,Jx _ _ _,_,rfl,pd,_,rfl,ev▸DGet.t e1 e2,?_⟩;exact qM (by lia) _ ⟨λb o n1 n2 e=>Gm (Gm (s1 _ _ e) n2) n1,_,_,⟨dx,e3⟩,Gb,(S1.tr.keep t1).snoc e2,e1,pOk⟩
end
inductive Pt (κ:Type) where
 | leaf (n:Int)
 | node (r:Int) (lo hi:κ)
inductive Rc {κ:Type}(pf:κ->Pt κ)(s:κ):κ->Prop
 | start:Rc pf s s
 | lo {k:κ} {r:Int} {a b:κ}:Rc pf s k->pf k=.node r a b->Rc pf s a
 | hi {k:κ} {r:Int} {a b:κ}:Rc pf s k->pf k=.node r a b->Rc pf s b
section
variable {P:Program}{w:World}{κ:Type}[DecidableEq κ](G:GK P w κ)
noncomputable def PV (H:Hp)(v:V):Pt κ->Prop
 | .leaf n=>v=.int n
 | .node r lo hi=>∃t bl bh,v=.ref t/\H t=some (.tup [.int r,.ref bl,.ref bh])/\G.At H bl lo/\G.At H bh hi
noncomputable def Zgu (pf:κ->Pt κ)(Dom:κ->Prop):Sp:=λvs H Q _=>∃(b:Addr)(k:κ),vs=[.ref b]/\G.At H b k/\Dom k/\∀(v:V)(H':Hp),Same H H'->PV G H' v (pf k)->Q v H'
structure FndG (pf:κ->Pt κ)(s:κ)(H:Hp)(kvs:GKv κ):Prop where
 ks:GKeys G H kvs
 nd:(kvs.map (·.1)).Nodup
 rc:∀p∈kvs,Rc pf s p.1
 pv:∀p∈kvs,PV G H p.2.2 (pf p.1)
end
section
variable {P:Program}{w:World}{κ:Type}[DecidableEq κ]{G:GK P w κ}{H H':Hp}{v:V}{pf:κ->Pt κ}{s:κ}{kvs:GKv κ}
theorem PV.keep {p:Pt κ}(h:PV G H v p)(t:∀b ys,H b=some (.tup ys)->H' b=some (.tup ys)):PV G H' v p:=by
 cases p with
 | leaf n=>exact h
 | node r lo hi=>
  obtain ⟨x,bl,bh,e,h1,h2,h3⟩:=h;exact ⟨x,bl,bh,e,t _ _ h1,G.keep h2 t,G.keep h3 t⟩
theorem FndG.keep (F:FndG G pf s H kvs)(t:∀b ys,H b=some (.tup ys)->H' b=some (.tup ys)):FndG G pf s H' kvs:=⟨F.ks.keep t,F.nd,F.rc,λp hp=>(F.pv p hp).keep t⟩
theorem UH {k:κ}(h:ON kvs k=none):k ∉ kvs.map (·.1):=by
 intro hm;obtain ⟨p,hp,rfl⟩:=Yar.mp hm;unfold ON at h;have:=List.find?_eq_none.mp (Yfa.mp h) p hp;simp at this
theorem XT {k:κ}{v:V}(h:ON kvs k=some v):∃b,(k,b,v)∈kvs:=by
 unfold ON at h;obtain ⟨p,hp,rfl⟩:=Ybt.mp h;have h1:=List.find?_some hp;have h2:=List.mem_of_find?_eq_some hp;exact ⟨p.2.1,by rw [<-Ybv h1];exact h2⟩
theorem Zaq (nd:(kvs.map (·.1)).Nodup){k:κ}{b:Addr}{v:V}(h:(k,b,v)∈kvs):ON kvs k=some v:=by
 unfold ON
 induction kvs with
 | nil=>cases h
 | cons p kvs ih=>
  rw [Yap] at nd;obtain ⟨n1,n2⟩:=List.nodup_cons.mp nd;rcases Yat.mp h with e | e
  ·rw [<-e];simp
  ·have hne:¬ p.1=k:=λz=>n1 (by rw [z];exact Yar.mpr ⟨_,e,rfl⟩);rw [Ycv];simp only [hne,decide_false,Ydy,if_false];exact ih n2 e
theorem Wz {k:κ}{b:Addr}{v:V}(h:ON kvs k=none):ON (kvs++[(k,b,v)]) k=some v:=by
 unfold ON at h ⊢;rw [List.find?_append,Yfa.mp h];simp
theorem FndG.snoc (F:FndG G pf s H kvs){k:κ}{b:Addr}{v:V}(hn:ON kvs k=none)(hb:G.At H b k)(hr:Rc pf s k)(hv:PV G H v (pf k)):FndG G pf s H (kvs++[(k,b,v)]):=by
 refine ⟨λp hp=>?_,?_,λp hp=>?_,λp hp=>?_⟩
 ·rcases Yal.mp hp with h | h
  ·exact F.ks p h
  ·rw [Yaw.mp h];exact hb
 ·rw [Yas];refine Ycn.mpr ⟨F.nd,by simp,λa ha c hc=>?_⟩;have hc:c=k:=by simpa using hc
  rw [hc];exact λz=>UH hn (z▸ha)
 ·rcases Yal.mp hp with h | h
  ·exact F.rc p h
  ·rw [Yaw.mp h];exact hr
 ·rcases Yal.mp hp with h | h
  ·exact F.pv p h
  ·rw [Yaw.mp h];exact hv
end
noncomputable def Shut {κ:Type}(pf:κ->Pt κ)(s:κ)(ks ws:List κ):Prop:=(s∈ks\/s∈ws)/\∀k∈ks,∀r a b,pf k=.node r a b->(a∈ks\/a∈ws)/\(b∈ks\/b∈ws)
theorem Shut.all {κ:Type}{pf:κ->Pt κ}{s:κ}{ks:List κ}(h:Shut pf s ks []):∀k,Rc pf s k->k∈ks:=by
 intro k hk
 induction hk with
 | start=>exact h.1.resolve_right (by simp)
 | lo _ e ih=>exact (h.2 _ ih _ _ _ e).1.resolve_right (by simp)
 | hi _ e ih=>exact (h.2 _ ih _ _ _ e).2.resolve_right (by simp)
section
variable {P:Program}{w:World}{K:W.Frag}{mg:Str->Option Value}{base:Heap}{κ:Type}[DecidableEq κ]{G:GK P w κ}{pf:κ->Pt κ}{Dom:κ->Prop}
noncomputable def Zes (G:GK P w κ)(pf:κ->Pt κ)(fP:Addr):Sp:=λvs H Q _=>∃(b:Addr)(s:κ)(U:List κ),vs=[.ref b,.ref fP]/\G.At H b s/\(∀k,Rc pf s k->k∈U)/\U.length<=100000 /\
 ∀(fo:Addr)(kvs:GKv κ)(H':Hp),Same H H'->H fo=none->H' fo=some (gd G fo kvs)->FndG G pf s H' kvs->(∀k,Rc pf s k->k∈kvs.map (·.1))->kvs.length<=U.length->Q (.ref fo) H'
theorem scPbl:Gy ["start", "parts", "found", "pending", "part"] ["start", "parts"] (Gg Zeg):=⟨rfl,rfl,rfl,by decide +kernel,rfl,by decide +kernel,by decide +kernel⟩
theorem Zet {f fP:Addr}{fd fdP:FuncData}{kp:Nat}{ps:List Str}{x q:Str}{st:Stmt}(F:Fun K "parts_below" "parts_below" Zeg f fd)(FPf:Fun K x q st fP fdP)(bPf:Binds K fdP ps [])(GPf:G7 P w K mg base CX0 kp fP fdP ps (Zgu G pf Dom))(hDom:∀s k,Rc pf s k->Dom s->Dom k)(kit:W.kitOne K (.type "int") (.type "tuple")=some false)(mIsi:mg "isinstance" = none)(mTup:mg "tuple" = none):G7 P w K mg base CX0 (kp+1) f fd ["start", "parts"] (λvs H Q E=>(∀b s,vs=[.ref b,.ref fP]->G.At H b s->Dom s)/\Zes G pf fP vs H Q E):=by
 refine F.ok scPbl (λvs H Q E h=>?_) (λcdv A outer s H vs Q E hr h=>?_)
 ·obtain ⟨_,_,_,_,rfl,_⟩:=h
  rfl
 ·obtain ⟨hdom,b,st,U,rfl,hb,hU,hUl,qq⟩:=h;have hst:Dom st:=hdom b st rfl hb;have hu71:(A.deeper (PyProof.Rows.envOfC "parts_below" (Gg Zeg) s.heap.objs.size f cdv)).units+71<cLine:=by have:=hr.un;lia
  have h16:=Ybh.symm;refine ⟨_,Gc (Go (i:=2) scPbl.nd rfl (Or.inl rfl) (Zal (G:=G)))
    (Gc (Go (i:=3) scPbl.nd rfl (Or.inl rfl) (Jc (Ga (pv 0) Ge)))
    (Gc (Xf Ydj (Ua (pv 3) (λ_=>rfl))
    (Gc (Go (i:=4) scPbl.nd rfl (Or.inl rfl) (ZdI Ydi PySem.F.slot_list_pop PySem.F.type_list_pop ZdJ (pv 3)))
    (Gh (G6 (YW (Zam (G:=G) hu71 (pv 4) (pv 2)) rfl) (Gc (WZ (G:=G) hu71 (pv 2) (pv 4) (ZbD GPf hr (pv 1) FPf.kp bPf .nil G4 (Ga (pv 4) Ge)) rfl)
    (Gh (G6 (VW (Gn (Ze7 K) rfl mIsi Ue (Ga (OK (G:=G) hu71 (pv 2) (pv 4) (λ_ _=>rfl)) (Ga (Xo mTup Jo) Ge)))) (Gh (JM (Vf Ydi PySem.F.slot_list_extend PySem.F.type_list_extend U2 (pv 3) (Ga (Jz (Zgr K) (OK (G:=G) hu71 (pv 2) (pv 4) (λ_ _=>rfl)) (JT Gd) JS) Ge)))) Gu))) Gu))))
    (Gh (Gz (pv 2))))),?_⟩
  refine Gv (λσ' H'=>∃fo:Addr,σ'=[some (.ref b),some (.ref fP),some (.ref fo),none,none]/\Same H H'/\H fo=none/\H' fo=some (gd G fo ([]:GKv κ))) ?s0 ?f0
  case f0=>exact λhk fo hfo=>hk _ _ ⟨fo,rfl,Same.new hfo,hfo,Gb⟩
  rintro σ' H1 ⟨fo,rfl,s1,hfo,ef⟩;refine Gv (λσ' H'=>∃pe:Addr,σ'=[some (.ref b),some (.ref fP),some (.ref fo),some (.ref pe),none]/\Same H1 H'/\H1 pe=none/\H' pe=some (.lst [.ref b])) ?s1 ?f1
  case f1=>exact λhk=>⟨_,rfl,(by show 1<=sizeLine;decide),λpe hpe=>hk _ _ ⟨pe,rfl,Same.new hpe,hpe,Gb⟩⟩
  rintro σ' H2 ⟨pe,rfl,s2,hpe,ep⟩;have npf:pe≠fo:=Ne.symm (Gf ef hpe);have hpH:H pe=none:=s1.free hpe;refine Gv (λσ' H'=>∃(kvs:GKv κ)(v4:Option V),σ'=[some (.ref b),some (.ref fP),some (.ref fo),some (.ref pe),v4]/\Same H H'/\H' fo=some (gd G fo kvs)/\FndG G pf st H' kvs/\Shut pf st (kvs.map (·.1)) []) ?s2 ?f2
  case s2=>
   rintro σ' H3 ⟨kvs,v4,rfl,s3,e3,F3,sh⟩;have hl:kvs.length<=U.length:=by
    have:=Yde F3.nd (l₂:=U) λk hk=>by
     obtain ⟨p,hp,rfl⟩:=Yar.mp hk;exact hU _ (F3.rc p hp)
    rwa [Yad] at this
   exact ⟨_,rfl,qq fo kvs H3 s3 hfo e3 F3 sh.all hl⟩
  case f2=>
   intro hk;refine ⟨λm σ' H'=>∃(kvs:GKv κ)(bs:List (Addr×κ))(v4:Option V),σ'=[some (.ref b),some (.ref fP),some (.ref fo),some (.ref pe),v4]/\Same H H'/\H' fo=some (gd G fo kvs)/\H' pe=some (.lst (bs.map λz=>V.ref z.1))/\FndG G pf st H' kvs/\(∀z∈bs,G.At H' z.1 z.2/\Rc pf st z.2)/\Shut pf st (kvs.map (·.1)) (bs.map (·.2))/\m=3 * (U.length-kvs.length)+bs.length/\bs.length<=1+2 * kvs.length,
    ⟨_,[],[(b,st)],none,rfl,s1.trans s2,s2 _ _ ef,ep,⟨λp hp=>(by cases hp),Yea,λp hp=>(by cases hp),λp hp=>(by cases hp)⟩,λz hz=>by rw [Yaw.mp hz];exact ⟨G.keep hb λp ys e=>s2 _ _ (s1 _ _ e),.start⟩,⟨.inr (by simp),λk hk=>(by cases hk)⟩,rfl,by simp⟩,?_⟩
   rintro m σ' H3 ⟨kvs,bs,v4,rfl,s3,e3,ep3,F3,hbs,sh,rfl,hbl⟩;have hkl:kvs.length<=U.length:=by
    have:=Yde F3.nd (l₂:=U) λk hk=>by
     obtain ⟨p,hp,rfl⟩:=Yar.mp hk;exact hU _ (F3.rc p hp)
    rwa [Yad] at this
   by_cases hb0:bs=[]
   ·subst hb0;refine ⟨_,rfl,false,.inl ⟨_,SqL.of ep3,rfl⟩,Uc ?_⟩;exact hk _ _ ⟨kvs,v4,rfl,s3,e3,F3,sh⟩
   ·obtain ⟨cs,z,rfl⟩:∃cs z,bs=cs++[z]:=⟨_,_,(List.dropLast_concat_getLast hb0).symm⟩;refine ⟨_,rfl,true,.inl ⟨_,SqL.of ep3,by simp⟩,Oc ?_⟩;refine ⟨_,λ_ _ h=>h,?_⟩;obtain ⟨hz1,hz2⟩:=hbs z (by simp);refine ⟨_,rfl,.inl ⟨rfl,_,SqL.of ep3⟩,pe,_,.ref z.1,rfl,rfl,ep3,by simp,?_⟩;have edl:((cs++[z]).map λz=>V.ref z.1).dropLast=cs.map λz=>V.ref z.1:=by rw [Yas];simp
    rw [edl];have t4:∀p ys,H3 p=some (.tup ys)->upd H3 pe (.lst (cs.map λz=>V.ref z.1)) p=some (.tup ys):=JB ep3;have s4:Same H (upd H3 pe (.lst (cs.map λz=>V.ref z.1))):=s3.put hpH;have e4:upd H3 pe (.lst (cs.map λz=>V.ref z.1)) fo=some (gd G fo kvs):=Gm e3 (Ne.symm npf);have ep4:upd H3 pe (.lst (cs.map λz=>V.ref z.1)) pe=some (.lst (cs.map λz=>V.ref z.1)):=Gb;have F4:=F3.keep t4;have hz1:=G.keep hz1 t4;have hcs:∀y∈cs,G.At (upd H3 pe (.lst (cs.map λz=>V.ref z.1))) y.1 y.2/\Rc pf st y.2:=λy hy=>⟨G.keep (hbs y (by simp [hy])).1 t4,(hbs y (by simp [hy])).2⟩;generalize upd H3 pe (.lst (cs.map λz=>V.ref z.1))=H4 at s4 e4 ep4 F4 hz1 hcs ⊢;have sh':∀k,k∈(cs++[z]).map (·.2)->k=z.2\/k∈cs.map (·.2):=λk hk=>by
     rw [Yas] at hk;rcases Yal.mp hk with h | h
     ·exact .inr h
     ·exact .inl (by simpa using h)
    dsimp only [GO];refine ⟨_,rfl,_,rfl,fo,ON kvs z.2,rfl,⟨kvs,z.2,z.1,.inl e4,F4.ks,rfl,hz1,rfl⟩,_,rfl,?_⟩;cases hv:ON kvs z.2 with
    | some v=>
     refine Uc ?_;obtain ⟨b',hm⟩:=XT hv;have hzk:z.2∈kvs.map (·.1):=Yar.mpr ⟨_,hm,rfl⟩;have mv:∀k,(k∈kvs.map (·.1)\/k∈(cs++[z]).map (·.2))->(k∈kvs.map (·.1)\/k∈cs.map (·.2)):=λk h=>h.elim .inl λh=>(sh' k h).elim (λe=>.inl (e▸hzk)) .inr;exact ⟨3 * (U.length-kvs.length)+cs.length,by rw [Yak,Ybc];lia,kvs,cs,_,rfl,s4,e4,ep4,F4,hcs,⟨mv _ sh.1,λk hk r a b e=>⟨mv _ (sh.2 k hk r a b e).1,mv _ (sh.2 k hk r a b e).2⟩⟩,rfl,by rw [Yak,Ybc] at hbl;lia⟩
    | none=>
     refine Oc ?_;have hlt:kvs.length<U.length:=by
      have hn:(kvs.map (·.1)++[z.2]).Nodup:=Ycn.mpr ⟨F4.nd,by simp,λa ha c hc=>by
       have hc:c=z.2:=by simpa using hc
       rw [hc];exact λe=>UH hv (e▸ha)⟩
      have:=Yde hn (l₂:=U) λk hk=>by
       rcases Yal.mp hk with h | h
       ·obtain ⟨p,hp,rfl⟩:=Yar.mp h;exact hU _ (F4.rc p hp)
       ·rw [Yaw.mp h];exact hU _ hz2
      rw [Yak,Yad,Ybc] at this
      lia
     refine ⟨rfl,_,rfl,z.1,z.2,rfl,hz1,hDom _ _ hz2 hst,λv H5 s5 pv=>?_⟩;have F5:=F4.keep λp ys e=>s5 _ _ e;have hz5:=G.keep hz1 λp ys e=>s5 _ _ e;refine ⟨_,rfl,_,rfl,fo,z.1,kvs,z.2,rfl,rfl,s5 _ _ e4,F5.ks,hz5,hv,by lia,?_⟩;have nfp:fo≠pe:=Ne.symm npf;have t6:∀p ys,H5 p=some (.tup ys)->upd H5 fo (gd G fo (kvs++[(z.2,z.1,v)])) p=some (.tup ys):=λp ys e=>Gm e (GP e (s5 _ _ e4) (λz=>by cases z));have s6:Same H (upd H5 fo (gd G fo (kvs++[(z.2,z.1,v)]))):=(s4.trans s5).put hfo;have e6:upd H5 fo (gd G fo (kvs++[(z.2,z.1,v)])) fo=some (gd G fo (kvs++[(z.2,z.1,v)])):=Gb;have ep6:upd H5 fo (gd G fo (kvs++[(z.2,z.1,v)])) pe=some (.lst (cs.map λz=>V.ref z.1)):=Gm (s5 _ _ ep4) npf;have F6:=(F5.snoc hv hz5 hz2 pv).keep t6;have hz6:=G.keep hz5 t6;have pv6:=pv.keep t6;have hcs6:∀y∈cs,G.At (upd H5 fo (gd G fo (kvs++[(z.2,z.1,v)]))) y.1 y.2/\Rc pf st y.2:=λy hy=>⟨G.keep (G.keep (hcs y hy).1 λp ys e=>s5 _ _ e) t6,(hcs y hy).2⟩;dsimp only [Oa];change Zgc _ _ _ _ _ (upd H5 fo (gd G fo (kvs++[(z.2,z.1,v)])));generalize upd H5 fo (gd G fo (kvs++[(z.2,z.1,v)]))=H6 at s6 e6 ep6 F6 hz6 pv6 hcs6 ⊢;have gg:YJ G H6 fo (.ref z.1) (some v):=⟨_,z.2,z.1,.inl e6,F6.ks,rfl,hz6,(Wz hv).symm⟩;have mv:∀k,(k∈kvs.map (·.1)\/k∈(cs++[z]).map (·.2))->(k∈(kvs++[(z.2,z.1,v)]).map (·.1)\/k∈cs.map (·.2)):=λk h=>by
      rw [Yas];rcases h with h | h
      ·exact .inl (Ydu _ h)
      ·rcases sh' k h with rfl | h
       ·exact .inl (Ycc _ (by simp))
       ·exact .inr h
     cases hp:pf z.2 with
     | leaf n=>
      rw [hp] at pv6;have ev:v=.int n:=pv6;subst ev;refine ⟨_,rfl,_,rfl,fo,_,rfl,gg,_,_,false,rfl,⟨_,rfl,Uc ?_⟩,.inl ⟨_,.int _,rfl,kit⟩⟩;refine ⟨3 * (U.length-(kvs++[(z.2,z.1,V.int n)]).length)+cs.length,by rw [Yak,Yak,Ybc,Ybc];lia,_,cs,_,rfl,s6,e6,ep6,F6,hcs6,⟨mv _ sh.1,λk hk r a b e=>?_⟩,rfl,by rw [Yak,Ybc] at hbl ⊢;lia⟩;rw [Yas] at hk;rcases Yal.mp hk with h | h
      ·exact ⟨mv _ (sh.2 k h r a b e).1,mv _ (sh.2 k h r a b e).2⟩
      ·have:k=z.2:=by simpa using h
       rw [this,hp] at e;cases e
     | node r lo hi=>
      rw [hp] at pv6;obtain ⟨t,bl,bh,rfl,et,hl',hh'⟩:=pv6;refine ⟨_,rfl,_,rfl,fo,_,rfl,gg,_,_,true,rfl,⟨_,rfl,Oc ?_⟩,.inl ⟨_,.tup et,rfl,Uf⟩⟩;refine ⟨_,rfl,.inl ⟨rfl,_,SqL.of ep6⟩,_,rfl,_,rfl,fo,_,rfl,gg,_,rfl,t,_,rfl,SqT.of et,?_,λq hq=>?_⟩
      ·rintro ⟨zz,_⟩;rw [show (some (1:Int))=some ((1:Nat):Int) from rfl,HT.sIx_nat] at zz;simp at zz
      ·have ec:UQ [V.int r,.ref bl,.ref bh] (some 1) none=[V.ref bl,.ref bh]:=rfl;rw [ec];have s7:Same H6 (upd H6 q (.tup [.ref bl,.ref bh])):=Same.new hq;refine ⟨pe,q,_,_,rfl,rfl,s7 _ _ ep6,Gb,by rw [Yad];show cs.length+2<=sizeLine;rw [Yak,Ybc] at hbl;lia,?_⟩;have npq:pe≠q:=Gf ep6 hq;have t8:∀p ys,upd H6 q (.tup [.ref bl,.ref bh]) p=some (.tup ys)->upd (upd H6 q (.tup [.ref bl,.ref bh])) pe (.lst ((cs.map λz=>V.ref z.1)++[.ref bl,.ref bh])) p=some (.tup ys):=JB (s7 _ _ ep6);have t9:∀p ys,H6 p=some (.tup ys)->upd (upd H6 q (.tup [.ref bl,.ref bh])) pe (.lst ((cs.map λz=>V.ref z.1)++[.ref bl,.ref bh])) p=some (.tup ys):=λp ys e=>t8 p ys (s7 _ _ e);refine ⟨3 * (U.length-(kvs++[(z.2,z.1,V.ref t)]).length)+(cs++[(bl,lo),(bh,hi)]).length,by rw [Yak,Yak,Yak,Ybc,Ybc];show _+(cs.length+2)<_;lia,_,cs++[(bl,lo),(bh,hi)],_,rfl,(s6.trans s7).put hpH,Gm (s7 _ _ e6) nfp,by rw [Gb,Yas];rfl,F6.keep t9,λy hy=>?_,⟨?_,λk hk r' a b' e=>?_⟩,rfl,?_⟩
       ·rcases Yal.mp hy with h | h
        ·exact ⟨G.keep (hcs6 y h).1 t9,(hcs6 y h).2⟩
        ·simp at h;rcases h with rfl | rfl
         ·exact ⟨G.keep hl' t9,.lo hz2 hp⟩
         ·exact ⟨G.keep hh' t9,.hi hz2 hp⟩
       ·exact (mv _ sh.1).imp id λh=>by rw [Yas];exact Ydu _ h
       ·have up:∀k,(k∈(kvs++[(z.2,z.1,V.ref t)]).map (·.1)\/k∈cs.map (·.2))->(k∈(kvs++[(z.2,z.1,V.ref t)]).map (·.1)\/k∈(cs++[(bl,lo),(bh,hi)]).map (·.2)):=λk h=>h.imp id λh=>by rw [Yas];exact Ydu _ h
        rw [Yas] at hk;rcases Yal.mp hk with h | h
        ·exact ⟨up _ (mv _ (sh.2 k h r' a b' e).1),up _ (mv _ (sh.2 k h r' a b' e).2)⟩
        ·have hk':k=z.2:=by simpa using h
         rw [hk',hp] at e;cases e;exact ⟨.inr (by simp),.inr (by simp)⟩
       ·rw [Yak,Yak,Ybc];rw [Yak,Ybc] at hbl;show cs.length+2<=_
        lia
end
inductive Zdm {κ:Type}(pf:κ->Pt κ):κ->List Int->Prop
 | one {k:κ}:pf k=.leaf 1->Zdm pf k []
 | lo {k a b:κ} {r:Int} {s:List Int}:pf k=.node r a b->Zdm pf a s->Zdm pf k s
 | hi {k a b:κ} {r:Int} {s:List Int}:pf k=.node r a b->Zdm pf b s->Zdm pf k (r::s)
noncomputable def Abv {κ:Type}(pf:κ->Pt κ)(k:κ)(lo:Int):Prop:=∀r a b,pf k=.node r a b->lo<r
structure Zf3 {κ:Type}(pf:κ->Pt κ)(s:κ):Prop where
 lf:∀k n,Rc pf s k->pf k=.leaf n->n=0\/n=1
 nd:∀k r a b,Rc pf s k->pf k=.node r a b->(0<=r/\r<30)/\Abv pf a r/\Abv pf b r
structure NumOk {κ:Type}(pf:κ->Pt κ)(ts:List Tri)(k:κ)(c:Int):Prop where
 at_:∀lo,Abv pf k lo->At ts c lo
 has:∀s,Has ts c s↔Zdm pf k s
structure ShOk (ts:List Tri):Prop where
 ok:TabOk ts
 nd:ts.Nodup
 hi:∀r∈ts,r.2.2≠0
section
variable {κ:Type}{pf:κ->Pt κ}{ts us:List Tri}{k a b:κ}{c r n ca cb:Int}
theorem ShOk.nil:ShOk []:=⟨TabOk.nil,Yea,λr h=>by cases h⟩
theorem Zeu {c:Int}{s:List Int}(h:Has ts c s):Has (ts++us) c s:=by
 induction h with
 | one=>exact .one
 | low n _ ih=>exact .low (n.app us) ih
 | high n _ ih=>exact .high (n.app us) ih
theorem ZbG (T:TabOk ts){c:Int}{s:List Int}(h:Has (ts++us) c s):∀{lo:Int},At ts c lo->Has ts c s:=by
 induction h with
 | one=>exact λ_=>.one
 | low n _ ih=>
  intro lo a;obtain ⟨q,m,_⟩:=a.nd (by have:=n.1;lia);have e:=(m.app us).one n;subst e;exact .low m (ih (T.nd m).2.1)
 | high n _ ih=>
  intro lo a;obtain ⟨q,m,_⟩:=a.nd (by have:=n.1;lia);have e:=(m.app us).one n;subst e;exact .high m (ih (T.nd m).2.2)
theorem ZbH (pf:κ->Pt κ)(k:κ):∃lo,Abv pf k lo:=by
 cases h:pf k with
 | leaf n=>exact ⟨0,λr a b e=>by rw [h] at e;cases e⟩
 | node r a b=>exact ⟨r-1,λr' a' b' e=>by rw [h] at e;cases e;lia⟩
theorem NumOk.app (h:NumOk pf ts k c)(T:TabOk ts):NumOk pf (ts++us) k c:=
 ⟨λlo a=>(h.at_ lo a).app us,λs=>⟨λx=>(h.has s).mp (by obtain ⟨lo,a⟩:=ZbH pf k;exact ZbG T x (h.at_ lo a)),λx=>Zeu ((h.has s).mpr x)⟩⟩
theorem NumOk.leaf (e:pf k=.leaf n)(h:n=0\/n=1):NumOk pf ts k n:=by
 refine ⟨λlo _=>h.imp id .inl,λs=>?_⟩;rw [Has.small (by lia) (by lia)];constructor
 ·rintro ⟨rfl,rfl⟩;exact .one e
 ·intro h';cases h' with
  | one e'=>rw [e] at e';cases e';exact ⟨rfl,rfl⟩
  | lo e' _=>rw [e] at e';cases e'
  | hi e' _=>rw [e] at e';cases e'
theorem NumOk.flat (e:pf k=.node r a b)(ha:Abv pf a r)(na:NumOk pf ts a ca)(nb:NumOk pf ts b 0):NumOk pf ts k ca:=by
 refine ⟨λlo h=>(na.at_ r ha).mono (by have:=h _ _ _ e;lia),λs=>?_⟩;rw [na.has];constructor
 ·exact .lo e
 ·intro h';cases h' with
  | one e'=>rw [e] at e';cases e'
  | lo e' x=>rw [e] at e';cases e';exact x
  | hi e' x=>rw [e] at e';cases e';exact absurd ((nb.has _).mpr x) Has.zero
theorem NumOk.node (e:pf k=.node r a b)(na:NumOk pf ts a ca)(nb:NumOk pf ts b cb)(N:Nd ts c (r,ca,cb)):NumOk pf ts k c:=by
 refine ⟨λlo h=>.inr (.inr ⟨_,N,h _ _ _ e⟩),λs=>?_⟩;constructor
 ·intro h;cases h with
  | one=>exact absurd N.1 (by decide)
  | low n x=>rw [<-N.one n] at x;exact .lo e ((na.has _).mp x)
  | high n x=>
   rw [<-N.one n] at x ⊢;exact .hi e ((nb.has _).mp x)
 ·intro h';cases h' with
  | one e'=>rw [e] at e';cases e'
  | lo e' x=>rw [e] at e';cases e';exact .low N ((na.has _).mpr x)
  | hi e' x=>rw [e] at e';cases e';exact .high N ((nb.has _).mpr x)
theorem ShOk.snoc (S:ShOk ts)(h0:0<=r/\r<30)(ha:Abv pf a r)(hb:Abv pf b r)(na:NumOk pf ts a ca)(nb:NumOk pf ts b cb)(hc:cb≠0)(hn:(r,ca,cb) ∉ ts):ShOk (ts++[(r,ca,cb)]):=by
 refine ⟨S.ok.snoc h0 (na.at_ r ha) (nb.at_ r hb),Ycn.mpr ⟨S.nd,by simp,λx hx y hy=>?_⟩,λq hq=>?_⟩
 ·rw [Yaw.mp hy];exact λz=>hn (z▸hx)
 ·rcases Yal.mp hq with h | h
  ·exact S.hi q h
  ·rw [Yaw.mp h];exact hc
end
section
variable {P:Program}{w:World}{K:W.Frag}{mg:Str->Option Value}{base:Heap}
theorem Fun.okRC {x qual:Str}{st:Stmt}{f c:Addr}{fd:FuncData}{N ps:List Str}{k:Nat}{sp:Sp}(F:Fun K x qual st f fd)(hc:fd.code=.ref c)(S:Gy N ps (Gg st))(len:∀vs H Q E,sp vs H Q E->vs.length=ps.length)(jZ:∀(A:Around)(outer:List Env)(s:Shared)(H:Hp)(vs:List V)(Q:VK)(E:XK),Room k (A.deeper (PyProof.Rows.envOfC qual (Gg st) s.heap.objs.size f (.ref c)))->sp vs H Q E ->
   ∃t,PSs (YO (CXr P w) P w K mg base N qual (Gg st) f (.ref c) A outer s H E) (GQ st) t/\t { nx:=λ_ H'=>Q .non H',rt:=Q } (start N vs) H):G7 P w K mg base (CXr P w) (k+1) f fd ps sp:=by
 obtain ⟨oc,od,kV,doc,pm,an,cdv,ct,osl,rfl,lk,hcd⟩:=F.ex;obtain rfl:cdv=.ref c:=hc;exact ZaP lk hcd S len λA outer s H vs Q E hr hsp=>jZ A outer s H vs Q E hr hsp
end
noncomputable def lqD:Str:=Str.ofString "laid_down.<locals>.<lambda>"
noncomputable abbrev LD (tb:Addr)(H:Hp):Prop:=LamSt tb 56 35 lqD H
noncomputable def O5 {κ:Type}:Pt κ->Bool
 | .leaf _=>false
 | .node ..=>true
noncomputable def rdP {κ:Type}:Pt κ->Int
 | .leaf _=>0
 | .node r _ _=>r
structure Grw {κ:Type}(pf:κ->Pt κ)(s:κ)(ts0 ts:List Tri):Prop where
 pre:∃us,ts=ts0++us
 sh:ShOk ts
 own:∀c r,Nd ts c r->c<ts0.length+2\/∃k,Rc pf s k/\NumOk pf ts k c
section
variable {P:Program}{w:World}{κ:Type}[DecidableEq κ](G:GK P w κ)
structure NV (pf:κ->Pt κ)(ts:List Tri)(done:κ->Prop)(kvs:GKv κ)(H:Hp)(nvs:GKv κ):Prop where
 ks:GKeys G H nvs
 nd:(nvs.map (·.1)).Nodup
 nm:∀q∈nvs,∃c:Int,q.2.2=.int c/\NumOk pf ts q.1 c
 le:∀q∈nvs,done q.1/\q.1∈kvs.map (·.1)
 al:∀q∈kvs,done q.1->∃c:Int,ON nvs q.1=some (.int c)/\NumOk pf ts q.1 c
end
section
variable {P:Program}{w:World}{κ:Type}[DecidableEq κ]{G:GK P w κ}{H H':Hp}{pf:κ->Pt κ}{s:κ}{kvs nvs:GKv κ}{ts:List Tri}{done done':κ->Prop}
theorem NV.keep (N:NV G pf ts done kvs H nvs)(t:∀b ys,H b=some (.tup ys)->H' b=some (.tup ys)):NV G pf ts done kvs H' nvs:=⟨N.ks.keep t,N.nd,N.nm,N.le,N.al⟩
theorem NV.len (N:NV G pf ts done kvs H nvs):nvs.length<=kvs.length:=by
 have:=Yde N.nd (l₂:=kvs.map (·.1)) λk hk=>by
  obtain ⟨q,hq,rfl⟩:=Yar.mp hk;exact (N.le q hq).2
 rwa [Yad,Yad] at this
theorem NV.none (N:NV G pf ts done kvs H nvs){k:κ}(h:¬ done k):ON nvs k=none:=by
 cases e:ON nvs k with
 | none=>rfl
 | some v=>
  obtain ⟨b,hb⟩:=XT e;exact absurd (N.le _ hb).1 h
theorem NV.like (N:NV G pf ts done kvs H nvs)(h:∀k∈kvs.map (·.1),done k↔done' k):NV G pf ts done' kvs H nvs:=
 ⟨N.ks,N.nd,N.nm,λq hq=>⟨(h _ (N.le q hq).2).mp (N.le q hq).1,(N.le q hq).2⟩,λq hq d=>N.al q hq ((h _ (Yar.mpr ⟨q,hq,rfl⟩)).mpr d)⟩
theorem NV.app (N:NV G pf ts done kvs H nvs)(T:TabOk ts)(us:List Tri):NV G pf (ts++us) done kvs H nvs:=
 ⟨N.ks,N.nd,λq hq=>(N.nm q hq).elim λc h=>⟨c,h.1,h.2.app T⟩,N.le,λq hq d=>(N.al q hq d).elim λc h=>⟨c,h.1,h.2.app T⟩⟩
theorem ZbI {k:κ}{v:V}{us:GKv κ}(h:ON nvs k=some v):ON (nvs++us) k=some v:=by
 unfold ON at h ⊢;rw [List.find?_append];obtain ⟨p,hp,rfl⟩:=Ybt.mp h;rw [hp]
 rfl
theorem NV.snoc (N:NV G pf ts done kvs H nvs){k:κ}{b:Addr}{c:Int}(hb:G.At H b k)(hn:¬ done k)(hk:k∈kvs.map (·.1))(hc:NumOk pf ts k c):NV G pf ts (λx=>done x\/x=k) kvs H (nvs++[(k,b,.int c)]):=by
 have hv:=N.none hn;refine ⟨λp hp=>?_,?_,λq hq=>?_,λq hq=>?_,λq hq d=>?_⟩
 ·rcases Yal.mp hp with h | h
  ·exact N.ks p h
  ·rw [Yaw.mp h];exact hb
 ·rw [Yas];refine Ycn.mpr ⟨N.nd,by simp,λa ha d hd=>?_⟩;have hd:d=k:=by simpa using hd
  rw [hd];exact λz=>UH hv (z▸ha)
 ·rcases Yal.mp hq with h | h
  ·exact N.nm q h
  ·rw [Yaw.mp h];exact ⟨c,rfl,hc⟩
 ·rcases Yal.mp hq with h | h
  ·exact ⟨.inl (N.le q h).1,(N.le q h).2⟩
  ·rw [Yaw.mp h];exact ⟨.inr rfl,hk⟩
 ·by_cases e:q.1=k
  ·rw [e];exact ⟨c,Wz hv,hc⟩
  ·obtain ⟨c',h1,h2⟩:=N.al q hq (d.resolve_right e);exact ⟨c',ZbI h1,h2⟩
theorem Grw.refl {ts0:List Tri}(S:ShOk ts0):Grw pf s ts0 ts0:=⟨⟨[],by simp⟩,S,λc r n=>.inl n.lt⟩
theorem Grw.snoc {ts0:List Tri}{k a b:κ}{r ca cb:Int}(D:Grw pf s ts0 ts)(hk:Rc pf s k)(e:pf k=.node r a b)(h0:0<=r/\r<30)(ha:Abv pf a r)(hb:Abv pf b r)(na:NumOk pf ts a ca)(nb:NumOk pf ts b cb)(hc:cb≠0)(hn:(r,ca,cb) ∉ ts):Grw pf s ts0 (ts++[(r,ca,cb)])/\NumOk pf (ts++[(r,ca,cb)]) k ((ts.length:Int)+2):=by
 have N:NumOk pf (ts++[(r,ca,cb)]) k ((ts.length:Int)+2):=NumOk.node e (na.app D.sh.ok) (nb.app D.sh.ok) (Nd.last ts _);refine ⟨⟨D.pre.elim λus h=>⟨us++[(r,ca,cb)],by rw [h,Ybq]⟩,D.sh.snoc h0 ha hb na nb hc hn,λc q n=>?_⟩,N⟩;by_cases hl:c<(ts.length:Int)+2
 ·have n':Nd ts c q:=⟨n.1,by
   have:=n.2;have h1:=n.1
   rwa [Ydc (by lia)] at this⟩
  exact (D.own c q n').imp id λ⟨k,h1,h2⟩=>⟨k,h1,h2.app D.sh.ok⟩
 ·have:=n.lt;rw [Yak,Ybc] at this;exact .inr ⟨k,hk,by rw [show c=(ts.length:Int)+2 by lia];exact N⟩
end
section
variable {P:Program}{w:World}{K:W.Frag}{mg:Str->Option Value}{base:Heap}
theorem GZ {p:Nat}{a:Int}(h:a.natAbs<2 ^ p:=by decide +kernel):Lt2 p a:=h
theorem JK {ns:List Int}{i:Int}(h0:0<=i)(h1:i<ns.length):atI (ns.map V.int) i=some (.int (ns.getD i.toNat 0)):=by
 obtain ⟨k,rfl⟩:=Int.eq_ofNat_of_zero_le h0;have hk:k<ns.length:=by lia
 refine Gs ?_;show (ns.map V.int)[k]?=some (.int (ns.getD k 0));rw [Ybk,Ydz,Ybd hk]
 rfl
noncomputable def Zda (K:W.Frag):Sp:=λvs H Q _=>∃(a:Addr)(ns:List Int)(k:Nat),vs=[.ref a,.int (k:Int)]/\SqL K H a (ns.map V.int)/\∀z:Int,Q (.int z) H
theorem Zf4:Gy ["script", "k"] ["script", "k"] (Gg Zek):=⟨rfl,rfl,rfl,by decide +kernel,rfl,by decide +kernel,by decide +kernel⟩
theorem Zev {f:Addr}{fd:FuncData}(F:Fun K "_law_cell_at" "_law_cell_at" Zek f fd)(mLen:mg "len" = none):G7 P w K mg base CX0 1 f fd ["script", "k"] (Zda K):=by
 refine F.ok Zf4 (λvs H Q E h=>?_) (λcdv A outer s H vs Q E hr h=>?_)
 ·obtain ⟨_,_,_,rfl,_⟩:=h
  rfl
 ·obtain ⟨a,ns,k,rfl,hS,q⟩:=h;refine ⟨_,Gc (G6 (Gp ZdB (pv 1) (Gn (VT K) rfl mLen Ybw (Ga (pv 0) Ge)) (Gx _)) (Gh (Gz (GG (On K) (pv 0) (pv 1) (λ_ _=>rfl)))) Gu)
    (Gh (Gz Gd)),?_⟩
  refine ⟨_,rfl,_,rfl,a,_,rfl,.inl hS,_,_,rfl,rfl,_,rfl,?_⟩;rw [Yad];refine JU (λz=>?_) (λ_=>q 0);have z':=Ybv z;exact ⟨_,rfl,_,rfl,a,_,_,_,rfl,rfl,hS,JK (by lia) z',q _⟩
theorem Zdb {H:Hp}{l:Addr}{zs:List (Key×V)}{o:HO}(h:H l=some (.dK zs)):∀p ys,H p=some (.tup ys)->upd H l o p=some (.tup ys):=λp ys e=>Gm e (GP e h (λz=>by cases z))
noncomputable def Zf5 (H:Hp)(ks:List Tri)(root:Int)(Q:VK):Prop:=∀(p l:Addr)(a0:Int)(xs:List V)(us:List Tri)(fs:List Int)(H':Hp),Same H H'->H p=none->H l=none->TabAt H' p l a0 xs us->Rch ks root fs->Fin ks root fs->fs.Nodup->(∀x∈fs,∃r,Nd ks x r)->Said ks fs us fs.length->us.length=fs.length->fs.length<=ks.length->OM fs root=some a0->Q (.ref p) H'
theorem ZgU (n:Int):JP (Jl [] [(Sum.inl 0,.int 0),(Sum.inl 1,.int 1)]:List (Key×V)) (.inl n)=(OM [] n).map V.int:=by
 show JP (JL (JL [] (Sum.inl 0) (.int 0)) (Sum.inl 1) (.int 1):List (Key×V)) (.inl n)=_;rw [Jn,Jn];unfold OM;by_cases h1:n=1
 ·subst h1
  rfl
 ·rw [if_neg (λz=>h1 (Sum.inl.inj z))];by_cases h0:n=0
  ·subst h0
   rfl
  ·rw [if_neg (λz=>h0 (Sum.inl.inj z)),if_neg h0,if_neg h1]
   rfl
noncomputable def Zew:Sp:=λvs H Q _=>∃(l:Addr)(root:Int)(xs:List V)(ks:List Tri),vs=[.int root,.ref l]/\H l=some (.lst xs)/\Trs H xs ks/\TabOk ks/\ks.length<=900/\At ks root (-1) /\
 ∀(fl:Addr)(fs:List Int)(H':Hp),Same H H'->H' fl=some (.lst (fs.map V.int))->Rch ks root fs->Fin ks root fs->fs.Nodup->(∀x∈fs,∃r,Nd ks x r)->Q (.ref fl) H'
theorem scFou:Gy ["root", "nodes", "found", "seen", "ahead", "new", "number"] ["root", "nodes"] (Gg Zeh):=⟨rfl,rfl,rfl,by decide +kernel,rfl,by decide +kernel,by decide +kernel⟩
theorem Zf6 (n:Int):JP (Jl [] [(Sum.inl 0,.bl true),(Sum.inl 1,.bl true)]:List (Key×V)) (.inl n)=none↔New [] n:=by
 show JP (JL (JL [] (Sum.inl 0) (.bl true)) (Sum.inl 1) (.bl true):List (Key×V)) (.inl n)=none↔_;rw [Jn,Jn];unfold New;by_cases h1:n=1
 ·rw [if_pos (by rw [h1])];exact ⟨λz=>(by cases z),λz=>absurd h1 z.2.1⟩
 ·rw [if_neg (λz=>h1 (Sum.inl.inj z))];by_cases h0:n=0
  ·rw [if_pos (by rw [h0])];exact ⟨λz=>(by cases z),λz=>absurd h0 z.1⟩
  ·rw [if_neg (λz=>h0 (Sum.inl.inj z))];exact ⟨λ_=>⟨h0,h1,λz=>(by cases z)⟩,λ_=>rfl⟩
theorem Zex {f:Addr}{fd:FuncData}(F:Fun K "found_from" "found_from" Zeh f fd):G7 P w K mg base CX0 1 f fd ["root", "nodes"] Zew:=by
 refine F.ok scFou (λvs H Q E h=>?_) (λcdv A outer s H vs Q E hr h=>?_)
 ·obtain ⟨_,_,_,_,rfl,_⟩:=h
  rfl
 ·obtain ⟨l,root,xs,ks,rfl,el,tr,T,hks,ar,q⟩:=h;have h16:=Ybh.symm;have hu1:(A.deeper (PyProof.Rows.envOfC "found_from" (Gg Zeh) s.heap.objs.size f cdv)).units+1<cLine:=by have:=hr.un;lia
  refine ⟨_,Gc (Go (i:=2) scFou.nd rfl (Or.inl rfl) (Jc Ge))
    (Gc (Go (i:=3) scFou.nd rfl (Or.inl rfl) (Zt (Uj Gd OO (Uj Gd OO Zs)) rfl rfl (by decide) (by decide)))
    (Gc (Go (i:=4) scFou.nd rfl (Or.inl rfl) (Jc (Ga (pv 0) Ge)))
    (Gc (Xf Ydj (Ua (pv 4) (λ_=>rfl))
    (Gc (Go (i:=5) scFou.nd rfl (Or.inl rfl) (Jc Ge))
    (Gc (Od Ydj rfl (Wc K (pv 4)) (Gj (i:=6) scFou.nd rfl (Or.inl rfl))
    (Gh (G6 (YW (Wg hu1 (pv 6) (pv 3)) rfl) (Gc (WI hu1 (pv 3) (pv 6) OO rfl)
    (Gc (JM (Vf Ydi Yes Yet Ji (pv 2) (Ga (pv 6) Ge)))
    (Gh (JM (Vf Ydi PySem.F.slot_list_extend PySem.F.type_list_extend U2 (pv 5) (Ga (Jz (Zgr K) (GG (On K) (pv 1) (Gk JO (pv 6) Gd) (λ_ _=>rfl)) (JT Gd) JS) Ge)))))) Gu)))
    (Gh (Go (i:=4) scFou.nd rfl (Or.inl rfl) (pv 5))))))
    (Gh (Gz (pv 2)))))),?_⟩
  refine ⟨Yao _,λfl hfl=>?_⟩;have s1:Same H (upd H fl (.lst [])):=Same.new hfl;have efl:upd H fl (.lst []) fl=some (.lst (([]:List Int).map V.int)):=Gb;generalize upd H fl (.lst [])=H1 at s1 efl ⊢;intro d hd;refine ⟨Gb,[(.inl 0,.bl true),(.inl 1,.bl true)],rfl,by decide,?_⟩;have s2:Same H1 (upd (upd H1 d (.dK [])) d (.dK (Jl [] [(.inl 0,.bl true),(.inl 1,.bl true)]))):=(Same.new hd).put hd;have ed:upd (upd H1 d (.dK [])) d (.dK (Jl [] [(.inl 0,.bl true),(.inl 1,.bl true)])) d=some (.dK (Jl [] [(.inl 0,.bl true),(.inl 1,.bl true)])):=Gb;generalize upd (upd H1 d (.dK [])) d (.dK (Jl [] [(.inl 0,.bl true),(.inl 1,.bl true)]))=H2 at s2 ed ⊢;have hHd:H d=none:=s1.free hd;have hfd:fl≠d:=Gf efl hd;have efl2:=s2 _ _ efl;have s12:=s1.trans s2;clear efl s1 s2;refine ⟨_,rfl,(by show 1<=sizeLine;decide),λal hal=>?_⟩;have s3:Same H2 (upd H2 al (.lst [.int root])):=Same.new hal;have eal:upd H2 al (.lst [.int root]) al=some (.lst (([root]:List Int).map V.int)):=Gb;have hafl:al≠fl:=λz=>by rw [z,efl2] at hal;cases hal
  generalize upd H2 al (.lst [.int root])=H3 at s3 eal ⊢;have W0:Wk ks root [] (Jl [] [(.inl 0,.bl true),(.inl 1,.bl true)]) [] [root]:=⟨rfl,λy hy=>(by cases hy),Zf6,Yea,λx hx=>(by cases hx),.nil,by decide,λy hy=>by rw [Yaw] at hy;rw [hy];exact ar⟩;refine ⟨λm σ' H'=>∃(al:Addr)(fs:List Int)(kvs:List (Key×V))(pr ah:List Int)(v5 v6:Option V),σ'=[some (.int root),some (.ref l),some (.ref fl),some (.ref d),some (.ref al),v5,v6]/\Same H H'/\H' fl=some (.lst (fs.map V.int))/\H' d=some (.dK kvs)/\H' al=some (.lst (ah.map V.int))/\al≠fl/\Wk ks root fs kvs pr ah/\m=ks.length-fs.length+(if ah=[] then 0 else 1),
   ⟨_,al,[],_,[],[root],none,none,rfl,s12.trans s3,s3 _ _ efl2,s3 _ _ ed,eal,hafl,W0,rfl⟩,?_⟩
  clear W0 eal s3 efl2 ed s12 hal hafl;rintro m σ' H4 ⟨al,fs,kvs,pr,ah,v5,v6,rfl,s4,efl,ed,eal,hafl,W,rfl⟩;have hle:=W.le;have hah:=W.ahl;by_cases hz:ah=[]
  ·subst hz;refine ⟨_,rfl,false,.inl ⟨_,SqL.of eal,rfl⟩,Uc ?_⟩;exact ⟨_,rfl,q fl fs _ s4 efl W.rch W.fin W.nd W.nod⟩
  ·refine ⟨_,rfl,true,.inl ⟨_,SqL.of eal,by cases ah with | nil=>exact absurd rfl hz | cons a b=>rfl⟩,Oc ?_⟩;refine ⟨_,λ_ _ h=>h,?_⟩;refine ⟨Yao _,λnl hnl=>?_⟩;have s5:Same H4 (upd H4 nl (.lst [])):=Same.new hnl;have enl:upd H4 nl (.lst []) nl=some (.lst (([]:List Int).map V.int)):=Gb;have hna:nl≠al:=λz=>by rw [z,eal] at hnl;cases hnl
   have hnf:nl≠fl:=λz=>by rw [z,efl] at hnl;cases hnl
   have hHnl:H nl=none:=s4.free hnl;generalize upd H4 nl (.lst [])=H5 at s5 enl ⊢;refine ⟨_,rfl,al,rfl,⟨_,SqL.of (s5 _ _ eal)⟩,?_⟩;refine O9 (K:=K) (a:=al) (xs:=ah.map V.int) (λi σ' H'=>∃(fs':List Int)(kvs':List (Key×V))(nw:List Int)(v6:Option V),σ'=[some (.int root),some (.ref l),some (.ref fl),some (.ref d),some (.ref al),some (.ref nl),v6]/\Same H H'/\H' fl=some (.lst (fs'.map V.int))/\H' d=some (.dK kvs')/\H' al=some (.lst (ah.map V.int))/\H' nl=some (.lst (nw.map V.int))/\Wk ks root fs' kvs' (pr++ah.take i) (ah.drop i++nw)/\((fs'=fs/\nw=[])\/fs.length<fs'.length))
    ⟨fs,kvs,[],_,rfl,s4.trans s5,s5 _ _ efl,s5 _ _ ed,s5 _ _ eal,enl,by rw [List.take_zero,List.drop_zero,Ydv,Ydv];exact W,.inl ⟨rfl,rfl⟩⟩ (λi σ' H' _ ⟨_,_,_,_,_,_,_,_,e,_⟩=>SqL.of e) ?_ ?_
   ·clear efl ed eal enl s5 W hah;rintro i y σ' H6 hy ⟨fs',kvs',nw,v6',rfl,s6,efl,ed,eal,enl,W,hd⟩;obtain ⟨c,rfl,hc⟩:=Up hy;have e1:ah.drop i=c::ah.drop (i+1):=by
     obtain ⟨hi,e⟩:=Yau.mp hc;rw [List.drop_eq_getElem_cons hi,e]
    have e2:pr++ah.take (i+1)=(pr++ah.take i)++[c]:=by
     obtain ⟨hi,e⟩:=Yau.mp hc;rw [List.take_succ_eq_append_getElem hi,e,Ybq]
    rw [e1,List.cons_append] at W;have hle':=W.le;have hah':=W.ahl;rw [Ybn,Yak] at hah';have hkl:=W.kl;refine ⟨_,rfl,_,rfl,d,_,rfl,DGet.k (k:=.inl c) ed,_,rfl,?_⟩;cases hv:JP kvs' (.inl c) with
    | some v=>
     refine Uc ?_;refine ⟨fs',kvs',nw,_,rfl,s6,efl,ed,eal,enl,?_,hd⟩;rw [e2];exact W.skip λz=>by rw [(W.seen c).mpr z] at hv;cases hv
    | none=>
     refine Oc ?_;have hnew:=(W.seen c).mp hv;obtain ⟨r,n,_⟩:=(W.ok c Ybe).nd (by have:=(W.ok c Ybe).lt;have:=hnew.1;have:=hnew.2.1;lia);have W':=W.take (v:=.bl true) T hnew n;refine ⟨_,rfl,_,rfl,d,_,rfl,DPut.k (k:=.inl c) ed (by lia),?_⟩;have k7:=Zdb (o:=.dK (JL kvs' (.inl c) (.bl true))) ed;have efl7:upd H6 d (.dK (JL kvs' (.inl c) (.bl true))) fl=some (.lst (fs'.map V.int)):=Gm efl hfd;have eal7:upd H6 d (.dK (JL kvs' (.inl c) (.bl true))) al=some (.lst (ah.map V.int)):=Gm eal (GP eal ed (λz=>by cases z));have enl7:upd H6 d (.dK (JL kvs' (.inl c) (.bl true))) nl=some (.lst (nw.map V.int)):=Gm enl (GP enl ed (λz=>by cases z));have ed7:upd H6 d (.dK (JL kvs' (.inl c) (.bl true))) d=some (.dK (JL kvs' (.inl c) (.bl true))):=Gb;have s7:Same H (upd H6 d (.dK (JL kvs' (.inl c) (.bl true)))):=s6.put hHd;generalize upd H6 d (.dK (JL kvs' (.inl c) (.bl true)))=H7 at efl7 eal7 enl7 ed7 s7 ⊢;clear k7;refine ⟨_,rfl,.inl ⟨rfl,_,SqL.of efl7⟩,_,rfl,fl,_,_,rfl,rfl,efl7,by rw [Yad];lia,?_⟩;have efl8:upd H7 fl (.lst (fs'.map V.int++[.int c])) fl=some (.lst ((fs'++[c]).map V.int)):=by rw [Gb,Yas];rfl
     have eal8:upd H7 fl (.lst (fs'.map V.int++[.int c])) al=some (.lst (ah.map V.int)):=Gm eal7 hafl;have enl8:upd H7 fl (.lst (fs'.map V.int++[.int c])) nl=some (.lst (nw.map V.int)):=Gm enl7 hnf;have ed8:upd H7 fl (.lst (fs'.map V.int++[.int c])) d=some (.dK (JL kvs' (.inl c) (.bl true))):=Gm ed7 (Ne.symm hfd);have s8:Same H (upd H7 fl (.lst (fs'.map V.int++[.int c]))):=s7.put hfl;generalize upd H7 fl (.lst (fs'.map V.int++[.int c]))=H8 at efl8 eal8 enl8 ed8 s8 ⊢;obtain ⟨t,et1,et2⟩:=Zap (tr.same s8) n;refine ⟨_,rfl,.inl ⟨rfl,_,SqL.of enl8⟩,_,rfl,_,rfl,_,_,rfl,rfl,l,_,_,_,rfl,rfl,SqL.of (s8 _ _ el),et1,_,rfl,t,_,rfl,SqT.of et2,(λz=>by have:=z.1;simp [HT.sIx] at this),λps hps=>?_⟩;have s9:Same H8 (upd H8 ps (.tup (UQ [.int r.1,.int r.2.1,.int r.2.2] (some 1) none))):=Same.new hps;have eps:upd H8 ps (.tup (UQ [.int r.1,.int r.2.1,.int r.2.2] (some 1) none)) ps=some (.tup [.int r.2.1,.int r.2.2]):=Gb;generalize upd H8 ps (.tup (UQ [.int r.1,.int r.2.1,.int r.2.2] (some 1) none))=H9 at s9 eps ⊢;refine ⟨nl,ps,_,_,rfl,rfl,s9 _ _ enl8,eps,by rw [Yad];show nw.length+2<=sizeLine;lia,?_⟩;refine ⟨fs'++[c],_,nw++[r.2.1,r.2.2],_,rfl,(s8.trans s9).put hHnl,Gm (s9 _ _ efl8) (Ne.symm hnf),Gm (s9 _ _ ed8) (GP ed8 enl8 (λz=>by cases z)),Gm (s9 _ _ eal8) (Ne.symm hna),by rw [Gb,Yas];rfl,?_,.inr ?_⟩
     ·rw [e2,<-Ybq];exact W'
     ·rw [Yak,Ybc];rcases hd with ⟨h,_⟩ | h
      ·rw [h];lia
      ·lia
   ·clear efl ed eal enl s5 W hah;rintro σ' H6 ⟨fs',kvs',nw,v6',rfl,s6,efl,ed,eal,enl,W,hd⟩;rw [Yad,Ycq,List.drop_length,List.nil_append] at W;have hle':=W.le;refine ⟨_,rfl,?_⟩;refine ⟨_,?_,nl,fs',kvs',pr++ah,nw,_,_,rfl,s6,efl,ed,enl,hnf,W,rfl⟩;rw [if_neg hz];rcases hd with ⟨h1,h2⟩ | h
    ·rw [h1,h2,if_pos rfl];lia
    ·split <;> lia
theorem W4 {fs:List Int}{y:Int}(h:¬ New fs y):∃a,OM fs y=some a:=by
 cases e:OM fs y with
 | none=>exact absurd (New.num.mpr e) h
 | some a=>exact ⟨a,rfl⟩
noncomputable def Zfl (ks:List Tri)(x:Int):Tri:=(ks[(x-2).toNat]?).getD (0,0,0)
theorem Zar {ks:List Tri}{x:Int}{r:Tri}(n:Nd ks x r):Zfl ks x=r:=by
 unfold Zfl;rw [n.2]
 rfl
noncomputable def Zey:Sp:=λvs H Q _=>∃(l:Addr)(root:Int)(xs:List V)(ks:List Tri),vs=[.int root,.ref l]/\H l=some (.lst xs)/\Trs H xs ks/\TabOk ks/\ks.length<=900/\At ks root (-1)/\Zf5 H ks root Q
theorem scNum:Gy ["root", "nodes", "found", "numbers", "place", "number", "told"] ["root", "nodes"] (Gg Zei):=⟨rfl,rfl,rfl,by decide +kernel,rfl,by decide +kernel,by decide +kernel⟩
theorem Zez {f fF:Addr}{fd fdF:FuncData}(F:Fun K "numbered" "numbered" Zei f fd)(FF:Fun K "found_from" "found_from" Zeh fF fdF)(bF:Binds K fdF ["root", "nodes"] [])(mF:mg "found_from" = some (.ref fF))(GF:G7 P w K mg base CX0 1 fF fdF ["root", "nodes"] Zew)(mEnum:mg "enumerate" = none) :
  G7 P w K mg base CX0 2 f fd ["root", "nodes"] Zey:=by
 refine F.ok scNum (λvs H Q E h=>?_) (λcdv A outer s H vs Q E hr h=>?_)
 ·obtain ⟨_,_,_,_,rfl,_⟩:=h
  rfl
 ·obtain ⟨l,root,xs,ks,rfl,el,tr,T,hks,ar,q⟩:=h;have h16:=Ybh.symm;have hu1:(A.deeper (PyProof.Rows.envOfC "numbered" (Gg Zei) s.heap.objs.size f cdv)).units+1<cLine:=by have:=hr.un;lia
  refine ⟨_,Gc (Go (i:=2) scNum.nd rfl (Or.inl rfl) (Gq GF (hr.mono (by decide)) rfl mF FF.kp bF .nil G4 (Ga (pv 0) (Ga (pv 1) Ge))))
    (Gc (Go (i:=3) scNum.nd rfl (Or.inr rfl) (Zt (Uj Gd Gd (Uj Gd Gd Zs)) rfl rfl (by decide) (by decide)))
    (Gc (Od Ydj rfl (ZfL K rfl mEnum (Ga (pv 2) Ge)) (ZbW K (n:=2) rfl (GB (Gj (i:=4) scNum.nd rfl (Or.inl rfl)) (GB (Gj (i:=5) scNum.nd rfl (Or.inl rfl)) JQ)))
    (Gh (WI hu1 (pv 3) (pv 5) (Gk Jy (pv 4) Gd) rfl)))
    (Gc (Vg (i:=6) scNum.nd rfl (Or.inl rfl) (own:=["number"]) rfl (Gr (fr:=[("nodes", 1)]) [(".0", .local),("number", .local),("nodes", .cell)] rfl rfl (by decide +kernel) rfl (by decide +kernel) ⟨rfl,trivial⟩ ⟨λh=>G0 h,λh=>G0 h,λ_=>⟨_,rfl⟩,trivial⟩ ⟨⟨rfl,.inl rfl,.inl rfl⟩,trivial⟩) (Wc K (pv 2)) (λ_ _ _ _=>Gj (i:=0) (show List.Nodup (["number", "nodes"]:List Str) by decide +kernel) rfl (Or.inl rfl)) (λ_ _ _ _=>Jm) (λ_ _ _ _=>GG (On K) (pv 1) (Gk JO (pv 0) Gd) (λ_ _=>rfl)))
    (Gh (Gz (Ot (Ga (Vk hu1 (pv 3) (pv 0) (λ_ _=>rfl)) (Ga (JN (own:=["road", "low", "high"]) rfl (Gr (fr:=[("numbers", 3)]) [(".0", .local),("road", .local),("low", .local),("high", .local),("numbers", .cell)] rfl rfl (by decide +kernel) rfl (by decide +kernel) ⟨rfl,trivial⟩ ⟨λh=>G0 h,λh=>G0 h,λh=>G0 h,λh=>G0 h,λ_=>⟨_,rfl⟩,trivial⟩ ⟨⟨rfl,.inl rfl,.inl rfl⟩,trivial⟩) (Wc K (pv 6)) (λ_ _ _ _=>ZbW K (n:=3) rfl (GB (Gj (i:=0) (show List.Nodup (["road", "low", "high", "numbers"]:List Str) by decide +kernel) rfl (Or.inl rfl)) (GB (Gj (i:=1) (show List.Nodup (["road", "low", "high", "numbers"]:List Str) by decide +kernel) rfl (Or.inl rfl)) (GB (Gj (i:=2) (show List.Nodup (["road", "low", "high", "numbers"]:List Str) by decide +kernel) rfl (Or.inl rfl)) JQ)))) (λ_ _ _ _=>Jm) (λ_ _ _ _=>Ot (Ga (pv 0) (Ga (Vk hu1 (pv 3) (pv 1) (λ_ _=>rfl)) (Ga (Vk hu1 (pv 3) (pv 2) (λ_ _=>rfl)) Ge))))) Ge)))))))),?_⟩
  refine ⟨_,rfl,_,rfl,l,root,xs,ks,rfl,el,tr,T,hks,ar,λfl fs H1 s1 efl rch fin nd nod=>?_⟩;have hfl:fs.length<=ks.length:=by
   have:=Yde (l₂:=(List.range ks.length).map λ(i:Nat)=>(i:Int)+2) nd λx hx=>by
    obtain ⟨r,n⟩:=nod x hx;have h1:=n.lt;have h2:=n.1;exact Yar.mpr ⟨(x-2).toNat,Ycr.mpr (by lia),by lia⟩
   rwa [Yad,List.length_range] at this
  dsimp only [GO];intro d hd;refine ⟨Gb,[(.inl 0,.int 0),(.inl 1,.int 1)],rfl,by decide,?_⟩;have s2:Same H1 (upd (upd H1 d (.dK [])) d (.dK (Jl [] [(.inl 0,.int 0),(.inl 1,.int 1)]))):=(Same.new hd).put hd;have ed:upd (upd H1 d (.dK [])) d (.dK (Jl [] [(.inl 0,.int 0),(.inl 1,.int 1)])) d=some (.dK (Jl [] [(.inl 0,.int 0),(.inl 1,.int 1)])):=Gb;dsimp only [GO];generalize upd (upd H1 d (.dK [])) d (.dK (Jl [] [(.inl 0,.int 0),(.inl 1,.int 1)]))=H2 at s2 ed ⊢;have s12:=s1.trans s2;have efl2:=s2 _ _ efl;have el2:=s12 _ _ el;have tr2:=tr.same s12;have hHd:H d=none:=s1.free hd;refine Gv (λσ' H'=>∃(kvs:List (Key×V))(v4 v5:Option V),σ'=[some (.int root),some (.ref l),some (.ref fl),some (.ref d),v4,v5,none]/\Same H1 H'/\H' d=some (.dK kvs)/\∀n:Int,JP kvs (.inl n)=(OM fs n).map V.int) ?s1 ?f1
  case f1=>
   intro hk;refine ⟨_,rfl,fl,_,rfl,SqL.of efl2,?_⟩;refine Za5 (K:=K) (a:=fl) (xs:=fs.map V.int) (λi σ' H'=>∃(kvs:List (Key×V))(v4 v5:Option V),σ'=[some (.int root),some (.ref l),some (.ref fl),some (.ref d),v4,v5,none]/\Same H1 H'/\H' d=some (.dK kvs)/\(∀n:Int,JP kvs (.inl n)=(OM (fs.take i) n).map V.int)/\kvs.length<=i+2)
    ⟨_,none,none,rfl,s2,ed,λn=>by rw [List.take_zero];exact ZgU n,by decide⟩ (λi σ' H' _ ⟨_,_,_,_,s3,_⟩=>SqL.of (s3 _ _ efl)) ?_ ?_
   ·rintro i x σ' H3 T3 hxi ⟨kvs,v4,v5,rfl,s3,e3,val,len⟩ hT;obtain ⟨c,rfl,hc⟩:=Up hxi;have hi:i<fs.length:=(Yau.mp hc).1;obtain ⟨r,n⟩:=nod c (Ybg hc);have hn:OM (fs.take i) c=none:=New.num.mp ⟨by have:=n.1;lia,by have:=n.1;lia,λz=>by
     have hz:=nd;rw [<-Ydf (i+1) fs,Ycp,hc,Option.toList_some] at hz;exact (Ycn.mp (Ycn.mp hz).1).2.2 c z c (by simp) rfl⟩
    have hdT:d≠T3:=Gf e3 hT;refine ⟨T3,_,rfl,SqT.of Gb,rfl,_,_,rfl,_,_,rfl,rfl,?_⟩;have hl1:=Je kvs (Sum.inl c:Key) (.int ((i:Int)+2));refine ⟨_,rfl,_,_,rfl,rfl,_,rfl,_,rfl,d,_,rfl,DPut.k (k:=Sum.inl c) (Gm e3 hdT) (by lia),?_⟩;refine ⟨_,_,_,rfl,(s3.put (s3.free hT)).put hd,Gb,λm=>?_,Ybr hl1 (by lia)⟩;rw [Ycp,hc,Option.toList_some,Zbb _ m c hn,Jn,val m,Ybs,Yfb (Nat.le_of_lt hi)];by_cases e:m=c
    ·rw [if_pos e,if_pos (by rw [e])]
     rfl
    ·rw [if_neg e,if_neg (λz=>e (Sum.inl.inj z))]
   ·rintro σ' H3 ⟨kvs,v4,v5,rfl,s3,e3,val,len⟩;rw [Yad,Ycq] at val;exact hk _ _ ⟨kvs,v4,v5,rfl,s3,e3,val⟩
  rintro σ' H3 ⟨kvs,v4,v5,rfl,s3,e3,val⟩;have tr3:=tr.same (s1.trans s3);refine Gv (λσ' H'=>∃(tl:Addr)(ys:List V),σ'=[some (.int root),some (.ref l),some (.ref fl),some (.ref d),v4,v5,some (.ref tl)]/\Same H3 H'/\H' tl=some (.lst ys)/\Trs H' ys (fs.map (Zfl ks))) ?s2 ?f2
  case f2=>
   intro hk;refine ⟨_,rfl,fl,rfl,⟨_,SqL.of (s3 _ _ efl)⟩,λD hD=>?_⟩;refine Ov (K:=K) (a:=fl) (xs:=fs.map V.int) (λi ys H'=>Same H3 H'/\H' D=some (.lst ys)/\Trs H3 ys ((fs.take i).map (Zfl ks))) ⟨Same.new hD,Gb,by rw [List.take_zero];exact .nil⟩ (λi ys H' _ ⟨s4,_⟩=>SqL.of (s4 _ _ (s3 _ _ efl))) ?_ ?_
   ·rintro i x ys H4 hxi ⟨s4,hD4,ty⟩;obtain ⟨c,rfl,hc⟩:=Up hxi;have hi:i<fs.length:=(Yau.mp hc).1;obtain ⟨r,n⟩:=nod c (Ybg hc);obtain ⟨t,et1,et2⟩:=Zap tr3 n;have hyl:=ty.len;rw [Yad,Ybs] at hyl;refine ⟨⟨rfl,trivial⟩,?_⟩;unfold ZaF;refine Oc ?_;refine ⟨_,rfl,_,rfl,_,_,rfl,rfl,l,_,_,_,rfl,rfl,SqL.of (s4 _ _ ((s1.trans s3) _ _ el)),et1,?_⟩;refine ⟨hD4,by lia,s4.put hD,Gb,?_⟩;rw [Ycp,hc,Option.toList_some,Yas,List.map_singleton,Zar n];exact ty.snoc et2
   ·rintro ys H4 ⟨s4,hD4,ty⟩;rw [Yad,Ycq] at ty;exact hk _ _ ⟨D,ys,rfl,s4,hD4,ty.same s4⟩
  rintro σ' H4 ⟨tl,ys,rfl,s4,etl,ty⟩;obtain ⟨a0,ha0⟩:=W4 (fin root (by unfold ZN;exact Ybe));have g0:JP kvs (.inl root)=some (.int a0):=by rw [val,ha0];rfl
  have ed4:=s4 _ _ e3;refine ⟨_,rfl,_,rfl,d,_,rfl,g0▸DGet.k (k:=.inl root) ed4,?_⟩;refine ⟨_,rfl,tl,rfl,⟨_,SqL.of etl⟩,λD hD=>?_⟩;refine Ov (K:=K) (a:=tl) (xs:=ys) (λi zs H'=>Same H4 H'/\H' D=some (.lst zs)/\∃us,Trs H' zs us/\us.length=i/\Said ks fs us i) ⟨Same.new hD,Gb,[],.nil,rfl,λj x hj=>absurd hj (Yds _)⟩ (λi zs H' _ ⟨s5,_⟩=>SqL.of (s5 _ _ etl)) ?_ ?_
  ·rintro i y zs H5 hyi ⟨s5,hD5,us,tus,hus,S⟩;obtain ⟨t,r,rfl,et,er⟩:=ty.get hyi;rw [Ybk] at er;obtain ⟨c,hc,hr'⟩:=Ybt.mp er;obtain ⟨r',n⟩:=nod c (Ybg hc);rw [Zar n] at hr';subst hr';have hi:i<fs.length:=(Yau.mp hc).1;have inS:∀z,z∈[r'.2.1,r'.2.2]->z∈ZN ks root fs:=λz hz=>by
    unfold ZN;exact Ybb _ (List.mem_flatMap.mpr ⟨c,Ybg hc,by rw [Zb3 n];exact hz⟩)
   obtain ⟨a1,ha1⟩:=W4 (fin _ (inS r'.2.1 (by simp)));obtain ⟨a2,ha2⟩:=W4 (fin _ (inS r'.2.2 (by simp)));have g1:JP kvs (.inl r'.2.1)=some (.int a1):=by rw [val,ha1];rfl
   have g2:JP kvs (.inl r'.2.2)=some (.int a2):=by rw [val,ha2];rfl
   have ed5:=s5 _ _ ed4;have hzl:=tus.len;refine ⟨t,_,rfl,SqT.of (s5 _ _ et),rfl,_,_,rfl,_,_,rfl,_,_,rfl,rfl,⟨rfl,trivial⟩,?_⟩;unfold ZaF;refine Oc ?_;refine ⟨_,rfl,_,rfl,_,rfl,d,_,rfl,g1▸DGet.k (k:=.inl r'.2.1) ed5,_,rfl,_,rfl,d,_,rfl,g2▸DGet.k (k:=.inl r'.2.2) ed5,(by show 3<=sizeLine;decide),λt5 ht5=>?_⟩;have s6:Same H5 (upd H5 t5 (.tup [.int r'.1,.int a1,.int a2])):=Same.new ht5;have et5:upd H5 t5 (.tup [.int r'.1,.int a1,.int a2]) t5=some (.tup [.int r'.1,.int a1,.int a2]):=Gb;generalize upd H5 t5 (.tup [.int r'.1,.int a1,.int a2])=H6 at s6 et5 ⊢;have k5:=JB (o:=.lst (zs++[.ref t5])) (s6 _ _ hD5);exact ⟨s6 _ _ hD5,by lia,(s5.trans s6).put hD,Gb,us++[(r'.1,a1,a2)],((tus.same s6).keep k5).snoc (k5 _ _ et5),by rw [Yak,Ybc,hus],S.snoc hus hc n ha1 ha2⟩
  ·rintro zs H5 ⟨s5,hD5,us,tus,hus,S⟩;have hyl:=ty.len;rw [Yad] at hyl;rw [hyl] at hus S;refine ⟨U8,λp hp=>?_⟩;have s6:Same H5 (upd H5 p (.tup [.int a0,.ref D])):=Same.new hp;have sa:=((s1.trans s3).trans s4).trans s5;exact q p D a0 zs us fs _ (sa.trans s6) (sa.free hp) (((s1.trans s3).trans s4).free hD) ⟨Gb,s6 _ _ hD5,tus.same s6⟩ rch fin nd nod S hus hfl ha0
end
section
variable {P:Program}{w:World}{K:W.Frag}{mg:Str->Option Value}{base:Heap}{κ:Type}[DecidableEq κ]{G:GK P w κ}{pf:κ->Pt κ}{Dom:κ->Prop}
noncomputable def FrD (nl pd tb:Addr)(H H':Hp):Prop:=∀b o,b≠nl->b≠pd->b≠tb->H b=some o->H' b=some o
noncomputable def ZeA (G:GK P w κ)(pf:κ->Pt κ)(Dom:κ->Prop)(fP C TM tb:Addr):Sp:=λvs H Q E=>∃(b p nl pd:Addr)(s:κ)(U Un:List κ)(M:Int)(xs0:List V)(ts0:List Tri)(kv0:List (List Key×V)),vs=[.ref b,.ref fP,.ref p]/\G.At H b s/\Dom s/\(∀k,Rc pf s k->k∈U)/\(∀k,Rc pf s k->O5 (pf k)=true->k∈Un)/\ts0.length+U.length<=10000/\Zf3 pf s/\LD tb H /\
 ShelfAt C H p nl pd (.int M) xs0 ts0 kv0/\ShOk ts0 /\
 (∀(c:Int)(xs:List V)(ts:List Tri)(kvs:List (List Key×V))(H':Hp),FrD nl pd tb H H'->LD tb H'->ShelfAt C H' p nl pd (.int M) xs ts kvs->Grw pf s ts0 ts->ts.length<=ts0.length+Un.length->((ts.length:Int)<=M\/ts=ts0)->(∀k,Rc pf s k->∃c,NumOk pf ts k c)->NumOk pf ts s c->Q (.int c) H') /\
 (∀(ts:List Tri)(H':Hp),FrD nl pd tb H H'->LD tb H'->Grw pf s ts0 ts->M<ts.length->ts.length<=ts0.length+Un.length->E (.ref TM) none H')
theorem scLdn:Gy ["start", "parts", "shelf", "numbers", "part", "rising", "road", "low", "high", "found"] ["start", "parts", "shelf"] (Gg Zdk):=⟨rfl,rfl,rfl,by decide +kernel,rfl,by decide +kernel,by decide +kernel⟩
theorem ZgV {X:Cx}{o i:Expr}{td ty:TE}{pos:Pos}(ho:PE X o td)(hi:PE X i ty)(hs:Ze8 i)(hP:X.prog=P:=by rfl)(hw:X.w=w:=by rfl)(hu:X.A.units+71<cLine:=by assumption):PE X (.Subscript o i pos) (Zgt G td ty):=by
 subst hP hw;exact OK hu ho hi hs
theorem U9 {T:Addr}{line col:Nat}{qual:Str}{H H':Hp}(h:LamSt T line col qual H)(k:∀b o,((∃ps,o=.tbl ps)\/∃oc,o=.frz oc (.own b))->H b=some o->H' b=some o):LamSt T line col qual H':=by
 rcases h with e | ⟨c,e,oc,ec,co⟩
 ·exact .inl (k _ _ (.inl ⟨_,rfl⟩) e)
 ·exact .inr ⟨c,k _ _ (.inl ⟨_,rfl⟩) e,oc,k _ _ (.inr ⟨_,rfl⟩) ec,co⟩
theorem ZbJ {qs:GKv κ}(pw:qs.Pairwise λa b=>rdP (pf b.1)<=rdP (pf a.1)){i:Nat}{q q':κ×Addr×V}(hi:qs[i]?=some q)(hq:q'∈qs)(hr:rdP (pf q.1)<rdP (pf q'.1)):q'∈qs.take i:=by
 obtain ⟨j,hj,e⟩:=Ydd hq;obtain ⟨hi',ei⟩:=Yau.mp hi;by_cases h:j<i
 ·exact List.mem_take_iff_getElem.mpr ⟨j,by lia,e⟩
 ·by_cases h2:i=j
  ·subst h2;rw [<-e,ei] at hr
   lia
  ·have:=List.pairwise_iff_getElem.mp pw i j hi' hj (by lia);rw [e,ei] at this
   lia
theorem UI {k:κ}(h:O5 (pf k)=true):∃r a b,pf k=.node r a b:=by
 cases e:pf k with
 | leaf n=>rw [e] at h;cases h
 | node r a b=>exact ⟨r,a,b,rfl⟩
theorem Zas {α:Type}{xs:List α}{i:Nat}{x:α}(p:α->Bool)(h:xs[i]?=some x):(xs.take (i+1)).filter p=if p x=true then (xs.take i).filter p++[x] else (xs.take i).filter p:=by
 rw [Ycp,h,Option.toList_some,Yeg];by_cases e:p x=true
 ·rw [if_pos e];simp [e]
 ·rw [if_neg e];simp [e]
theorem ZeB {f c tb fP fPb fPut C TM:Addr}{fd fdPb fdPut:FuncData}{kp:Nat}(F:Fun K "laid_down" "laid_down" Zdk f fd)(hc:fd.code=.ref c)(hC:W.CodeHd base c tb)(hBl:base.BuiltinsAt mg tb)(FPb:Fun K "parts_below" "parts_below" Zeg fPb fdPb)(bPb:Binds K fdPb ["start", "parts"] [])(mPb:mg "parts_below" = some (.ref fPb))(GPb:G7 P w K mg base CX0 (kp+1) fPb fdPb ["start", "parts"] (λvs H Q E=>(∀b s,vs=[.ref b,.ref fP]->G.At H b s->Dom s)/\Zes G pf fP vs H Q E))(inj:∀{H:Hp}{b:Addr}{k k':κ},G.At H b k->G.At H b k'->k=k')(TS:Zen K mg C TM)(mPut:ZfB K C "put" fPut)(bPut:Binds K fdPut ["self", "road", "low", "high"] [])(GPut:G7 P w K mg base (CXr P w) 1 fPut fdPut ["self", "road", "low", "high"] (Zeq C TM))(kit:W.kitOne K (.type "int") (.type "tuple")=some false)(kit2:W.kitOne K (.type "tuple") (.type "int")=some false)(mIsi:mg "isinstance" = none)(mTup:mg "tuple" = none)(mInt:mg "int" = none)(mSor:mg "sorted" = none) :
  G7 P w K mg base (CXr P w) (kp+2) f fd ["start", "parts", "shelf"] (ZeA G pf Dom fP C TM tb):=by
 refine Fun.okRC F hc scLdn (λvs H Q E h=>?_) (λA outer s H vs Q E hr h=>?_)
 ·obtain ⟨_,_,_,_,_,_,_,_,_,_,_,rfl,_⟩:=h
  rfl
 ·obtain ⟨b,p,nl,pd,st,U,Un,M,xs0,ts0,kv0,rfl,hb,hst,hU,hUn,hUl,PO,ld,S0,sh0,qq,qe⟩:=h;have hu71:(A.deeper (PyProof.Rows.envOfC "laid_down" (Gg Zdk) s.heap.objs.size f (.ref c))).units+71<cLine:=by have:=hr.un;lia
  have hu80:(A.deeper (PyProof.Rows.envOfC "laid_down" (Gg Zdk) s.heap.objs.size f (.ref c))).units+80<cLine:=by have:=hr.un;lia
  have jJ:=hr.depth;have h16:=Ybh.symm;refine ⟨_,Gc (Go (i:=9) scLdn.nd rfl (Or.inr rfl) (Gq GPb hr rfl mPb FPb.kp bPb .nil G4 (Ga (pv 0) (Ga (pv 1) Ge))))
    (Gc (Go (i:=3) scLdn.nd rfl (Or.inl rfl) (Zal (G:=G)))
    (Gc (Od PassesOwn.leaving rfl (XR (G:=G) (pv 9)) (Gj (i:=4) scLdn.nd rfl (Or.inl rfl))
    (Gh (G6 (VW (Gn (Ze7 K) rfl mIsi Ue (Ga (OK (G:=G) hu71 (pv 9) (pv 4) (λ_ _=>rfl)) (Ga (Xo mInt ZaV) Ge)))) (Gh (WZ (G:=G) hu71 (pv 3) (pv 4) (OK (G:=G) hu71 (pv 9) (pv 4) (λ_ _=>rfl)) rfl)) Gu)))
    (Gc (Vg (i:=5) scLdn.nd rfl (Or.inl rfl) (own:=["part"]) rfl (Gr (fr:=[("found", 9)]) [(".0", .local),("part", .local),("isinstance", .globalImplicit),("tuple", .globalImplicit),("found", .cell)] rfl rfl (by decide +kernel) rfl (by decide +kernel) ⟨rfl,trivial⟩ ⟨λh=>G0 h,λh=>G0 h,λh=>G0 h,λh=>G0 h,λ_=>⟨_,rfl⟩,trivial⟩ ⟨⟨rfl,.inl rfl,.inl rfl⟩,trivial⟩) (XR (G:=G) (pv 9)) (λ_ _ _ _=>Gj (i:=0) (show List.Nodup (["part", "found"]:List Str) by decide +kernel) rfl (Or.inl rfl)) (λ_ _ _ _=>Ud (VW (Gn (Ze7 K) rfl mIsi Ue (Ga (ZgV (G:=G) (pv 1) (pv 0) (λ_ _=>rfl)) (Ga (Xo mTup Jo) Ge))))) (λ_ _ _ _=>pv 0))
    (Gc (Od PassesOwn.leaving rfl (Wc K (YA (YN (G:=G) (K:=K) (j:=9) (x:=Str.ofString "part") (y:=Str.ofString "found") (cc:=s.heap.objs.size+1) (qual:=Str.ofString "laid_down.<locals>.<lambda>") (params:={ posonlyargs:=[],args:=[{ arg := "part", annotation:=none,pos:=⟨56,42,56,46⟩:PySem.Arg }],vararg:=none,kwonlyargs:=[],kw_defaults:=[],kwarg:=none,defaults:=[]:PySem.Arguments }) (pm:=(mg "__name__").getD .none) (scope:={ kind:=PySem.ScopeKind.function,names:=[(PySem.Str.ofString "part", PySem.NameKind.local),(PySem.Str.ofString "found", PySem.NameKind.free)],isGenerator:=false,isCoroutine:=false,more:=[]:PySem.Scope }) (p1:=⟨56,48,56,53⟩) (p2:=⟨56,54,56,58⟩) (p5:=⟨56,48,56,59⟩) (p6:=⟨56,60,56,61⟩) (p7:=⟨56,48,56,62⟩) (d2:=0) rfl jJ hu80 rfl (Or.inr (Or.inl rfl)) rfl rfl rfl rfl rfl (λ_ _ _=>rfl) rfl rfl (by decide +kernel) (by decide) (by decide) (by decide)) rfl mSor PyProof.Rows.boot_sorted (Ga (pv 5) Ge) (WF (Zd5 (qual:=Str.ofString "laid_down.<locals>.<lambda>") (clos:=[(Str.ofString "found", s.heap.objs.size+1)]) rfl rfl hC hBl rfl) (WF OO ZbS)))) (Gj (i:=4) scLdn.nd rfl (Or.inl rfl))
    (Gc (OZ (OK (G:=G) hu71 (pv 9) (pv 4) (λ_ _=>rfl)) (ZbW K (n:=3) rfl (GB (Gj (i:=6) scLdn.nd rfl (Or.inl rfl)) (GB (Gj (i:=7) scLdn.nd rfl (Or.inl rfl)) (GB (Gj (i:=8) scLdn.nd rfl (Or.inl rfl)) JQ)))))
    (Gh (WZ (G:=G) hu71 (pv 3) (pv 4) (Zcs (pv 2) TS.cl mPut GPut (hr.mono (by lia)) bPut .nil ZcB (Ga (pv 6) (Ga (OK (G:=G) hu71 (pv 3) (pv 7) (λ_ _=>rfl)) (Ga (OK (G:=G) hu71 (pv 3) (pv 8) (λ_ _=>rfl)) Ge)))) rfl))))
    (Gh (Gz (OK (G:=G) hu71 (pv 3) (pv 0) (λ_ _=>rfl)))))))),?_⟩
  refine ⟨_,rfl,_,rfl,(λb' s' e hb'=>?_),b,st,U,rfl,hb,hU,by lia,λfo kvs H1 s1 hfo ef F1 al1 hkl=>?_⟩
  ·have e1:b=b':=by
    have:=Ybf (·[0]?) e;exact V.ref.inj (Ybl this)
   rw [inj hb' (e1▸hb)];exact hst
  have ld1:LD tb H1:=ld.same s1;have S1:=S0.same s1;have rc1:∀q∈kvs,Rc pf st q.1:=F1.rc;dsimp only [GO];intro nu hnu;have nfn:fo≠nu:=Gf ef hnu;have ef2:upd H1 nu (gd G nu ([]:GKv κ)) fo=some (gd G fo kvs):=Gm ef nfn;have en2:upd H1 nu (gd G nu ([]:GKv κ)) nu=some (gd G nu ([]:GKv κ)):=Gb;have s2:Same H1 (upd H1 nu (gd G nu ([]:GKv κ))):=Same.new hnu;dsimp only [GO];change Zfo _ _ _ _ (upd H1 nu (gd G nu ([]:GKv κ)));generalize upd H1 nu (gd G nu ([]:GKv κ))=H2 at ef2 en2 s2 ⊢;have gK:∀{H':Hp},(∀a u,a≠fo->H1 a=some u->H' a=some u)->∀a ys,H1 a=some (.tup ys)->H' a=some (.tup ys):=λk a ys e=>k a _ (GP e ef (λz=>by cases z)) e;have gG:∀{H':Hp}{o:Obj}{q:κ×Addr×V},(∀a u,a≠fo->H1 a=some u->H' a=some u)->H' fo=some (.frz o (gd G fo kvs))->q∈kvs->YJ G H' fo (.ref q.2.1) (some q.2.2):=λ{H' o q} k e hq=>⟨kvs,q.1,q.2.1,.inr ⟨o,e⟩,F1.ks.keep (gK k),rfl,G.keep (F1.ks q hq) (gK k),(Zaq F1.nd (b:=q.2.1) (v:=q.2.2) hq).symm⟩;refine Gv (λσ' H'=>∃(o:Obj)(nvs:GKv κ)(v4:Option V),σ'=[some (.ref b),some (.ref fP),some (.ref p),some (.ref nu),v4,none,none,none,none,some (.ref fo)]/\(∀a u,a≠fo->H1 a=some u->H' a=some u)/\H' fo=some (.frz o (gd G fo kvs))/\H' nu=some (gd G nu nvs)/\NV G pf ts0 (λk=>O5 (pf k)=false) kvs H' nvs) ?s1 ?f1
  case f1=>
   intro hk;refine ⟨_,rfl,fo,kvs,rfl,.inl ⟨ef2,λo=>?_⟩⟩;refine Zan (G:=G) (a:=fo) (o:=o) (kvs:=kvs) (λi σ' H'=>∃(nvs:GKv κ)(v4:Option V),σ'=[some (.ref b),some (.ref fP),some (.ref p),some (.ref nu),v4,none,none,none,none,some (.ref fo)]/\(∀a u,a≠fo->H1 a=some u->H' a=some u)/\H' fo=some (.frz o (gd G fo kvs))/\H' nu=some (gd G nu nvs)/\NV G pf ts0 (λk=>k∈(kvs.take i).map (·.1)/\O5 (pf k)=false) kvs H' nvs)
    ⟨[],none,rfl,λa u n e=>Gm (s2 _ _ e) n,Gb,Gm en2 (Ne.symm nfn),⟨λq hq=>(by cases hq),Yea,λq hq=>(by cases hq),λq hq=>(by cases hq),λq hq d=>by have:=d.1;simp at this⟩⟩ (λi σ' H' _ ⟨_,_,_,_,e,_⟩=>e) ?_ ?_
   ·rintro i k bk v σ' H3 hki ⟨nvs,v4,rfl,k3,ef3,en3,N⟩;have hm:(k,bk,v)∈kvs:=Ybg hki;have hil:i<kvs.length:=(Yau.mp hki).1;have gg:YJ G H3 fo (.ref bk) (some v):=gG k3 ef3 hm;have pv:=(F1.pv _ hm).keep (gK k3);have tk:(kvs.take (i+1)).map (·.1)=(kvs.take i).map (·.1)++[k]:=by
     rw [Ycp,hki,Yas]
     rfl
    dsimp only [GO];cases hp:pf k with
    | leaf n=>
     dsimp only at pv;rw [hp] at pv;obtain rfl:v=.int n:=pv;refine ⟨_,rfl,_,rfl,fo,_,rfl,gg,_,_,true,rfl,⟨_,rfl,Oc ?_⟩,.inl ⟨_,.int _,rfl,Uf⟩⟩;have hnd:¬ (k∈(kvs.take i).map (·.1)/\O5 (pf k)=false):=λz=>by
      have hz:=F1.nd;rw [<-Ydf (i+1) kvs,Yas,tk] at hz;exact (Ycn.mp (Ycn.mp hz).1).2.2 k z.1 k (by simp) rfl
     have hl:=N.len;refine ⟨_,rfl,_,rfl,fo,_,rfl,gg,_,rfl,_,rfl,nu,bk,nvs,k,rfl,rfl,en3,N.ks,G.keep (F1.ks _ hm) (gK k3),N.none hnd,by lia,?_⟩;have t4:∀a ys,H3 a=some (.tup ys)->upd H3 nu (gd G nu (nvs++[(k,bk,.int n)])) a=some (.tup ys):=λa ys e=>Gm e (GP e en3 (λz=>by cases z));refine ⟨_,_,rfl,λa u n e=>Gm (k3 a u n e) (λz=>by rw [z,hnu] at e;cases e),Gm ef3 nfn,Gb,?_⟩;refine ((N.snoc (G.keep (F1.ks _ hm) (gK k3)) hnd (Yar.mpr ⟨_,hm,rfl⟩) (NumOk.leaf hp (PO.lf k n (rc1 _ hm) hp))).keep t4).like λx _=>?_;rw [tk,Yal,Yaw];constructor
     ·rintro (h | rfl)
      ·exact ⟨.inl h.1,h.2⟩
      ·exact ⟨.inr rfl,by rw [hp];rfl⟩
     ·rintro ⟨h | rfl,h2⟩
      ·exact .inl ⟨h,h2⟩
      ·exact .inr rfl
    | node r lo hi=>
     dsimp only at pv;rw [hp] at pv;obtain ⟨t,bl,bh,rfl,et,_⟩:=pv;refine ⟨_,rfl,_,rfl,fo,_,rfl,gg,_,_,false,rfl,⟨_,rfl,Uc ?_⟩,.inl ⟨_,.tup et,rfl,kit2⟩⟩;refine ⟨_,_,rfl,k3,ef3,en3,N.like λx _=>?_⟩;rw [tk,Yal,Yaw];constructor
     ·rintro ⟨h,h2⟩;exact ⟨.inl h,h2⟩
     ·rintro ⟨h | rfl,h2⟩
      ·exact ⟨h,h2⟩
      ·rw [hp] at h2;cases h2
   ·rintro σ' H3 ⟨nvs,v4,rfl,k3,ef3,en3,N⟩;refine hk _ _ ⟨o,nvs,v4,rfl,k3,ef3,en3,N.like λx hx=>?_⟩;rw [Ycq];exact ⟨λh=>h.2,λh=>⟨hx,h⟩⟩
  rintro σ' H3 ⟨o,nvs0,v4,rfl,k3,ef3,en3,N0⟩;refine Gv (λσ' H'=>∃(ri:Addr),σ'=[some (.ref b),some (.ref fP),some (.ref p),some (.ref nu),v4,some (.ref ri),none,none,none,some (.ref fo)]/\Same H3 H'/\H3 ri=none/\H' ri=some (.lst ((kvs.filter λq=>O5 (pf q.1)).map λq=>V.ref q.2.1))) ?s2 ?f2
  case f2=>
   intro hk;refine ⟨_,rfl,fo,kvs,rfl,.inr ⟨o,ef3,λD hD=>?_⟩⟩;refine YL (G:=G) (a:=fo) (o:=o) (kvs:=kvs) (λi ys H'=>Same H3 H'/\H' D=some (.lst ys)/\ys=((kvs.take i).filter λq=>O5 (pf q.1)).map λq=>V.ref q.2.1) ⟨Same.new hD,Gb,rfl⟩ (λi ys H' _ ⟨s4,_⟩=>s4 _ _ ef3) ?_ ?_
   ·rintro i k bk v ys H4 hki ⟨s4,hD4,rfl⟩;have hm:(k,bk,v)∈kvs:=Ybg hki;have k4:∀a u,a≠fo->H1 a=some u->H4 a=some u:=λa u n e=>s4 _ _ (k3 a u n e);have gg:YJ G H4 fo (.ref bk) (some v):=gG k4 (s4 _ _ ef3) hm;have pv:=(F1.pv _ hm).keep (gK k4);rw [Zas _ hki];refine ⟨⟨rfl,trivial⟩,?_⟩;cases hp:pf k with
    | leaf n=>
     dsimp only at pv;rw [hp] at pv;obtain rfl:v=.int n:=pv;refine ⟨_,rfl,_,rfl,fo,_,rfl,gg,_,_,false,rfl,⟨_,rfl,Uc ?_⟩,.inl ⟨_,.int _,rfl,kit⟩⟩;exact ⟨s4,hD4,by simp [hp,O5]⟩
    | node r lo hi=>
     dsimp only at pv;rw [hp] at pv;obtain ⟨t,bl,bh,rfl,et,_⟩:=pv;refine ⟨_,rfl,_,rfl,fo,_,rfl,gg,_,_,true,rfl,⟨_,rfl,Oc ?_⟩,.inl ⟨_,.tup et,rfl,Uf⟩⟩;refine ⟨_,rfl,hD4,?_,s4.put hD,Gb,by simp [hp,O5]⟩;rw [Yad];have:=Yeu (λq:κ×Addr×V=>O5 (pf q.1)) (kvs.take i);rw [Ybs] at this
     lia
   ·rintro ys H4 ⟨s4,hD4,rfl⟩;rw [Ycq] at hD4;exact hk _ _ ⟨D,rfl,s4,hD,hD4⟩
  rintro σ' H4 ⟨ri,rfl,s4,hri,eri⟩;have ef4:=s4 _ _ ef3;have en4:=s4 _ _ en3;have N4:=N0.keep λa ys e=>s4 _ _ e;have k4:∀a u,a≠fo->H1 a=some u->H4 a=some u:=λa u n e=>s4 _ _ (k3 a u n e);have ld4:LD tb H4:=U9 ld1 λa u h e=>k4 a u (λz=>by
   rw [z,ef] at e;rcases h with ⟨_,rfl⟩ | ⟨_,rfl⟩ <;> cases e) e
  have S4:ShelfAt C H4 p nl pd (.int M) xs0 ts0 kv0:=⟨S1.ob.elim λdx e=>⟨dx,k4 _ _ (GP e ef (λz=>by cases z)) e⟩,k4 _ _ (GP S1.nd ef (λz=>by cases z)) S1.nd,S1.tr.keep (gK k4),k4 _ _ (GP S1.pl ef (λz=>by cases z)) S1.pl,S1.ok⟩;obtain ⟨psT,eT⟩:=ld4.tbl;refine ⟨_,rfl,ld4,λfl c' ctv H5 sl on hfl efl=>?_⟩;obtain ⟨eT5,oc,eoc,hco⟩:=on;have n5:∀a u,(∀ps,u≠.tbl ps)->H4 a=some u->H5 a=some u:=λa u hu e=>sl a u (λz=>by rw [z,eT] at e;exact hu _ (Ybl e).symm) e;have eri5:=n5 _ _ (λ_ z=>by cases z) eri;have ef5:=n5 _ _ (λ_ z=>by cases z) ef4;have en5:=n5 _ _ (λ_ z=>by cases z) en4;have t5:∀a ys,H4 a=some (.tup ys)->H5 a=some (.tup ys):=λa ys e=>n5 a _ (λ_ z=>by cases z) e;have t15:∀a ys,H1 a=some (.tup ys)->H5 a=some (.tup ys):=λa ys e=>t5 a ys (gK k4 a ys e);have S5:ShelfAt C H5 p nl pd (.int M) xs0 ts0 kv0:=⟨S4.ob.elim λdx e=>⟨dx,n5 _ _ (λ_ z=>by cases z) e⟩,n5 _ _ (λ_ z=>by cases z) S4.nd,S4.tr.keep t5,n5 _ _ (λ_ z=>by cases z) S4.pl,S4.ok⟩;have gT:∀{H':Hp}{q:κ×Addr×V},(∀a ys,H1 a=some (.tup ys)->H' a=some (.tup ys))->H' fo=some (.frz o (gd G fo kvs))->q∈kvs->YJ G H' fo (.ref q.2.1) (some q.2.2):=λ{H' q} k e hq=>⟨kvs,q.1,q.2.1,.inr ⟨o,e⟩,F1.ks.keep k,rfl,G.keep (F1.ks q hq) k,(Zaq F1.nd (b:=q.2.1) (v:=q.2.2) hq).symm⟩;refine ⟨ri,fl,c',fo,oc,ctv,(kvs.filter λq=>O5 (pf q.1)).map (λq=>(q.2.1,rdP (pf q.1))),rfl,rfl,SqL.of (by rw [Ydt];exact eri5),efl,eoc,hco,rfl,λu hu=>?_,λl ps hl pm pw=>?_⟩
  ·obtain ⟨q,hq,rfl⟩:=Yar.mp hu;obtain ⟨hq1,hq2⟩:=Yca.mp hq;obtain ⟨r,lo,hi,hp⟩:=UI hq2;have pv:=(F1.pv q hq1).keep t15;rw [hp] at pv;obtain ⟨t,bl,bh,ev,et,_⟩:=pv;exact ⟨t,[.ref bl,.ref bh],ev▸gT t15 ef5 hq1,by rw [hp];exact SqT.of et⟩
  obtain ⟨qs,pq,rfl⟩:=JI pm;rw [Yby] at pw;have hqm:∀q,q∈qs↔q∈kvs/\O5 (pf q.1)=true:=λq=>by rw [pq.mem_iff,Yca]
  have hql:qs.length<=kvs.length:=by
   rw [pq.length_eq];exact Yeu _ _
  have hqn:(qs.map (·.1)).Nodup:=(pq.map (·.1)).nodup_iff.mpr (F1.nd.sublist (List.filter_sublist.map _));have hqu:qs.length<=Un.length:=by
   have:=Yde hqn (l₂:=Un) λk hk=>by
    obtain ⟨q,hq,rfl⟩:=Yar.mp hk;exact hUn _ (rc1 _ ((hqm q).mp hq).1) ((hqm q).mp hq).2
   rwa [Yad] at this
  rw [Ydt];have s6:Same H5 (upd H5 l (.lst (qs.map ((λt:Addr×Int=>V.ref t.1)∘λq:κ×Addr×V=>(q.2.1,rdP (pf q.1)))))):=Same.new hl;have el6:upd H5 l (.lst (qs.map ((λt:Addr×Int=>V.ref t.1)∘λq:κ×Addr×V=>(q.2.1,rdP (pf q.1))))) l=some (.lst (qs.map λq=>V.ref q.2.1)):=Gb;generalize upd H5 l (.lst (qs.map ((λt:Addr×Int=>V.ref t.1)∘λq:κ×Addr×V=>(q.2.1,rdP (pf q.1)))))=H6 at s6 el6 ⊢;have ef6:=s6 _ _ ef5;have en6:=s6 _ _ en5;have S6:=S5.same s6;have N6:NV G pf ts0 (λk=>O5 (pf k)=false) kvs H6 nvs0:=N4.keep λa ys e=>s6 _ _ (t5 a ys e);have t16:∀a ys,H1 a=some (.tup ys)->H6 a=some (.tup ys):=λa ys e=>s6 _ _ (t15 a ys e);have ld6:LD tb H6:=LamSt.same (.inr ⟨c',eT5,oc,eoc,hco⟩) s6;have nln:l≠nl:=λz=>by rw [z,S5.nd] at hl;cases hl
  have nlu:l≠nu:=GP el6 en6 (λz=>by cases z);have nlp:l≠pd:=GP el6 S6.pl (λz=>by cases z);have nfu:fo≠nu:=nfn;have nfl:fo≠nl:=GP ef6 S6.nd (λz=>by cases z);have nfp:fo≠pd:=GP ef6 S6.pl (λz=>by cases z);have nuln:nu≠nl:=GP en6 S6.nd (λz=>by cases z);have nupd:nu≠pd:=GP en6 S6.pl (λz=>by cases z);have npu:p≠nu:=S6.ob.elim λdx e=>GP e en6 (λz=>by cases z);have tup7:∀{H':Hp},(∀a u,a≠nu->a≠nl->a≠pd->H6 a=some u->H' a=some u)->∀a ys,H6 a=some (.tup ys)->H' a=some (.tup ys):=λk a ys e=>k a _ (GP e en6 (λz=>by cases z)) (GP e S6.nd (λz=>by cases z)) (GP e S6.pl (λz=>by cases z)) e;have fin7:∀{H':Hp},(∀a u,a≠nu->a≠nl->a≠pd->H6 a=some u->H' a=some u)->FrD nl pd tb H H'/\LD tb H':=λ{H'} k=>by
   refine ⟨λa u h1 h2 h3 e=>?_,U9 ld6 λa u h e=>?_⟩
   ·have e1:=s1 _ _ e;exact k a u (λz=>by rw [z,hnu] at e1;cases e1) h1 h2 (s6 _ _ (sl a u h3 (k4 a u (λz=>by rw [z,hfo] at e;cases e) e1)))
   ·refine k a u (λz=>?_) (λz=>?_) (λz=>?_) e
    ·rw [z,en6] at e;rcases h with ⟨_,rfl⟩ | ⟨_,rfl⟩ <;> cases e
    ·rw [z,S6.nd] at e;rcases h with ⟨_,rfl⟩ | ⟨_,rfl⟩ <;> cases e
    ·rw [z,S6.pl] at e;rcases h with ⟨_,rfl⟩ | ⟨_,rfl⟩ <;> cases e
  refine ⟨l,rfl,⟨_,SqL.of el6⟩,?_⟩;refine O9 (K:=K) (a:=l) (xs:=qs.map λq=>V.ref q.2.1) (λi σ' H'=>∃(nvs:GKv κ)(v4 v6 v7 v8:Option V)(xs:List V)(ts:List Tri)(kd:List (List Key×V)),σ'=[some (.ref b),some (.ref fP),some (.ref p),some (.ref nu),v4,some (.ref ri),v6,v7,v8,some (.ref fo)]/\(∀a u,a≠nu->a≠nl->a≠pd->H6 a=some u->H' a=some u)/\H' nu=some (gd G nu nvs)/\ShelfAt C H' p nl pd (.int M) xs ts kd/\Grw pf st ts0 ts/\ts.length<=ts0.length+i/\((ts.length:Int)<=M\/ts=ts0)/\NV G pf ts (λk=>O5 (pf k)=false\/k∈(qs.take i).map (·.1)) kvs H' nvs)
   ⟨nvs0,_,none,none,none,xs0,ts0,kv0,rfl,λ_ _ _ _ _ e=>e,en6,S6,Grw.refl sh0,Yae _,.inr rfl,N6.like λk _=>⟨.inl,λh=>h.resolve_right (by simp)⟩⟩ (λi σ' H' _ ⟨_,_,_,_,_,_,_,_,_,k,_⟩=>SqL.of (k _ _ nlu nln nlp el6)) ?_ ?_
  ·rintro i x σ' H7 hxi ⟨nvs,v4',v6,v7,v8,xs,ts,kd,rfl,k7,en7,S7,D,qV,hMb,N⟩;rw [Ybk] at hxi;obtain ⟨⟨k,bk,v⟩,hqi,rfl⟩:=Ybt.mp hxi;have hil:i<qs.length:=(Yau.mp hqi).1;obtain ⟨hm,hnd⟩:=(hqm _).mp (Ybg hqi);have t7:∀a ys,H1 a=some (.tup ys)->H7 a=some (.tup ys):=λa ys e=>tup7 k7 a ys (t16 a ys e);have ef7:=k7 _ _ nfu nfl nfp ef6;have gg:YJ G H7 fo (.ref bk) (some v):=gT t7 ef7 hm;have hbk:G.At H7 bk k:=G.keep (F1.ks _ hm) t7;obtain ⟨r,lo,hi,hp⟩:=UI hnd;dsimp only at hp;have pv:=(F1.pv _ hm).keep t7;dsimp only at pv;rw [hp] at pv;obtain ⟨t,bl,bh,rfl,et,hbl,hbh⟩:=pv;have hk:Rc pf st k:=rc1 _ hm;obtain ⟨h0,ha,hb'⟩:=PO.nd k r lo hi hk hp;have tk:(qs.take (i+1)).map (·.1)=(qs.take i).map (·.1)++[k]:=by
    rw [Ycp,hqi,Yas]
    rfl
   have hnk:¬ (O5 (pf k)=false\/k∈(qs.take i).map (·.1)):=by
    rintro (z | z)
    ·rw [hp] at z;cases z
    ·have hz:=hqn;rw [<-Ydf (i+1) qs,Yas,tk] at hz;exact (Ycn.mp (Ycn.mp hz).1).2.2 k z k (by simp) rfl
   have ch:∀y,Rc pf st y->Abv pf y r->∃ca:Int,ON nvs y=some (.int ca)/\NumOk pf ts y ca:=by
    intro y hy hab;obtain ⟨q',hq',rfl⟩:=Yar.mp (al1 y hy);refine N.al q' hq' ?_;cases e:O5 (pf q'.1) with
    | false=>exact .inl rfl
    | true=>
     obtain ⟨r',a',b',e'⟩:=UI e;exact .inr (Yar.mpr ⟨q',ZbJ pw hqi ((hqm q').mpr ⟨hq',e⟩) (by dsimp only;rw [hp,e'];exact hab _ _ _ e'),rfl⟩)
   obtain ⟨ca,hva,na⟩:=ch lo (.lo hk hp) ha;obtain ⟨cb,hvb,nb⟩:=ch hi (.hi hk hp) hb';have hNl:=N.len;have step:∀{H8:Hp}{cn:Int}{xs':List V}{ts':List Tri}{kd':List (List Key×V)},(∀a u,a≠nl->a≠pd->H7 a=some u->H8 a=some u)->ShelfAt C H8 p nl pd (.int M) xs' ts' kd'->Grw pf st ts0 ts'->ts'.length<=ts0.length+(i+1)->NV G pf ts' (λk=>O5 (pf k)=false\/k∈(qs.take i).map (·.1)) kvs H7 nvs->NumOk pf ts' k cn ->
     H8 nu=some (gd G nu nvs)/\GKeys G H8 nvs/\G.At H8 bk k/\(∀a u,a≠nu->a≠nl->a≠pd->H6 a=some u->upd H8 nu (gd G nu (nvs++[(k,bk,.int cn)])) a=some u)/\ShelfAt C (upd H8 nu (gd G nu (nvs++[(k,bk,.int cn)]))) p nl pd (.int M) xs' ts' kd'/\NV G pf ts' (λk=>O5 (pf k)=false\/k∈(qs.take (i+1)).map (·.1)) kvs (upd H8 nu (gd G nu (nvs++[(k,bk,.int cn)]))) (nvs++[(k,bk,.int cn)]):=by
    intro H8 cn xs' ts' kd' k8 S8 D8 l8 N8 nk;have en8:=k8 _ _ nuln nupd en7;have t8:∀a ys,H7 a=some (.tup ys)->H8 a=some (.tup ys):=λa ys e=>k8 a _ (GP e S7.nd (λz=>by cases z)) (GP e S7.pl (λz=>by cases z)) e;have t9:∀a ys,H8 a=some (.tup ys)->upd H8 nu (gd G nu (nvs++[(k,bk,.int cn)])) a=some (.tup ys):=λa ys e=>Gm e (GP e en8 (λz=>by cases z));refine ⟨en8,N8.ks.keep t8,G.keep hbk t8,λa u h1 h2 h3 e=>Gm (k8 a u h2 h3 (k7 a u h1 h2 h3 e)) h1,⟨S8.ob.elim λdx e=>⟨dx,Gm e npu⟩,Gm S8.nd (Ne.symm nuln),S8.tr.keep t9,Gm S8.pl (Ne.symm nupd),S8.ok⟩,?_⟩;refine (((N8.keep t8).snoc (G.keep hbk t8) hnk (Yar.mpr ⟨_,hm,rfl⟩) nk).keep t9).like λy _=>?_;rw [tk,Yal,Yaw];exact or_assoc
   obtain ⟨dx,ob⟩:=S7.ob;dsimp only [GO];refine ⟨_,rfl,_,rfl,fo,_,rfl,gg,t,_,rfl,SqT.of et,rfl,_,_,rfl,_,_,rfl,_,_,rfl,rfl,?_⟩;have nn1:¬ ("put" : Str) = "places" := by decide +kernel
   have nn2:¬ ("put" : Str) = "nodes" := by decide +kernel
   have nn3:¬ ("put" : Str) = "most" := by decide +kernel
   refine ⟨_,rfl,p,dx,_,rfl,ob,Zc9 _ _ _ nn1 nn2 nn3,_,rfl,_,rfl,_,rfl,nu,_,rfl,⟨nvs,lo,bl,.inl en7,N.ks,rfl,hbl,hva.symm⟩,_,rfl,_,rfl,nu,_,rfl,⟨nvs,hi,bh,.inl en7,N.ks,rfl,hbh,hvb.symm⟩,?_⟩;refine ⟨p,nl,pd,M,xs,ts,kd,r,ca,cb,rfl,S7,by lia,λhz=>?_,λhz=>⟨λcn H8 hcn s8=>?_,λhni=>⟨λhM H8 sf=>?_,λhM H8 s8=>?_⟩⟩⟩
   ·subst hz;obtain ⟨h1,h2,h3,h4,h5,h6⟩:=step (H8:=H7) (λa u _ _ e=>e) S7 D (by lia) N (NumOk.flat hp ha na nb);exact ⟨_,rfl,_,rfl,nu,bk,nvs,k,rfl,rfl,h1,h2,h3,N.none hnk,by lia,_,_,_,_,_,_,_,_,rfl,h4,Gb,h5,D,by lia,hMb,h6⟩
   ·obtain ⟨h1,h2,h3,h4,h5,h6⟩:=step (H8:=H8) (λa u _ _ e=>s8 _ _ e) (S7.same s8) D (by lia) N (NumOk.node hp na nb hcn);exact ⟨_,rfl,_,rfl,nu,bk,nvs,k,rfl,rfl,h1,h2,h3,N.none hnk,by lia,_,_,_,_,_,_,_,_,rfl,h4,Gb,h5,D,by lia,hMb,h6⟩
   ·obtain ⟨xs',kd',S8⟩:=sf.at_;obtain ⟨D',nk⟩:=D.snoc hk hp h0 ha hb' na nb hz hni;obtain ⟨h1,h2,h3,h4,h5,h6⟩:=step (H8:=H8) (λa u n1 n2 e=>sf.kp a u n1 n2 e) S8 D' (by rw [Yak,Ybc];lia) (N.app D.sh.ok _) nk;exact ⟨_,rfl,_,rfl,nu,bk,nvs,k,rfl,rfl,h1,h2,h3,N.none hnk,by lia,_,_,_,_,_,_,_,_,rfl,h4,Gb,h5,D',by rw [Yak,Ybc];lia,.inl (by rw [Yak,Ybc];lia),h6⟩
   ·obtain ⟨D',nk⟩:=D.snoc hk hp h0 ha hb' na nb hz hni;obtain ⟨f1,f2⟩:=fin7 (H':=H8) λa u h1 h2 h3 e=>s8 _ _ (k7 a u h1 h2 h3 e);exact qe _ H8 f1 f2 D' (by rw [Yak,Ybc];lia) (by rw [Yak,Ybc];lia)
  ·rintro σ' H7 ⟨nvs,v4',v6,v7,v8,xs,ts,kd,rfl,k7,en7,S7,D,qV,hMb,N⟩;rw [Yad] at qV N;rw [Ycq] at N;obtain ⟨f1,f2⟩:=fin7 k7;obtain ⟨q',hq',e'⟩:=Yar.mp (al1 st .start);have hd:O5 (pf q'.1)=false\/q'.1∈qs.map (·.1):=by
    cases e:O5 (pf q'.1) with
    | false=>exact .inl rfl
    | true=>exact .inr (Yar.mpr ⟨q',(hqm q').mpr ⟨hq',e⟩,rfl⟩)
   obtain ⟨cn,hv,hn⟩:=N.al q' hq' hd;rw [e'] at hv hn;refine ⟨_,rfl,_,rfl,nu,_,rfl,⟨nvs,st,b,.inl en7,N.ks,rfl,G.keep (G.keep hb λa ys e=>s1 _ _ e) (λa ys e=>tup7 k7 a ys (t16 a ys e)),hv.symm⟩,?_⟩;refine qq cn xs ts kd H7 f1 f2 S7 D (by lia) hMb (λk hk=>?_) hn;obtain ⟨q,hq,rfl⟩:=Yar.mp (al1 k hk);obtain ⟨c,_,hc⟩:=N.al q hq (by
    cases e:O5 (pf q.1) with
    | false=>exact .inl rfl
    | true=>exact .inr (Yar.mpr ⟨q,(hqm q).mpr ⟨hq,e⟩,rfl⟩))
   exact ⟨c,hc⟩
structure LeT {κ:Type}(pf:κ->Pt κ)(s:κ)(a0:Int)(us:List Tri)(ts:List Tri)(root:Int)(fs:List Int):Prop where
 grw:Grw pf s [] ts
 num:NumOk pf ts s root
 rch:Rch ts root fs
 fin:Fin ts root fs
 nd:fs.Nodup
 nod:∀x∈fs,∃r,Nd ts x r
 said:Said ts fs us fs.length
 len:us.length=fs.length
 le:fs.length<=ts.length
 a0:OM fs root=some a0
 all:∀k,Rc pf s k->∃c,NumOk pf ts k c
noncomputable def ZeC (G:GK P w κ)(pf:κ->Pt κ)(Dom:κ->Prop)(fP TM tb:Addr):Sp:=λvs H Q E=>∃(b:Addr)(s:κ)(U Un:List κ)(M:Int),vs=[.ref b,.ref fP,.int M]/\G.At H b s/\Dom s/\(∀k,Rc pf s k->k∈U)/\(∀k,Rc pf s k->O5 (pf k)=true->k∈Un)/\U.length<=10000/\(0<=M/\M<=900)/\Zf3 pf s/\Abv pf s (-1)/\LD tb H /\
 (∀(p l:Addr)(a0 root:Int)(xs:List V)(us ts:List Tri)(fs:List Int)(H':Hp),SameL tb H H'->LD tb H'->H p=none->H l=none->TabAt H' p l a0 xs us->LeT pf s a0 us ts root fs->ts.length<=Un.length->(ts.length:Int)<=M->Q (.ref p) H') /\
 (∀(ts:List Tri)(H':Hp),SameL tb H H'->LD tb H'->Grw pf s [] ts->M<ts.length->ts.length<=Un.length->E (.ref TM) none H')
theorem scLeT:Gy ["start", "parts", "most", "shelf"] ["start", "parts", "most"] (Gg Zej):=⟨rfl,rfl,rfl,by decide +kernel,rfl,by decide +kernel,by decide +kernel⟩
theorem ZeD {f fI fLd fNu fP C TM tb:Addr}{fd fdI fdLd fdNu:FuncData}{kp:Nat}(F:Fun K "least_table" "least_table" Zej f fd)(TS:Zen K mg C TM)(MkS:Mk K C fI)(bIni:Binds K fdI ["self", "most"] [])(GIni:G7 P w K mg base CX0 1 fI fdI ["self", "most"] (Zeo C))(FLd:Fun K "laid_down" "laid_down" Zdk fLd fdLd)(bLd:Binds K fdLd ["start", "parts", "shelf"] [])(mLd:mg "laid_down" = some (.ref fLd))(GLd:G7 P w K mg base (CXr P w) (kp+2) fLd fdLd ["start", "parts", "shelf"] (ZeA G pf Dom fP C TM tb))(FNu:Fun K "numbered" "numbered" Zei fNu fdNu)(bNu:Binds K fdNu ["root", "nodes"] [])(mNu:mg "numbered" = some (.ref fNu))(GNu:G7 P w K mg base CX0 2 fNu fdNu ["root", "nodes"] Zey) :
  G7 P w K mg base (CXr P w) (kp+3) f fd ["start", "parts", "most"] (ZeC G pf Dom fP TM tb):=by
 refine F.okR scLeT (λvs H Q E h=>?_) (λcdv A outer s H vs Q E hr h=>?_)
 ·obtain ⟨_,_,_,_,_,rfl,_⟩:=h
  rfl
 ·obtain ⟨b,st,U,Un,M,rfl,hb,hst,hU,hUn,hUl,hUnl,PO,ab,ld,qq,qe⟩:=h;have hr2:Room 2 (A.deeper (PyProof.Rows.envOfC "least_table" (Gg Zej) s.heap.objs.size f cdv)):=hr.mono (by lia);refine ⟨_,Gc (Go (i:=3) scLeT.nd rfl (Or.inl rfl) (Zct MkS GIni hr2 rfl TS.mgC bIni .nil G4 (Ga (pv 2) Ge)))
    (Gh (Gz (Gq GNu (hr.mono (by lia)) rfl mNu FNu.kp bNu .nil G4 (Ga (Gq GLd hr rfl mLd FLd.kp bLd .nil ZcB (Ga (pv 0) (Ga (pv 1) (Ga (pv 3) Ge)))) (Ga (Os (pv 3) rfl) Ge))))),?_⟩
  refine ⟨_,rfl,λp dx hp hdx ndp=>?_⟩;refine ⟨p,dx,.int M,rfl,Gb,λnl pd H2 hnl hpd nnp S2 k2=>⟨rfl,?_⟩⟩;have k1:∀a u,H a=some u->upd (upd H dx (.own p)) p (.ins C dx []) a=some u:=λa u e=>Gm (Gm e (Gf e hdx)) (Gf e hp);have s2:Same H H2:=λa u e=>k2 a u (k1 a u e) (Gf e hp);have hnlH:H nl=none:=by
   cases e:H nl with
   | none=>rfl
   | some u=>rw [k1 _ _ e] at hnl;cases hnl
  have hpdH:H pd=none:=by
   cases e:H pd with
   | none=>rfl
   | some u=>rw [k1 _ _ e] at hpd;cases hpd
  have ld2:LD tb H2:=ld.same s2;obtain ⟨psT,eT⟩:=ld.tbl;have up:∀{H':Hp},FrD nl pd tb H2 H'->SameL tb H H':=λfr a u n e=>fr a u (λz=>by rw [z,hnlH] at e;cases e) (λz=>by rw [z,hpdH] at e;cases e) n (s2 _ _ e);dsimp only [GO];refine ⟨_,rfl,_,rfl,_,rfl,b,p,nl,pd,st,U,Un,M,[],[],[],rfl,G.keep hb (λa ys e=>s2 _ _ e),hst,hU,hUn,by simpa using hUl,PO,ld2,S2,ShOk.nil,λroot xs ts kvs H3 fr ld3 S3 D hl hMb all nk=>?_,λts H3 fr ld3 D hM hl=>qe ts H3 (up fr) ld3 D hM (by simpa using hl)⟩;obtain ⟨dx3,ob⟩:=S3.ob;have hl':ts.length<=Un.length:=by simpa using hl
  have hM':(ts.length:Int)<=M:=by
   rcases hMb with h | h
   ·exact h
   ·rw [h];exact hUnl.1
  refine ⟨_,rfl,p,C,dx3,_,_,rfl,ob,TS.cl,TS.nN,J9 _ _ _,?_⟩;refine ⟨nl,root,xs,ts,rfl,S3.nd,S3.tr,D.sh.ok,by lia,nk.at_ (-1) ab,λq l a0 ys us fs H4 s4 hq hlq W rch fin nd nod sd hus hle h0=>?_⟩;obtain ⟨psT3,eT3⟩:=ld3.tbl;exact qq q l a0 root ys us ts fs H4 ((up fr).trans (SameL.of s4)) (ld3.same s4) ((up fr).free eT ⟨_,eT3⟩ hq) ((up fr).free eT ⟨_,eT3⟩ hlq) W ⟨D,nk,rch,fin,nd,nod,sd,hus,hle,h0,all⟩ hl' hM'
end
section
variable {ts ts':List Tri}{c c' lo lo':Int}{r r':Tri}
end
section
variable {α β:Type}{R R':α->β->Prop}{xs xs':List α}{ys ys':List β}
end
section
variable {ts ts':List Tri}{root root':Int}
end
section
variable {ts ts':List Tri}
end
section
variable {ts us:List Tri}{fs:List Int}
end
section
variable {κ:Type}{pf:κ->Pt κ}{s:κ}{a0 root:Int}{us ts:List Tri}{fs:List Int}
theorem LeT.tab (L:LeT pf s a0 us ts root fs):TabOk us:=L.said.tab L.grw.sh.ok L.len
theorem LeT.at_ (L:LeT pf s a0 us ts root fs)(ab:Abv pf s (-1)):At us a0 (-1):=L.said.at (L.num.at_ _ ab) L.a0
end
section
variable {P:Program}{w:World}
noncomputable def gkF (P:Program)(w:World):GK P w (List (List Int)):=⟨XM P w,KeyTT,λok x=>Zd6 ok x,λx t=>x.keep t,λhu=>Zbz hu⟩
theorem XU:∀{xs ys:List Int},xs.map V.int=ys.map V.int->xs=ys
 | [],[],_=>rfl
 | [],_::_,h=>by simp at h
 | _::_,[],h=>by simp at h
 | x::xs,y::ys,h=>by
  rw [Yap,Yap] at h;injection h with h1 h2
  injection h1 with h1
  rw [h1,XU h2]
theorem XV:∀{xs ys:List Addr},xs.map V.ref=ys.map V.ref->xs=ys
 | [],[],_=>rfl
 | [],_::_,h=>by simp at h
 | _::_,[],h=>by simp at h
 | x::xs,y::ys,h=>by
  rw [Yap,Yap] at h;injection h with h1 h2
  injection h1 with h1
  rw [h1,XV h2]
theorem XW {H:Hp}:∀{k k':List (List Int)}{cs:List Addr},Paired (λ(row:List Int) (c:Addr)=>H c=some (.tup (row.map V.int))) k cs->Paired (λ(row:List Int) (c:Addr)=>H c=some (.tup (row.map V.int))) k' cs->k=k'
 | _,_,_,.nil,.nil=>rfl
 | _,_,_,.cons a p,.cons b q=>by
  rw [a] at b;have e:=HO.tup.inj (Ybl b);rw [XU e,XW p q]
theorem Zdc {H:Hp}{b:Addr}{k k':List (List Int)}(h:(gkF P w).At H b k)(h':(gkF P w).At H b k'):k=k':=by
 obtain ⟨cs,e,p⟩:=h;obtain ⟨cs',e',p'⟩:=h';rw [e] at e';have:=XV (HO.tup.inj (Ybl e'));subst this;exact XW p p'
end
noncomputable def Zat:List Int->Int
 | []=>0
 | [x]=>x
 | x::y::xs=>min x (Zat (y::xs))
theorem XX:∀{xs:List Int},xs≠[]->Zat xs∈xs
 | [],h=>absurd rfl h
 | [x],_=>by simp [Zat]
 | x::y::xs,_=>by
  have:=XX (xs:=y::xs) (by simp);show min x (Zat (y::xs))∈_;by_cases h:x<=Zat (y::xs)
  ·rw [show min x (Zat (y::xs))=x by lia];exact Ybe
  ·rw [show min x (Zat (y::xs))=Zat (y::xs) by lia];exact Ybb _ this
theorem Zau:∀{xs:List Int}{x:Int},x∈xs->Zat xs<=x
 | [y],x,h=>by rw [Yaw.mp h];exact Int.le_refl _
 | y::z::xs,x,h=>by
  show min y (Zat (z::xs))<=x;rcases Yat.mp h with rfl | h
  ·lia
  ·have:=Zau h
   lia
noncomputable abbrev Fam:=List (List Int)
noncomputable def Ol (F:Fam):Int:=Zat (F.filterMap List.head?)
noncomputable def woF (F:Fam):Fam:=F.filter λs=>decide (s.take 1≠[Ol F])
noncomputable def chF (F:Fam):Fam:=(F.filter λs=>decide (s.take 1=[Ol F])).map (List.drop 1)
noncomputable def pfF (F:Fam):Pt Fam:=if F=[] then .leaf 0 else if F=[[]] then .leaf 1 else .node (Ol F) (woF F) (chF F)
noncomputable def wF (F:Fam):Nat:=(F.map λs=>s.length+1).sum
theorem take1 {s:List Int}{m:Int}:s.take 1=[m]↔s=m::s.drop 1:=by
 cases s with
 | nil=>simp
 | cons a s=>simp
theorem Zav {F:Fam}(nd:F.Nodup)(h0:F≠[])(h1:F≠[[]]):∃s∈F,s≠[]:=by
 match F,h0 with
 | [s],_=>exact ⟨s,by simp,λz=>h1 (by rw [z])⟩
 | s::t::F,_=>
  by_cases hs:s=[]
  ·refine ⟨t,by simp,λz=>?_⟩;rw [hs,z] at nd;simp at nd
  ·exact ⟨s,by simp,hs⟩
theorem Om {F:Fam}(nd:F.Nodup)(h0:F≠[])(h1:F≠[[]]):∃s,Ol F::s∈F:=by
 obtain ⟨s,hs,hne⟩:=Zav nd h0 h1;have:F.filterMap List.head?≠[]:=λz=>by
  cases s with
  | nil=>exact hne rfl
  | cons a s=>
   have hm:a∈F.filterMap List.head?:=Yct.mpr ⟨_,hs,rfl⟩;rw [z] at hm;cases hm
 obtain ⟨t,ht,e⟩:=Yct.mp (XX this);cases t with
 | nil=>cases e
 | cons a t=>
  cases e;exact ⟨t,ht⟩
theorem Zcf {F:Fam}{a:Int}{s:List Int}(h:a::s∈F):Ol F<=a:=Zau (Yct.mpr ⟨_,h,rfl⟩)
theorem mem_ch {F:Fam}{s:List Int}:s∈chF F↔Ol F::s∈F:=by
 unfold chF;constructor
 ·intro h;obtain ⟨t,ht,rfl⟩:=Yar.mp h;obtain ⟨h1,h2⟩:=Yca.mp ht;rw [<-take1.mp (Ybv h2)];exact h1
 ·intro h;exact Yar.mpr ⟨_,Yca.mpr ⟨h,by simp⟩,rfl⟩
theorem mem_wo {F:Fam}{s:List Int}:s∈woF F↔s∈F/\s.take 1≠[Ol F]:=by
 unfold woF;rw [Yca,decide_eq_true_eq]
theorem Zf7 {F:Fam}(h:F.Nodup):(woF F).Nodup:=h.sublist List.filter_sublist
theorem Zf8 {F:Fam}(h:F.Nodup):(chF F).Nodup:=by
 unfold chF;refine Yby.mpr ((h.sublist List.filter_sublist).imp_of_mem λ{a b} ha hb n e=>n ?_);rw [take1.mp (Ybv (Yca.mp ha).2),take1.mp (Ybv (Yca.mp hb).2),e]
theorem Zaw (m:Int):∀F:Fam,wF (F.filter λs=>decide (s.take 1≠[m]))+wF ((F.filter λs=>decide (s.take 1=[m])).map (List.drop 1))+(F.filter λs=>decide (s.take 1=[m])).length=wF F
 | []=>rfl
 | s::F=>by
  have ih:=Zaw m F;by_cases h:s.take 1=[m]
  ·have e:=take1.mp h;rw [Yfg (by simp [h]),Yev (by simp [h]),Yap,Ybn];have hl:s.length=(s.drop 1).length+1:=by rw [Ybf List.length e];rfl
   simp only [wF,Yap,List.sum_cons] at ih ⊢
   lia
  ·rw [Yev (by simp [h]),Yfg (by simp [h])];simp only [wF,Yap,List.sum_cons] at ih ⊢
   lia
theorem Zcg {F:Fam}(nd:F.Nodup)(h0:F≠[])(h1:F≠[[]]):wF (woF F)<wF F/\wF (chF F)<wF F:=by
 have:=Zaw (Ol F) F;obtain ⟨s,hs⟩:=Om nd h0 h1;have hl:0<(F.filter λs=>decide (s.take 1=[Ol F])).length:=List.length_pos_of_mem (Yca.mpr ⟨hs,by simp⟩);unfold woF chF
 lia
structure FamOk (F:Fam):Prop where
 nd:F.Nodup
 up:∀s∈F,s.Pairwise (· < ·)
 rg:∀s∈F,∀x∈s,0<=x/\x<30
theorem FamOk.wo {F:Fam}(h:FamOk F):FamOk (woF F):=⟨Zf7 h.nd,λs hs=>h.up s (mem_wo.mp hs).1,λs hs=>h.rg s (mem_wo.mp hs).1⟩
theorem FamOk.ch {F:Fam}(h:FamOk F):FamOk (chF F):=⟨Zf8 h.nd,λs hs=>(Yeb.mp (h.up _ (mem_ch.mp hs))).2,λs hs x hx=>h.rg _ (mem_ch.mp hs) x (Ybb _ hx)⟩
theorem Jh {F a b:Fam}{r:Int}(e:pfF F=.node r a b):F≠[]/\F≠[[]]/\r=Ol F/\a=woF F/\b=chF F:=by
 unfold pfF at e;by_cases h0:F=[]
 ·rw [if_pos h0] at e;cases e
 rw [if_neg h0] at e;by_cases h1:F=[[]]
 ·rw [if_pos h1] at e;cases e
 rw [if_neg h1] at e;cases e;exact ⟨h0,h1,rfl,rfl,rfl⟩
theorem ZbK {F:Fam}{n:Int}(e:pfF F=.leaf n):n=0\/n=1:=by
 unfold pfF at e;by_cases h0:F=[]
 ·rw [if_pos h0] at e;cases e;exact .inl rfl
 rw [if_neg h0] at e;by_cases h1:F=[[]]
 ·rw [if_pos h1] at e;cases e;exact .inr rfl
 rw [if_neg h1] at e;cases e
theorem Zch {F k:Fam}(h:FamOk F)(r:Rc pfF F k):FamOk k:=by
 induction r with
 | start=>exact h
 | lo _ e ih=>rw [(Jh e).2.2.2.1];exact ih.wo
 | hi _ e ih=>rw [(Jh e).2.2.2.2];exact ih.ch
theorem VP {F:Fam}(h:FamOk F):Zf3 pfF F:=by
 refine ⟨λk n _ e=>ZbK e,λk r a b hk e=>?_⟩;obtain ⟨h0,h1,rfl,rfl,rfl⟩:=Jh e;have K:=Zch h hk;obtain ⟨s,hs⟩:=Om K.nd h0 h1;refine ⟨K.rg _ hs _ Ybe,λr' a' b' e'=>?_,λr' a' b' e'=>?_⟩
 ·obtain ⟨g0,g1,rfl,_,_⟩:=Jh e';obtain ⟨t,ht⟩:=Om K.wo.nd g0 g1;obtain ⟨m1,m2⟩:=mem_wo.mp ht;have:=Zcf m1;have hne:Ol (woF k)≠Ol k:=λz=>m2 (by rw [z];rfl)
  lia
 ·obtain ⟨g0,g1,rfl,_,_⟩:=Jh e';obtain ⟨t,ht⟩:=Om K.ch.nd g0 g1;exact (Yeb.mp (K.up _ (mem_ch.mp ht))).1 _ Ybe
noncomputable def O6:Nat->Fam->List Fam
 | 0,F=>[F]
 | n+1,F=>F::if F=[]\/F=[[]] then [] else O6 n (woF F)++O6 n (chF F)
theorem VQ (n:Nat)(F:Fam):F∈O6 n F:=by cases n <;> simp [O6]
theorem Uq:∀(n:Nat)(F:Fam),wF F<=n->FamOk F->∀k∈O6 n F,∀r a b,pfF k=.node r a b->a∈O6 n F/\b∈O6 n F
 | 0,F,hn,h,k,hk,r,a,b,e=>by
  have hF:F=[]:=by
   cases F with
   | nil=>rfl
   | cons s F=>simp [wF] at hn
  subst hF;rw [Yaw.mp hk] at e;exact absurd rfl (Jh e).1
 | n+1,F,hn,h,k,hk,r,a,b,e=>by
  unfold O6 at hk ⊢;by_cases z:F=[]\/F=[[]]
  ·rw [if_pos z] at hk;rw [Yaw.mp hk] at e;obtain ⟨h0,h1,_⟩:=Jh e;exact absurd z (by simp [h0,h1])
  ·rw [if_neg z] at hk ⊢;have z0:F≠[]:=λq=>z (.inl q);have z1:F≠[[]]:=λq=>z (.inr q);obtain ⟨l1,l2⟩:=Zcg h.nd z0 z1;rcases Yat.mp hk with rfl | hk
   ·obtain ⟨_,_,_,rfl,rfl⟩:=Jh e;exact ⟨Ybb _ (Ydu _ (VQ _ _)),Ybb _ (Ycc _ (VQ _ _))⟩
   ·rcases Yal.mp hk with hk | hk
    ·obtain ⟨i1,i2⟩:=Uq n (woF F) (by lia) h.wo k hk r a b e;exact ⟨Ybb _ (Ydu _ i1),Ybb _ (Ydu _ i2)⟩
    ·obtain ⟨i1,i2⟩:=Uq n (chF F) (by lia) h.ch k hk r a b e;exact ⟨Ybb _ (Ycc _ i1),Ybb _ (Ycc _ i2)⟩
theorem Zci {F k:Fam}(h:FamOk F)(r:Rc pfF F k):k∈O6 (wF F) F:=by
 induction r with
 | start=>exact VQ _ _
 | lo _ e ih=>exact (Uq _ _ (Yae _) h _ ih _ _ _ e).1
 | hi _ e ih=>exact (Uq _ _ (Yae _) h _ ih _ _ _ e).2
noncomputable def lF (F:Fam):Nat:=(F.map List.length).sum
theorem Zax (m:Int):∀F:Fam,lF (F.filter λs=>decide (s.take 1≠[m]))+lF ((F.filter λs=>decide (s.take 1=[m])).map (List.drop 1))+(F.filter λs=>decide (s.take 1=[m])).length=lF F
 | []=>rfl
 | s::F=>by
  have ih:=Zax m F;by_cases h:s.take 1=[m]
  ·have e:=take1.mp h;rw [Yfg (by simp [h]),Yev (by simp [h]),Yap,Ybn];have hl:s.length=(s.drop 1).length+1:=by rw [Ybf List.length e];rfl
   simp only [lF,Yap,List.sum_cons] at ih ⊢
   lia
  ·rw [Yev (by simp [h]),Yfg (by simp [h])];simp only [lF,Yap,List.sum_cons] at ih ⊢
   lia
noncomputable def ndB (F:Fam):Bool:=match pfF F with | .leaf _=>false | .node ..=>true
theorem UJ:∀(n:Nat)(F:Fam),FamOk F->((O6 n F).filter ndB).length<=lF F+(if n=0 then 1 else 0) * (if ndB F=true then 1 else 0)+0 * n\/wF F > n
 | 0,F,h=>by
  by_cases z:wF F > 0
  ·exact .inr z
  ·left;have hF:F=[]:=by
    cases F with
    | nil=>rfl
    | cons s F=>simp [wF] at z
   subst hF;simp [O6,ndB,pfF]
 | n+1,F,h=>by
  by_cases hw:wF F > n+1
  ·exact .inr hw
  left;unfold O6;by_cases z:F=[]\/F=[[]]
  ·rw [if_pos z];have:ndB F=false:=by rcases z with rfl | rfl <;> simp [ndB,pfF]
   simp [this]
  ·rw [if_neg z];have z0:F≠[]:=λq=>z (.inl q);have z1:F≠[[]]:=λq=>z (.inr q);obtain ⟨l1,l2⟩:=Zcg h.nd z0 z1;have lp:=Zax (Ol F) F;obtain ⟨s,hs⟩:=Om h.nd z0 z1;have hl:0<(F.filter λs=>decide (s.take 1=[Ol F])).length:=List.length_pos_of_mem (Yca.mpr ⟨hs,by simp⟩);have c1:=(UJ n (woF F) h.wo).resolve_right (by lia);have c2:=(UJ n (chF F) h.ch).resolve_right (by lia);have k0:∀G:Fam,wF G<=n->n=0->ndB G=false:=λG hG hn=>by
    have:G=[]:=by
     cases G with
     | nil=>rfl
     | cons s G=>simp [wF] at hG;lia
    subst this;simp [ndB,pfF]
   have d1:((O6 n (woF F)).filter ndB).length<=lF (woF F):=by
    by_cases hn:n=0
    ·have:=k0 (woF F) (by lia) hn;simpa [this] using c1
    ·simpa [hn] using c1
   have d2:((O6 n (chF F)).filter ndB).length<=lF (chF F):=by
    by_cases hn:n=0
    ·have:=k0 (chF F) (by lia) hn;simpa [this] using c2
    ·simpa [hn] using c2
   have qV:((F::(O6 n (woF F)++O6 n (chF F))).filter ndB).length<=1+(((O6 n (woF F)).filter ndB).length+((O6 n (chF F)).filter ndB).length):=by
    rw [List.filter_cons,Yeg];split <;> simp <;> lia
   unfold woF at d1 qV;unfold chF at d2 qV;simp;unfold woF chF
   lia
theorem nodes_le {F:Fam}(h:FamOk F):((O6 (wF F) F).filter ndB).length<=lF F:=by
 have c:=(UJ (wF F) F h).resolve_right (by lia);by_cases hn:wF F=0
 ·have hF:F=[]:=by
   cases F with
   | nil=>rfl
   | cons s F=>simp [wF] at hn
  subst hF;simp [wF,O6,ndB,pfF]
 ·simpa [hn] using c
theorem Xa:∀(n:Nat)(F:Fam),(O6 n F).length<=2 * ((O6 n F).filter ndB).length+1
 | 0,F=>by simp [O6]
 | n+1,F=>by
  have i1:=Xa n (woF F);have i2:=Xa n (chF F);unfold O6;by_cases z:F=[]\/F=[[]]
  ·rw [if_pos z];simp
  ·rw [if_neg z];have hb:ndB F=true:=by
    have z0:F≠[]:=λq=>z (.inl q);have z1:F≠[[]]:=λq=>z (.inr q);unfold ndB pfF;rw [if_neg z0,if_neg z1]
   rw [Yev hb,Yeg,Ybn,Ybn,Yak,Yak]
   lia
noncomputable def TpsF (H:Hp)(F:Fam)(cs:List Addr):Prop:=Paired (λ(s:List Int) (c:Addr)=>H c=some (.tup (s.map V.int))) F cs
theorem TpsF.keep {H H':Hp}{F:Fam}{cs:List Addr}(x:TpsF H F cs)(t:∀p ys,H p=some (.tup ys)->H' p=some (.tup ys)):TpsF H' F cs:=Paired.mapP x λ_ _ z=>t _ _ z
theorem TpsF.dats {K:W.Frag}{H:Hp}{F:Fam}{cs:List Addr}(x:TpsF H F cs):DatVs K H (cs.map V.ref) (F.map O3):=by
 induction x with
 | nil=>exact .nil
 | cons e _ ih=>exact .cons (.tup (SqT.of e) (GL _)) ih
theorem TpsF.snoc {H:Hp}{F:Fam}{cs:List Addr}{s:List Int}{c:Addr}(x:TpsF H F cs)(e:H c=some (.tup (s.map V.int))):TpsF H (F++[s]) (cs++[c]):=by
 induction x with
 | nil=>exact .cons e .nil
 | cons a _ ih=>exact .cons a ih
theorem TpsF.get {H:Hp}{F:Fam}{cs:List Addr}(x:TpsF H F cs):∀{i:Nat}{c:Addr},cs[i]?=some c->∃s,F[i]?=some s/\H c=some (.tup (s.map V.int)):=by
 induction x with
 | nil=>intro i c e;simp at e
 | @cons s c F cs r _ ih=>
  intro i b e;cases i with
  | zero=>simp at e;subst e;exact ⟨s,by simp,r⟩
  | succ i=>simp at e;obtain ⟨a,h1,h2⟩:=ih e;exact ⟨a,by simpa using h1,h2⟩
theorem TpsF.tus {H:Hp}{F:Fam}{cs:List Addr}(x:TpsF H F cs):Tus H (cs.map V.ref) F:=by
 induction x with
 | nil=>exact .nil
 | cons e _ ih=>exact .cons e ih
theorem O7 (F:Fam):SeqAt.shaped (.tuple (F.map O3))=true:=by
 unfold SeqAt.shaped;rw [Ycg];refine ⟨by simp only [PyData.canLay0];exact Uo F,Yba ?_⟩;have:=OY F;simp only [PyData.depth]
 lia
theorem JD (s:List Int):SeqAt.shaped (O3 s)=true:=by
 unfold SeqAt.shaped;rw [Ycg];refine ⟨XI s,Yba ?_⟩;have:=Jp s;simp only [O3,PyData.depth]
 lia
theorem VR (ns:List Int):UQ (ns.map V.int) none (some 1)=(ns.take 1).map V.int:=by
 unfold UQ;rw [show (some (1:Int))=some ((1:Nat):Int) from rfl,HT.sIx_nat];cases ns with
 | nil=>rfl
 | cons a b=>simp [HT.sIx]
theorem Zay (ns:List Int):UQ (ns.map V.int) (some 1) none=(ns.drop 1).map V.int:=by
 unfold UQ;rw [show (some (1:Int))=some ((1:Nat):Int) from rfl,HT.sIx_nat];simp [HT.sIx];cases ns with
 | nil=>rfl
 | cons a b=>
  simp;exact List.take_of_length_le (by rw [Yad];exact Yae _)
theorem OL {K:W.Frag}{H:Hp}{c:Addr}{u z:List Int}{lo hi:Option Int}{Q:VK}(e:H c=some (.tup (u.map V.int)))(he:UQ (u.map V.int) lo hi=z.map V.int)(h:∀x H',Same H H'->H' x=some (.tup (z.map V.int))->Q (.ref x) H'):Zgs K (.ref c) lo hi H Q:=by
 refine ⟨c,_,rfl,SqT.of e,λhw=>h c H (Same.refl _) (by rw [<-he,hw];exact e),λp hp=>?_⟩;rw [he];exact h p _ (Same.new hp) Gb
noncomputable def Zaz (F:Fam):Fam:=(F.filter λs=>decide (s≠[])).map (List.take 1)
theorem WA (F:Fam)(s:List Int):Zaz (F++[s])=Zaz F++(if s=[] then [] else [s.take 1]):=by
 unfold Zaz;rw [Yeg,Yas];by_cases h:s=[] <;> simp [h]
theorem ZaA {F:Fam}(nd:F.Nodup)(h0:F≠[])(h1:F≠[[]]){r:List Int}(hr:r∈Zaz F)(hl:∀r'∈Zaz F,GM r' r=false):r=[Ol F]:=by
 unfold Zaz at hr hl;obtain ⟨s,hs,rfl⟩:=Yar.mp hr;obtain ⟨hs1,hs2⟩:=Yca.mp hs;cases s with
 | nil=>simp at hs2
 | cons a s=>
  obtain ⟨t,ht⟩:=Om nd h0 h1;have h2:=hl [Ol F] (Yar.mpr ⟨_,Yca.mpr ⟨ht,by simp⟩,rfl⟩);have h3:=Zcf hs1;show [a]=_;by_cases e:Ol F=a
  ·rw [e]
  ·have h2:GM [Ol F] [a]=false:=h2;unfold GM at h2;rw [if_neg e] at h2;have:=Yff h2
   lia
theorem Zdd {F:Fam}(nd:F.Nodup)(h0:F≠[])(h1:F≠[[]]):Zaz F≠[]:=by
 obtain ⟨t,ht⟩:=Om nd h0 h1;intro z;have:[Ol F]∈Zaz F:=Yar.mpr ⟨_,Yca.mpr ⟨ht,by simp⟩,rfl⟩;rw [z] at this;cases this
structure DmF (F:Fam):Prop where
 ok:FamOk F
 len:F.length<=306
theorem ZeE (F:Fam):(woF F).length<=F.length:=Yeu _ _
theorem ZeF (F:Fam):(chF F).length<=F.length:=by
 unfold chF;rw [Yad];exact Yeu _ _
theorem ZeG {s k:Fam}(r:Rc pfF s k)(h:DmF s):DmF k:=by
 refine ⟨Zch h.ok r,?_⟩
 induction r with
 | start=>exact h.len
 | lo _ e ih=>rw [(Jh e).2.2.2.1];exact Ybr (ZeE _) ih
 | hi _ e ih=>rw [(Jh e).2.2.2.2];exact Ybr (ZeF _) ih
theorem ZgW {X:Cx}(K:W.Frag){a:Expr}{ta:TE}(ha:PE X a ta)(he:∀whole,isTrue a X.env whole=(do let v <- whole;standAt a.pos;holding [v] (truthy v)):=by exact λ_=>rfl)(h:X.K=K:=by rfl):PT X a (λσ H Q=>ta σ H λx H'=>∃k,Zfz K x H' k/\Q k H'):=h▸Ua ha he
section
variable {P:Program}{w:World}{K:W.Frag}{mg:Str->Option Value}{base:Heap}
theorem scFam:Gy ["sets", "first", "without", "chosen"] ["sets"] (Gg Zfe):=⟨rfl,rfl,rfl,by decide +kernel,rfl,by decide +kernel,by decide +kernel⟩
theorem ZeH {f:Addr}{fd:FuncData}(F:Fun K "family_parts" "family_parts" Zfe f fd)(mMin:mg "min" = none)(mTup:mg "tuple" = none):G7 P w K mg base CX0 1 f fd ["sets"] (Zgu (gkF P w) pfF DmF):=by
 refine F.ok scFam (λvs H Q E h=>?_) (λcdv A outer s H vs Q E hr h=>?_)
 ·obtain ⟨_,_,rfl,_⟩:=h
  rfl
 ·obtain ⟨b,k,rfl,hb,D,q⟩:=h;obtain ⟨cs,eb,tp⟩:=hb;have tp:TpsF H k cs:=tp;have hu:=hr.units;have hu1:(A.deeper (PyProof.Rows.envOfC "family_parts" (Gg Zfe) s.heap.objs.size f cdv)).units+1<cLine:=by have:=hr.un;lia
  have h16:=Ybh.symm;have hcl:=Ycj tp;have hkl:=D.len;refine ⟨_,Gc (G6 (YX (Ua (pv 0) (λ_=>rfl))) (Gh (Gz Gd)) Gu)
    (Gc (G6 (Gp (ZfK K hu) (pv 0) (Ot (Ga (Ot Ge) Ge)) (Gx _)) (Gh (Gz Gd)) Gu)
    (Gc (Go (i:=1) scFam.nd rfl (Or.inr rfl) (Gn (Zd8 K rfl hu1) rfl mMin Vi (Ga (JN (own:=["roads"]) rfl (JV (by decide +kernel) (by decide +kernel) rfl (by decide +kernel)) (ZcM K (pv 0)) (λ_ _ _ _=>Gj (i:=0) (show List.Nodup (["roads"]:List Str) by decide +kernel) rfl (Or.inl rfl)) (λ_ _ _ _=>Ud (ZgW K (pv 0))) (λ_ _ _ _=>Jz (Zfb K) (pv 0) JS (JT Gd))) Ge)))
    (Gc (Go (i:=2) scFam.nd rfl (Or.inl rfl) (G8 (XA K) rfl mTup Jo (Ga (JN (own:=["roads"]) rfl (Gr (fr:=[("first", 1)]) [(".0", .local),("roads", .local),("first", .cell)] rfl rfl (by decide +kernel) rfl (by decide +kernel) ⟨rfl,trivial⟩ ⟨λh=>G0 h,λh=>G0 h,λ_=>⟨_,rfl⟩,trivial⟩ ⟨⟨rfl,.inl rfl,.inl rfl⟩,trivial⟩) (ZcM K (pv 0)) (λ_ _ _ _=>Gj (i:=0) (show List.Nodup (["roads", "first"]:List Str) by decide +kernel) rfl (Or.inl rfl)) (λ_ _ _ _=>Ud (Gp (ZgO K hu) (Jz (Zfb K) (pv 0) JS (JT Gd)) (pv 1) (Gx _))) (λ_ _ _ _=>pv 0)) Ge)))
    (Gc (Go (i:=3) scFam.nd rfl (Or.inl rfl) (G8 (XA K) rfl mTup Jo (Ga (JN (own:=["roads"]) rfl (Gr (fr:=[("first", 1)]) [(".0", .local),("roads", .local),("first", .cell)] rfl rfl (by decide +kernel) rfl (by decide +kernel) ⟨rfl,trivial⟩ ⟨λh=>G0 h,λh=>G0 h,λ_=>⟨_,rfl⟩,trivial⟩ ⟨⟨rfl,.inl rfl,.inl rfl⟩,trivial⟩) (ZcM K (pv 0)) (λ_ _ _ _=>Gj (i:=0) (show List.Nodup (["roads", "first"]:List Str) by decide +kernel) rfl (Or.inl rfl)) (λ_ _ _ _=>Ud (Gp (ZfK K hu) (Jz (Zfb K) (pv 0) JS (JT Gd)) (pv 1) (Gx _))) (λ_ _ _ _=>Jz (Zfb K) (pv 0) (JT Gd) JS)) Ge)))
    (Gh (Gz (Ot (Ga (GG (Yh K) (pv 1) Gd (λ_ _=>rfl)) (Ga (pv 2) (Ga (pv 3) Ge)))))))))),?_⟩
  by_cases h0:k=[]
  ·subst h0;cases tp;refine ⟨_,rfl,false,.inr (.inl ⟨_,SqT.of eb,rfl⟩),Oc ?_⟩;exact q _ H (Same.refl _) (by show PV (gkF P w) H (.int 0) (pfF []);simp [pfF,PV])
  have hcs:cs≠[]:=λz=>h0 (by rw [z] at hcl;exact List.length_eq_zero_iff.mp hcl);refine ⟨_,rfl,true,.inr (.inl ⟨_,SqT.of eb,by simp [hcs]⟩),Uc ?_⟩;dsimp only [Oa];refine Gv (λσ' H'=>σ'=[some (.ref b),none,none,none]/\Same H H'/\k≠[[]]) ?s0 ?f0
  case f0=>
   intro hk;refine ⟨_,rfl,Yao _,λe he=>⟨(by show 1<=sizeLine;decide),λt ht=>?_⟩⟩;have s1:Same H (upd H e (.tup [])):=Same.new he;have s2:Same (upd H e (.tup [])) (upd (upd H e (.tup [])) t (.tup [.ref e])):=Same.new ht;have S2:=s1.trans s2;have ee:upd (upd H e (.tup [])) t (.tup [.ref e]) e=some (.tup (([]:List Int).map V.int)):=s2 _ _ Gb;refine ⟨.tuple (k.map O3),.tuple ([[]].map O3),.tup (SqT.of (S2 _ _ eb)) (tp.keep λp ys e=>S2 _ _ e).dats,.tup (SqT.of Gb) (.cons (.tup (SqT.of ee) .nil) .nil),O7 _,O7 _,_,rfl,?_⟩;rw [XJ];by_cases h1:k=[[]]
   ·rw [Yba h1];refine Oc ?_;exact q _ _ S2 (by rw [h1];show PV (gkF P w) _ (.int 1) (pfF [[]]);simp [pfF,PV])
   ·rw [Ybj h1];refine Uc ?_;exact hk _ _ ⟨rfl,S2,h1⟩
  rintro σ' H2 ⟨rfl,s2,h1⟩;have eb2:=s2 _ _ eb;have tp2:=tp.keep λp ys e=>s2 _ _ e;have nd:=D.ok.nd;refine Gv (λσ' H'=>∃t:Addr,σ'=[some (.ref b),some (.ref t),none,none]/\Same H2 H'/\H' t=some (.tup [.int (Ol k)])) ?s1 ?f1
  case f1=>
   intro hk;refine ⟨_,rfl,b,rfl,⟨_,SqT.of eb2⟩,λD hD=>?_⟩;refine Vr (K:=K) (a:=b) (xs:=cs.map V.ref) (λj ys H'=>∃ws:List Addr,ys=ws.map V.ref/\Same H2 H'/\H' D=some (.lst ys)/\TpsF H' (Zaz (k.take j)) ws) ⟨[],rfl,Same.new hD,Gb,.nil⟩ (λj ys H' _ ⟨_,_,s,_⟩=>SqT.of (s _ _ eb2)) ?_ ?_
   ·rintro j y ys H5 hyj ⟨ws,rfl,s5,eD,tw⟩;rw [Ybk] at hyj;obtain ⟨c,hc,rfl⟩:=Ybt.mp hyj;obtain ⟨u,hu',ec⟩:=tp2.get hc;have ec5:=s5 _ _ ec;have tk:k.take (j+1)=k.take j++[u]:=by rw [Ycp,hu'];rfl
    have hwl:=Ycj tw;have hhl:(Zaz (k.take j)).length<=k.length:=by
     unfold Zaz;rw [Yad];exact Ybr (Yeu _ _) (by rw [Ybs];lia)
    refine ⟨trivial,?_⟩;by_cases hue:u=[]
    ·refine ⟨_,rfl,false,.inr (.inl ⟨_,SqT.of ec5,by rw [hue];rfl⟩),Uc ?_⟩;exact ⟨ws,rfl,s5,eD,by rw [tk,WA,if_pos hue,Ydv];exact tw⟩
    ·refine ⟨_,rfl,true,.inr (.inl ⟨_,SqT.of ec5,by simp [hue]⟩),Oc ?_⟩;refine ⟨_,rfl,_,rfl,OL ec5 (VR u) λx H6 s6 ex=>⟨s6 _ _ eD,by rw [Yad];lia,ws++[x],by rw [Yas];rfl,(s5.trans s6).put hD,Gb,?_⟩⟩;have t1:=JB (o:=.lst (ws.map V.ref++[.ref x])) (s6 _ _ eD);rw [tk,WA,if_neg hue];exact ((tw.keep λp ys e=>s6 _ _ e).keep t1).snoc (t1 _ _ ex)
   ·rintro ys H5 ⟨ws,rfl,s5,eD,tw⟩;rw [Yad,<-hcl,Ycq] at tw;refine ⟨D,_,_,rfl,SqL.of eD,tw.tus,Zdd nd h0 h1,λt r ⟨⟨i,e1,e2⟩,hl⟩=>?_⟩;have er:=ZaA nd h0 h1 (Ybg e2) hl;subst er;rw [Ybk] at e1;obtain ⟨c,hc,ec⟩:=Ybt.mp e1;cases ec;obtain ⟨u,hu',eu⟩:=tw.get hc;rw [e2] at hu';cases hu';exact hk _ _ ⟨_,rfl,s5,eu⟩
  rintro σ' H3 ⟨t,rfl,s3,et⟩;have eb3:=s3 _ _ eb2;have tp3:=tp2.keep λp ys e=>s3 _ _ e;have et':H3 t=some (.tup ([Ol k].map V.int)):=et;refine Gv (λσ' H'=>∃bl:Addr,σ'=[some (.ref b),some (.ref t),some (.ref bl),none]/\Same H3 H'/\KeyTT H' bl (woF k)) ?s2 ?f2
  case f2=>
   intro hk;refine ⟨_,rfl,b,rfl,⟨_,SqT.of eb3⟩,λD hD=>?_⟩;refine Vr (K:=K) (a:=b) (xs:=cs.map V.ref) (λj ys H'=>∃ws:List Addr,ys=ws.map V.ref/\Same H3 H'/\H' D=some (.lst ys)/\TpsF H' ((k.take j).filter λs:List Int=>decide (s.take 1≠[Ol k])) ws) ⟨[],rfl,Same.new hD,Gb,.nil⟩ (λj ys H' _ ⟨_,_,s,_⟩=>SqT.of (s _ _ eb3)) ?_ ?_
   ·rintro j y ys H5 hyj ⟨ws,rfl,s5,eD,tw⟩;rw [Ybk] at hyj;obtain ⟨c,hc,rfl⟩:=Ybt.mp hyj;obtain ⟨u,hu',ec⟩:=tp3.get hc;have ec5:=s5 _ _ ec;have tk:k.take (j+1)=k.take j++[u]:=by rw [Ycp,hu'];rfl
    have hwl:=Ycj tw;have hhl:((k.take j).filter λs:List Int=>decide (s.take 1≠[Ol k])).length<=k.length:=Ybr (Yeu _ _) (by rw [Ybs];lia);refine ⟨by simp [JA,Js],?_⟩;refine ⟨_,rfl,_,rfl,OL ec5 (VR u) λx H6 s6 ex=>⟨_,rfl,O3 (u.take 1),O3 [Ol k],.tup (SqT.of ex) (GL _),.tup (SqT.of (s6 _ _ (s5 _ _ et'))) (GL _),JD _,JD _,_,rfl,?_⟩⟩;rw [VH];by_cases hh:u.take 1=[Ol k]
    ·rw [Yba hh];refine Uc ⟨ws,rfl,s5.trans s6,s6 _ _ eD,?_⟩;rw [tk,Yeg,Yfg (by simp [hh]),List.filter_nil,Ydv];exact tw.keep λp ys e=>s6 _ _ e
    ·rw [Ybj hh];refine Oc ⟨_,rfl,s6 _ _ eD,by rw [Yad];lia,ws++[c],by rw [Yas];rfl,(s5.trans s6).put hD,Gb,?_⟩;have t1:=JB (o:=.lst (ws.map V.ref++[.ref c])) (s6 _ _ eD);rw [tk,Yeg,Yev (by simp [hh]),List.filter_nil];exact ((tw.keep λp ys e=>s6 _ _ e).keep t1).snoc (t1 _ _ (s6 _ _ ec5))
   ·rintro ys H5 ⟨ws,rfl,s5,eD,tw⟩;rw [Yad,<-hcl,Ycq] at tw;refine ⟨D,_,rfl,.inl ⟨SqL.of eD,λl hl=>?_⟩⟩;have s6:Same H5 (upd H5 l (.tup (ws.map V.ref))):=Same.new hl;exact hk _ _ ⟨l,rfl,s5.trans s6,ws,Gb,tw.keep λp ys e=>s6 _ _ e⟩
  rintro σ' H4 ⟨bl,rfl,s4,kl⟩;have eb4:=s4 _ _ eb3;have tp4:=tp3.keep λp ys e=>s4 _ _ e;have et4:=s4 _ _ et';refine Gv (λσ' H'=>∃bh:Addr,σ'=[some (.ref b),some (.ref t),some (.ref bl),some (.ref bh)]/\Same H4 H'/\KeyTT H' bh (chF k)) ?s3 ?f3
  case f3=>
   intro hk;refine ⟨_,rfl,b,rfl,⟨_,SqT.of eb4⟩,λD hD=>?_⟩;refine Vr (K:=K) (a:=b) (xs:=cs.map V.ref) (λj ys H'=>∃ws:List Addr,ys=ws.map V.ref/\Same H4 H'/\H' D=some (.lst ys)/\TpsF H' (((k.take j).filter λs:List Int=>decide (s.take 1=[Ol k])).map (List.drop 1)) ws) ⟨[],rfl,Same.new hD,Gb,.nil⟩ (λj ys H' _ ⟨_,_,s,_⟩=>SqT.of (s _ _ eb4)) ?_ ?_
   ·rintro j y ys H5 hyj ⟨ws,rfl,s5,eD,tw⟩;rw [Ybk] at hyj;obtain ⟨c,hc,rfl⟩:=Ybt.mp hyj;obtain ⟨u,hu',ec⟩:=tp4.get hc;have ec5:=s5 _ _ ec;have tk:k.take (j+1)=k.take j++[u]:=by rw [Ycp,hu'];rfl
    have hwl:=Ycj tw;have hhl:(((k.take j).filter λs:List Int=>decide (s.take 1=[Ol k])).map (List.drop 1)).length<=k.length:=by
     rw [Yad];exact Ybr (Yeu _ _) (by rw [Ybs];lia)
    refine ⟨by simp [JA,Js],?_⟩;refine ⟨_,rfl,_,rfl,OL ec5 (VR u) λx H6 s6 ex=>⟨_,rfl,O3 (u.take 1),O3 [Ol k],.tup (SqT.of ex) (GL _),.tup (SqT.of (s6 _ _ (s5 _ _ et4))) (GL _),JD _,JD _,_,rfl,?_⟩⟩;rw [VH];by_cases hh:u.take 1=[Ol k]
    ·rw [Yba hh];refine Oc ⟨_,rfl,_,rfl,?_⟩;dsimp only [Zb];refine OL (s6 _ _ ec5) (Zay u) (λy H7 s7 ey=>⟨s7 _ _ (s6 _ _ eD),by rw [Yad];lia,ws++[y],by rw [Yas];rfl,((s5.trans s6).trans s7).put hD,Gb,?_⟩);have t1:=JB (o:=.lst (ws.map V.ref++[.ref y])) (s7 _ _ (s6 _ _ eD));rw [tk,Yeg,Yev (by simp [hh]),List.filter_nil,Yas];exact (((tw.keep λp ys e=>s6 _ _ e).keep λp ys e=>s7 _ _ e).keep t1).snoc (t1 _ _ ey)
    ·rw [Ybj hh];refine Uc ⟨ws,rfl,s5.trans s6,s6 _ _ eD,?_⟩;rw [tk,Yeg,Yfg (by simp [hh]),List.filter_nil,Ydv];exact tw.keep λp ys e=>s6 _ _ e
   ·rintro ys H5 ⟨ws,rfl,s5,eD,tw⟩;rw [Yad,<-hcl,Ycq] at tw;refine ⟨D,_,rfl,.inl ⟨SqL.of eD,λl hl=>?_⟩⟩;have s6:Same H5 (upd H5 l (.tup (ws.map V.ref))):=Same.new hl;exact hk _ _ ⟨l,rfl,s5.trans s6,ws,Gb,tw.keep λp ys e=>s6 _ _ e⟩
  rintro σ' H5 ⟨bh,rfl,s5,kh⟩;refine ⟨_,rfl,t,_,_,_,rfl,rfl,SqT.of (s5 _ _ et4),Gs (j:=0) rfl,_,rfl,_,rfl,(by show 3<=sizeLine;decide),λp hp=>?_⟩;have s6:Same H5 (upd H5 p (.tup [.int (Ol k),.ref bl,.ref bh])):=Same.new hp;refine q _ _ ((((s2.trans s3).trans s4).trans s5).trans s6) ?_;have ek:pfF k=.node (Ol k) (woF k) (chF k):=by unfold pfF;rw [if_neg h0,if_neg h1]
  rw [ek];exact ⟨p,bl,bh,rfl,Gb,(kl.same s5).same s6,kh.same s6⟩
noncomputable abbrev Lx (F:List (List Int)):Prop:=F.Pairwise λa b=>GM a b=true
theorem XY:∀{F G:List (List Int)},Lx F->Lx G->(∀s,s∈F↔s∈G)->F=G
 | [],[],_,_,_=>rfl
 | [],b::G,_,_,h=>absurd ((h b).mpr (Ybe ..)) (by simp)
 | a::F,[],_,_,h=>absurd ((h a).mp (Ybe ..)) (by simp)
 | a::F,b::G,hF,hG,h=>by
  obtain ⟨f1,f2⟩:=Yeb.mp hF;obtain ⟨g1,g2⟩:=Yeb.mp hG;have e:a=b:=by
   rcases Yat.mp ((h a).mp (Ybe ..)) with e | e
   ·exact e
   ·rcases Yat.mp ((h b).mpr (Ybe ..)) with e' | e'
    ·exact e'.symm
    ·have:=OW (g1 a e) (f1 b e');rw [Jg] at this;cases this
  subst e;rw [XY f2 g2 λs=>?_];have n1:s∈F->s≠a:=λhs z=>by have:=f1 s hs;rw [z,Jg] at this;cases this
  have n2:s∈G->s≠a:=λhs z=>by have:=g1 s hs;rw [z,Jg] at this;cases this
  constructor
  ·intro hs;exact (Yat.mp ((h s).mp (Ybb _ hs))).resolve_left (n1 hs)
  ·intro hs;exact (Yat.mp ((h s).mpr (Ybb _ hs))).resolve_left (n2 hs)
theorem Zcj {H:Hp}:∀{ws:List (Addr×List Int)},(∀z∈ws,H z.1=some (.tup (z.2.map V.int)))->TpsF H (ws.map (·.2)) (ws.map (·.1))
 | [],_=>.nil
 | z::ws,h=>.cons (h z (Ybe ..)) (Zcj λy hy=>h y (Ybb _ hy))
theorem Va {F:Fam}(nd:F.Nodup)(so:F.Pairwise λa b=>GM b a=false):Lx F:=by
 refine (List.Pairwise.and nd so).imp λ{a b} ⟨h1,h2⟩=>?_;cases h:GM a b with
 | true=>rfl
 | false=>exact absurd (OH h h2) h1
noncomputable def ZeI (fP TM tb:Addr):Sp:=λvs H Q E=>∃(l:Addr)(zs:List (Addr×List Int))(F:Fam)(U Un:List Fam),vs=[.ref l]/\H l=some (.lst (zs.map λz=>V.ref z.1))/\(∀z∈zs,H z.1=some (.lst (z.2.map V.int)))/\zs.length<=306/\Lx F/\(∀s,s∈F↔s∈zs.map (·.2))/\FamOk F /\
 (∀k,Rc pfF F k->k∈U)/\(∀k,Rc pfF F k->O5 (pfF k)=true->k∈Un)/\U.length<=10000/\LD tb H /\
 (∀(p l:Addr)(a0 root:Int)(xs:List V)(us ts:List Tri)(fs:List Int)(H':Hp),SameL tb H H'->LD tb H'->H p=none->H l=none->TabAt H' p l a0 xs us->LeT pfF F a0 us ts root fs->ts.length<=Un.length->ts.length<=800->Q (.ref p) H') /\
 (∀(ts:List Tri)(H':Hp),SameL tb H H'->LD tb H'->Grw pfF F [] ts->800<ts.length->ts.length<=Un.length->E (.ref TM) none H')
theorem scTof:Gy ["sets", "family"] ["sets"] (Gg Zff):=⟨rfl,rfl,rfl,by decide +kernel,rfl,by decide +kernel,by decide +kernel⟩
theorem ZeJ {f fLt fP TM tb:Addr}{fd fdLt:FuncData}{tM:Tok}(F:Fun K "table_of" "table_of" Zff f fd)(mFm:mg "family_parts" = some (.ref fP))(mMN:mg "MOST_NODES" = some (.int 800 tM))(FLt:Fun K "least_table" "least_table" Zej fLt fdLt)(bLt:Binds K fdLt ["start", "parts", "most"] [])(mLt:mg "least_table" = some (.ref fLt))(GLt:G7 P w K mg base (CXr P w) 4 fLt fdLt ["start", "parts", "most"] (ZeC (gkF P w) pfF DmF fP TM tb))(mTup:mg "tuple" = none)(mSor:mg "sorted" = none)(mSet:mg "set" = none):G7 P w K mg base (CXr P w) 5 f fd ["sets"] (ZeI fP TM tb):=by
 refine F.okR scTof (λvs H Q E h=>?_) (λcdv A outer s H vs Q E hr h=>?_)
 ·obtain ⟨_,_,_,_,_,rfl,_⟩:=h
  rfl
 ·obtain ⟨l,zs,Fm,U,Un,rfl,el,lz,hzl,hLx,hmem,FO,hU,hUn,hUl,ld,qq,qe⟩:=h;have hu:=hr.units;have h16:=Ybh.symm;refine ⟨_,Gc (Go (i:=1) scTof.nd rfl (Or.inl rfl) (G8 (XA K) rfl mTup Jo (Ga (Gn (Zd7 K rfl hu) rfl mSor PyProof.Rows.boot_sorted (Ga (G8 (ZfT K rfl hu) rfl mSet ZaZ (Ga (JN (own:=["roads"]) rfl (JV (by decide +kernel) (by decide +kernel) rfl (by decide +kernel)) (Wc K (pv 0)) (λ_ _ _ _=>Gj (i:=0) (show List.Nodup (["roads"]:List Str) by decide +kernel) rfl (Or.inl rfl)) (λ_ _ _ _=>Jm) (λ_ _ _ _=>G8 (XA K) rfl mTup Jo (Ga (pv 0) Ge))) Ge)) Ge)) Ge)))
    (Gh (Gz (Gq GLt (hr.mono (by decide)) rfl mLt FLt.kp bLt .nil ZcB (Ga (pv 1) (Ga (YV (v:=.ref fP) rfl mFm rfl) (Ga (YV (v:=.int 800) rfl mMN ⟨_,rfl⟩) Ge)))))),?_⟩
  refine Gv (λσ' H'=>∃b:Addr,σ'=[some (.ref l),some (.ref b)]/\Same H H'/\KeyTT H' b Fm) ?s0 ?f0
  case f0=>
   intro hk;refine ⟨_,rfl,l,rfl,⟨_,SqL.of el⟩,λD hD=>?_⟩;refine Ov (K:=K) (a:=l) (xs:=zs.map λz=>V.ref z.1) (λj ys H'=>∃cs:List Addr,ys=cs.map V.ref/\Same H H'/\H' D=some (.lst ys)/\TpsF H' ((zs.map (·.2)).take j) cs) ⟨[],rfl,Same.new hD,Gb,.nil⟩ (λj ys H' _ ⟨_,_,s,_⟩=>SqL.of (s _ _ el)) ?_ ?_
   ·rintro j y ys H2 hyj ⟨cs,rfl,s2,eD,tp⟩;rw [Ybk] at hyj;obtain ⟨z,hz,rfl⟩:=Ybt.mp hyj;have hzm:=Ybg hz;have tk:(zs.map (·.2)).take (j+1)=(zs.map (·.2)).take j++[z.2]:=by rw [Ycp,Ybk,hz];rfl
    have hcl:=Ycj tp;rw [Ybs] at hcl;have hj:j<zs.length:=(Yau.mp hz).1;refine ⟨trivial,?_⟩;unfold ZaF;refine Oc ?_;refine ⟨_,rfl,z.1,_,rfl,.inl ⟨SqL.of (s2 _ _ (lz z hzm)),λt ht=>?_⟩⟩;have s3:Same H2 (upd H2 t (.tup (z.2.map V.int))):=Same.new ht;refine ⟨s3 _ _ eD,(by rw [Yad];lia),cs++[t],by rw [Yas];rfl,(s2.trans s3).put hD,Gb,?_⟩;rw [tk];have t1:=JB (o:=.lst (cs.map V.ref++[.ref t])) (s3 _ _ eD);exact ((tp.keep λp ys e=>s3 _ _ e).keep t1).snoc (t1 _ _ Gb)
   ·rintro ys H2 ⟨cs,rfl,s2,eD,tp⟩;rw [Yad,<-Yad (f:=λz:Addr×List Int=>z.2),Ycq] at tp;refine ⟨D,_,_,rfl,SqL.of eD,tp.tus,by rw [Yad];lia,λl2 ws hl2 nd mem at_=>?_⟩;have s3:Same H2 (upd H2 l2 (Zcc w l2 ws)):=Same.new hl2;have hwl:ws.length<=306:=by
     have:=Yde nd (l₂:=zs.map (·.2)) λk hk=>(mem k).mp hk;rw [Yad,Yad] at this
     lia
    refine ⟨l2,ws,rfl,Gb,λz hz=>s3 _ _ (at_ z hz),by lia,λl3 ws' hl3 pm so=>?_⟩;have s4:Same (upd H2 l2 (Zcc w l2 ws)) (upd (upd H2 l2 (Zcc w l2 ws)) l3 (.lst (ws'.map λz=>V.ref z.1))):=Same.new hl3;refine ⟨l3,_,rfl,.inl ⟨SqL.of Gb,λb hb=>?_⟩⟩;have s5:Same (upd (upd H2 l2 (Zcc w l2 ws)) l3 (.lst (ws'.map λz=>V.ref z.1))) (upd (upd (upd H2 l2 (Zcc w l2 ws)) l3 (.lst (ws'.map λz=>V.ref z.1))) b (.tup (ws'.map λz=>V.ref z.1))):=Same.new hb;have S5:=(s3.trans s4).trans s5;have eF:ws'.map (·.2)=Fm:=XY (Va ((pm.map (·.2)).nodup_iff.mpr nd) so) hLx λs=>by rw [(pm.map (·.2)).mem_iff,mem s,hmem s]
    refine hk _ _ ⟨b,rfl,s2.trans S5,ws'.map (·.1),?_,?_⟩
    ·rw [Gb,Ydt]
     rfl
    ·rw [<-eF];exact Zcj λz hz=>S5 _ _ (at_ z (pm.mem_iff.mp hz))
  rintro σ' H1 ⟨b,rfl,s1,kb⟩;obtain ⟨psT,eT⟩:=ld.tbl;have hFl:Fm.length<=306:=by
   have:=Yde FO.nd (l₂:=zs.map (·.2)) λk hk=>(hmem k).mp hk;rw [Yad] at this
   lia
  have ab:Abv pfF Fm (-1):=λr a b e=>by
   have:=((VP FO).nd _ _ _ _ .start e).1.1
   lia
  refine ⟨_,rfl,b,Fm,U,Un,800,rfl,kb,⟨FO,hFl⟩,hU,hUn,hUl,⟨by decide,by decide⟩,VP FO,ab,ld.same s1,λp l2 a0 root xs us ts fs H2 s2 ld2 hp hl2 W L hle hM8=>?_,λts H2 s2 ld2 D hM hle=>qe ts H2 ((SameL.of s1).trans s2) ld2 D (by lia) hle⟩;obtain ⟨psT2,eT2⟩:=ld2.tbl;exact qq p l2 a0 root xs us ts fs H2 ((SameL.of s1).trans s2) ld2 (s1.free hp) (s1.free hl2) W L hle (by lia)
noncomputable def ZeK:Sp:=λvs H Q _=>∃(n:Int)(m:Nat),vs=[.int n,.int (m:Int)]/\m<=40/\∀(rl:Addr)(rs:List Nat)(H':Hp),Same H H'->H rl=none->H' rl=some (.lst ((rs.map λk:Nat=>(k:Int)).map V.int))->rs.Pairwise (· < ·)->(∀k∈rs,k<m)->Q (.ref rl) H'
theorem scBit:Gy ["number", "width", "one", "road"] ["number", "width"] (Gg Zfg):=⟨rfl,rfl,rfl,by decide +kernel,rfl,by decide +kernel,by decide +kernel⟩
theorem ZeL {f:Addr}{fd:FuncData}(F:Fun K "_law_bits" "_law_bits" Zfg f fd)(mRange:mg "range" = none):G7 P w K mg base CX0 1 f fd ["number", "width"] ZeK:=by
 refine F.ok scBit (λvs H Q E h=>?_) (λcdv A outer s H vs Q E hr h=>?_)
 ·obtain ⟨_,_,rfl,_⟩:=h
  rfl
 ·obtain ⟨n,m,rfl,hm,q⟩:=h;have h16:=Ybh.symm;refine ⟨_,Gc (Go (i:=2) scBit.nd rfl (Or.inl rfl) (Jc Ge))
    (Gc (Od Ydj rfl (Jr rfl mRange (Ga (pv 1) Ge)) (Gj (i:=3) scBit.nd rfl (Or.inl rfl))
    (Gc (G6 (Gp Ob (Gk GW (pv 0) Gd) Gd (Gx _)) (Gh (JM (Vf Ydi Yes Yet Ji (pv 2) (Ga (pv 3) Ge)))) Gu)
    (Gh (Go (i:=0) scBit.nd rfl (Or.inl rfl) (Gk GN (pv 0) Gd)))))
    (Gh (Gz (pv 2)))),?_⟩
  refine ⟨Yao _,λl hl=>?_⟩;refine ⟨_,rfl,_,rfl,by lia,by lia,?_⟩;rw [Yck];refine Oq (lo:=0) (n:=m) (λi σ H2=>∃(row:List Nat)(r:Int)(v3:Option V),σ=[some (.int r),some (.int (m:Int)),some (.ref l),v3]/\Same H H2/\H2 l=some (.lst ((row.map λk:Nat=>(k:Int)).map V.int))/\row.length<=i/\row.Pairwise (· < ·)/\∀k∈row,k<i) ⟨[],_,none,rfl,Same.new hl,Gb,Yae _,List.Pairwise.nil,λk hk=>by cases hk⟩ ?_ ?_
  ·rintro i σ H2 hi ⟨row,r,v3,rfl,s2,e2,rl,pw,lt⟩;rw [Int.zero_add];dsimp only [GO];refine Gv (λσ' H'=>∃(row:List Nat),σ'=[some (.int r),some (.int (m:Int)),some (.ref l),some (.int (i:Int))]/\Same H H'/\H' l=some (.lst ((row.map λk:Nat=>(k:Int)).map V.int))/\row.length<=i+1/\row.Pairwise (· < ·)/\∀k∈row,k<i+1) ?snd ?fst
   case fst=>
    intro hk;refine ⟨_,rfl,_,_,rfl,rfl,(by show (0:Int)<2;decide),rfl,_,rfl,JU (λ_=>?_) (λ_=>hk _ _ ⟨row,rfl,s2,e2,by lia,pw,λk h=>by have:=lt k h;lia⟩)⟩;refine ⟨_,rfl,.inl ⟨rfl,_,SqL.of e2⟩,_,rfl,l,_,_,rfl,rfl,e2,by rw [Yad,Yad];lia,?_⟩;refine hk _ _ ⟨row++[i],rfl,s2.put hl,by rw [Gb,Yas,Yas];rfl,by rw [Yak,Ybc];lia,Ybu.mpr ⟨pw,by simp,λa ha b hb=>?_⟩,λk h=>?_⟩
    ·rw [Yaw.mp hb];exact lt a ha
    ·rcases Yal.mp h with h | h
     ·have:=lt k h
      lia
     ·rw [Yaw.mp h]
      lia
   case snd=>
    rintro σ' H' ⟨row',rfl,s3,e3,rl3,pw3,lt3⟩;refine ⟨_,rfl,_,_,rfl,rfl,⟨by decide,GZ⟩,?_⟩;exact ⟨row',_,_,rfl,s3,e3,rl3,pw3,lt3⟩
  ·rintro σ H2 ⟨row,r,v3,rfl,s2,e2,rl,pw,lt⟩;exact ⟨_,rfl,q l row H2 s2 hl e2 pw lt⟩
noncomputable def shn (ps:List Int)(k:Int):Int:=if k<2 then 0 else ps.getD (k-2).toNat 0
noncomputable def G3 (ps pr:List Int)(i:Nat)(r:Tri):Bool:=!(decide (r.2.1≠0) && decide (shn ps r.2.1<ps.getD i 0)) && decide (ps.getD i 0<=pr.getD r.1.toNat 0+shn ps r.2.2)
theorem XZ {ps:List Int}{k:Int}(h0:0<=k)(h1:k<ps.length+2):atI (([0,0]++ps).map V.int) k=some (.int (shn ps k)):=by
 rw [JK h0 (by simp;lia)];unfold shn;by_cases h:k<2
 ·rw [if_pos h];have:k=0\/k=1:=by lia
  rcases this with rfl | rfl <;> rfl
 ·rw [if_neg h];obtain ⟨j,hj⟩:∃j:Nat,k.toNat=j+2:=⟨k.toNat-2,by lia⟩;have e:(k-2).toNat=j:=by lia
  rw [hj,e]
  rfl
noncomputable def ZeM:Sp:=λvs H Q _=>∃(sh nd pr:Addr)(ps qs:List Int)(i:Nat)(r:Tri),vs=[.ref sh,.int ((i:Int)+2),.ref nd,.ref pr]/\H sh=some (.lst (([0,0]++ps).map V.int))/\H nd=some (.tup [.int r.1,.int r.2.1,.int r.2.2])/\H pr=some (.lst (qs.map V.int))/\i<ps.length/\(0<=r.1/\r.1<qs.length)/\(0<=r.2.1/\r.2.1<ps.length+2)/\(0<=r.2.2/\r.2.2<ps.length+2)/\Q (.bl (G3 ps qs i r)) H
theorem scIsr:Gy ["shown", "number", "node", "prices", "road", "low", "high"] ["shown", "number", "node", "prices"] (Gg Zfc):=⟨rfl,rfl,rfl,by decide +kernel,rfl,by decide +kernel,by decide +kernel⟩
theorem ZeN {f:Addr}{fd:FuncData}(F:Fun K "is_right" "is_right" Zfc f fd):G7 P w K mg base CX0 1 f fd ["shown", "number", "node", "prices"] ZeM:=by
 refine F.ok scIsr (λvs H Q E h=>?_) (λcdv A outer s H vs Q E hr h=>?_)
 ·obtain ⟨_,_,_,_,_,_,_,rfl,_⟩:=h
  rfl
 ·obtain ⟨sh,nd,pr,ps,qs,i,r,rfl,es,en,ep,hi,h1,h2,h3,q⟩:=h;refine ⟨_,Gc (OZ (pv 2) (ZbW K (n:=3) rfl (GB (Gj (i:=4) scIsr.nd rfl (Or.inl rfl)) (GB (Gj (i:=5) scIsr.nd rfl (Or.inl rfl)) (GB (Gj (i:=6) scIsr.nd rfl (Or.inl rfl)) JQ)))))
    (Gc (G6 (PW.pt (UN (Gp ZaL (pv 5) Gd (Gx _)) (OP (Gp WE (GG (On K) (pv 0) (pv 1) (λ_ _=>rfl)) (GG (On K) (pv 0) (pv 5) (λ_ _=>rfl)) (Gx _))))) (Gh (Gz OO)) Gu)
    (Gh (Gz (Ur ZdC (GG (On K) (pv 0) (pv 1) (λ_ _=>rfl)) (Gk Jy (GG (On K) (pv 3) (pv 4) (λ_ _=>rfl)) (GG (On K) (pv 0) (pv 6) (λ_ _=>rfl))) (Gx _))))),?_⟩
  have me:shn ps ((i:Int)+2)=ps.getD i 0:=by
   unfold shn;rw [if_neg (by lia),show ((i:Int)+2-2).toNat=i by lia]
  have at1:=XZ (ps:=ps) (k:=(i:Int)+2) (by lia) (by lia);rw [me] at at1;have at2:=XZ h2.1 h2.2;have at3:=XZ h3.1 h3.2;refine ⟨_,rfl,nd,_,rfl,SqT.of en,rfl,_,_,rfl,_,_,rfl,_,_,rfl,rfl,?_⟩;refine ⟨_,rfl,rfl,_,rfl,?_⟩;by_cases c1:r.2.1=0
  ·refine JU (λc=>?_) (λ_=>?_)
   ·exact absurd c (by rw [c1];decide)
   ·refine Uc ?_;refine ⟨_,rfl,_,rfl,sh,_,_,_,rfl,rfl,SqL.of es,at1,_,rfl,_,rfl,pr,_,_,_,rfl,rfl,SqL.of ep,JK h1.1 h1.2,_,rfl,_,rfl,sh,_,_,_,rfl,rfl,SqL.of es,at3,_,_,rfl,rfl,_,_,rfl,rfl,?_⟩;have:G3 ps qs i r=decide (ps.getD i 0<=qs.getD r.1.toNat 0+shn ps r.2.2):=by simp [G3,c1]
    show Q (.bl (decide (ps.getD i 0<=qs.getD r.1.toNat 0+shn ps r.2.2))) H;rw [<-this];exact q
  ·refine JU (λ_=>?_) (λc=>?_)
   ·refine ⟨_,rfl,_,rfl,sh,_,_,_,rfl,rfl,SqL.of es,at1,_,rfl,_,rfl,sh,_,_,_,rfl,rfl,SqL.of es,at2,_,_,rfl,rfl,_,rfl,?_⟩;by_cases c2:shn ps r.2.1<ps.getD i 0
    ·rw [Yba c2];refine Oc ?_;have:G3 ps qs i r=false:=by simp only [G3,Yba c1,Yba c2];rfl
     rw [<-this];exact q
    ·rw [Ybj c2];refine Uc ?_;refine ⟨_,rfl,_,rfl,sh,_,_,_,rfl,rfl,SqL.of es,at1,_,rfl,_,rfl,pr,_,_,_,rfl,rfl,SqL.of ep,JK h1.1 h1.2,_,rfl,_,rfl,sh,_,_,_,rfl,rfl,SqL.of es,at3,_,_,rfl,rfl,_,_,rfl,rfl,?_⟩;have:G3 ps qs i r=decide (ps.getD i 0<=qs.getD r.1.toNat 0+shn ps r.2.2):=by simp only [G3,Yba c1,Ybj c2];rfl
     show Q (.bl (decide (ps.getD i 0<=qs.getD r.1.toNat 0+shn ps r.2.2))) H;rw [<-this];exact q
   ·exact absurd (by simpa using c1) c
noncomputable def Zde:Sp:=λvs H Q _=>∃(l:Addr)(ps:List Int)(k:Int),vs=[.ref l,.int k]/\H l=some (.lst (ps.map V.int))/\0<=k/\k<ps.length+2/\Q (.int (shn ps k)) H
theorem Zf9:Gy ["paper", "k"] ["paper", "k"] (Gg Zem):=⟨rfl,rfl,rfl,by decide +kernel,rfl,by decide +kernel,by decide +kernel⟩
theorem ZeO {f:Addr}{fd:FuncData}(F:Fun K "_law_number" "_law_number" Zem f fd):G7 P w K mg base CX0 1 f fd ["paper", "k"] Zde:=by
 refine F.ok Zf9 (λvs H Q E h=>?_) (λcdv A outer s H vs Q E hr h=>?_)
 ·obtain ⟨_,_,_,rfl,_⟩:=h
  rfl
 ·obtain ⟨l,ps,k,rfl,el,h0,h1,q⟩:=h;refine ⟨_,Gc (G6 (Gp ZdB (pv 1) Gd (Gx _)) (Gh (Gz Gd)) Gu)
    (Gh (Gz (GG (On K) (pv 0) (Gk JO (pv 1) Gd) (λ_ _=>rfl)))),?_⟩
  refine ⟨_,rfl,_,_,rfl,rfl,_,rfl,?_⟩;by_cases c:k<2
  ·rw [Yba c];refine Oc ?_;have:shn ps k=0:=by unfold shn;rw [if_pos c]
   rw [this] at q;exact q
  ·rw [Ybj c];refine Uc ?_;refine ⟨_,rfl,_,rfl,_,_,rfl,rfl,l,_,_,_,rfl,rfl,SqL.of el,JK (by lia) (by lia),?_⟩;have:shn ps k=ps.getD (k-2).toNat 0:=by unfold shn;rw [if_neg c]
   rw [this] at q;exact q
noncomputable def ZbL:Sp:=λvs H Q _=>∃(c:Int)(k:Nat),vs=[.int c,.int (k:Int)]/\k<=1000/\∀z:Int,0<=z->z<268435446->Q (.int z) H
theorem scStr:Gy ["cell", "k", "one"] ["cell", "k"] (Gg Zdl):=⟨rfl,rfl,rfl,by decide +kernel,rfl,by decide +kernel,by decide +kernel⟩
theorem ZeP {f:Addr}{fd:FuncData}(F:Fun K "_law_stir" "_law_stir" Zdl f fd):G7 P w K mg base CX0 1 f fd ["cell", "k"] ZbL:=by
 refine F.ok scStr (λvs H Q E h=>?_) (λcdv A outer s H vs Q E hr h=>?_)
 ·obtain ⟨_,_,rfl,_⟩:=h
  rfl
 ·obtain ⟨c,k,rfl,hk,q⟩:=h;refine ⟨_,Gc (Go (i:=2) scStr.nd rfl (Or.inl rfl) (Gk GW (Gk Oe (Gk Jy (Gk Jy (Gk GW (pv 0) Gd) (Gk Oe Gd (pv 1))) Gd) Gd) Gd))
    (Gc (Go (i:=2) scStr.nd rfl (Or.inl rfl) (Gk GW (Gk Oe (pv 2) (pv 2)) Gd))
    (Gh (Gz (Gk GN (Gk GW (Gk Oe (Gk Jy (pv 2) (Gk Oe Gd (pv 1))) Gd) Gd) Gd)))),?_⟩
  have a0:0<=c % 2147483629:=Ycd _ (by decide);have a1:c % 2147483629<2147483629:=Yce _ (by decide);refine ⟨_,rfl,_,_,rfl,rfl,(by show (0:Int)<2147483629;decide),_,rfl,_,_,rfl,rfl,.inl ⟨by lia,by lia⟩,_,_,rfl,rfl,_,_,rfl,rfl,_,_,rfl,rfl,.inl ⟨by lia,by lia⟩,_,_,rfl,rfl,(by show (0:Int)<2147483647;decide),?_⟩;have b0:0<=(c % 2147483629+9973 * (k:Int)+5) * 48271 % 2147483647:=Ycd _ (by decide);have b1:(c % 2147483629+9973 * (k:Int)+5) * 48271 % 2147483647<2147483647:=Yce _ (by decide);dsimp only [GO];generalize (c % 2147483629+9973 * (k:Int)+5) * 48271 % 2147483647=m at b0 b1 ⊢;refine ⟨_,rfl,_,rfl,_,_,rfl,rfl,.inl ⟨by lia,by lia⟩,_,_,rfl,rfl,(by show (0:Int)<2147483587;decide),?_⟩;have d0:0<=m * m % 2147483587:=Ycd _ (by decide);have d1:m * m % 2147483587<2147483587:=Yce _ (by decide);dsimp only [GO];generalize m * m % 2147483587=n at d0 d1 ⊢;refine ⟨_,rfl,_,rfl,_,_,rfl,rfl,.inl ⟨by lia,by lia⟩,_,_,rfl,rfl,_,_,rfl,rfl,.inl ⟨by lia,by lia⟩,_,_,rfl,rfl,(by show (0:Int)<2147483563;decide),_,_,rfl,rfl,⟨by decide,GZ⟩,?_⟩;have e0:0<=(n+7919 * (k:Int)) * 16807 % 2147483563:=Ycd _ (by decide);have e1:(n+7919 * (k:Int)) * 16807 % 2147483563<2147483563:=Yce _ (by decide);exact q _ (by lia) (by lia)
noncomputable def ZeQ:Sp:=λvs H Q _=>∃(c:Int)(m:Nat),vs=[.int c,.int (m:Int)]/\m<=100/\∀(l:Addr)(ps:List Int)(H':Hp),Same H H'->H l=none->H' l=some (.lst (ps.map V.int))->ps.length=m->Q (.ref l) H'
theorem scPrc:Gy ["cell", "many", "base", "left", "prices", "k", "number"] ["cell", "many"] (Gg Zfh):=⟨rfl,rfl,rfl,by decide +kernel,rfl,by decide +kernel,by decide +kernel⟩
theorem ZeR {f fSr:Addr}{fd fdSr:FuncData}(F:Fun K "_law_prices" "_law_prices" Zfh f fd)(FSr:Fun K "_law_stir" "_law_stir" Zdl fSr fdSr)(bSr:Binds K fdSr ["cell", "k"] [])(mSr:mg "_law_stir" = some (.ref fSr))(GSr:G7 P w K mg base CX0 1 fSr fdSr ["cell", "k"] ZbL)(mRange:mg "range" = none):G7 P w K mg base CX0 2 f fd ["cell", "many"] ZeQ:=by
 refine F.ok scPrc (λvs H Q E h=>?_) (λcdv A outer s H vs Q E hr h=>?_)
 ·obtain ⟨_,_,rfl,_⟩:=h
  rfl
 ·obtain ⟨c,m,rfl,hm,q⟩:=h;have h16:=Ybh.symm;refine ⟨_,Gc (Go (i:=2) scPrc.nd rfl (Or.inl rfl) (GG (On K) (Jc (Ga Gd (Ga Gd (Ga (Gk JO (Gk Oe Gd (Gk Xh Gd Gd)) Gd) Ge)))) (Gk GW (Gk GN (pv 0) Gd) Gd) (λ_ _=>rfl)))
    (Gc (Go (i:=3) scPrc.nd rfl (Or.inl rfl) (Gk GN (pv 0) Gd))
    (Gc (Go (i:=4) scPrc.nd rfl (Or.inl rfl) (Jc Ge))
    (Gc (Od Ydj rfl (Jr rfl mRange (Ga (pv 1) Ge)) (Gj (i:=5) scPrc.nd rfl (Or.inl rfl))
    (Gc (Go (i:=6) scPrc.nd rfl (Or.inl rfl) (pv 3))
    (Gc (G6 (Gp Ob (Gk GW (pv 0) Gd) Gd (Gx _)) (Gh (Go (i:=6) scPrc.nd rfl (Or.inl rfl) (Gk Xh (Gq GSr (hr.mono (by decide)) rfl mSr FSr.kp bSr .nil G4 (Ga (pv 0) (Ga (pv 5) Ge))) Gd))) Gu)
    (Gc (JM (Vf Ydi Yes Yet Ji (pv 4) (Ga (Gk JO (Gk GW (pv 6) (pv 2)) (Gk GN (pv 2) Gd)) Ge)))
    (Gh (Go (i:=3) scPrc.nd rfl (Or.inl rfl) (Gk GN (pv 3) (pv 2))))))))
    (Gh (Gz (pv 4)))))),?_⟩
  refine Gv (λσ' H'=>∃b:Int,σ'=[some (.int c),some (.int (m:Int)),some (.int b),none,none,none,none]/\Same H H'/\0<b/\Lt2 9000 b) ?s1 ?f1
  case f1=>
   intro hk;refine ⟨_,_,rfl,rfl,⟨by decide,by decide,by decide⟩,_,_,rfl,rfl,.inl ⟨by decide,by decide⟩,_,_,rfl,rfl,(by show 3<=sizeLine;decide),λp hp=>⟨_,rfl,_,_,rfl,rfl,⟨by decide,GZ⟩,_,_,rfl,rfl,(by show (0:Int)<3;decide),p,[.int 7,.int 2001,.int (2 * 10 ^ (30:Int).toNat-1)],c / 2 % 3,?_⟩⟩;have s1:Same H (upd H p (.lst [.int 7,.int 2001,.int (2 * 10 ^ (30:Int).toNat-1)])):=Same.new hp;have j0:0<=c / 2 % 3:=Ycd _ (by decide);have j1:c / 2 % 3<3:=Yce _ (by decide);have j:c / 2 % 3=0\/c / 2 % 3=1\/c / 2 % 3=2:=by lia
   rcases j with h | h | h
   ·exact ⟨.int 7,rfl,rfl,SqL.of Gb,by rw [h];exact Gs (j:=0) rfl,hk _ _ ⟨_,rfl,s1,by decide,GZ⟩⟩
   ·exact ⟨.int 2001,rfl,rfl,SqL.of Gb,by rw [h];exact Gs (j:=1) rfl,hk _ _ ⟨_,rfl,s1,by decide,GZ⟩⟩
   ·exact ⟨.int (2 * 10 ^ (30:Int).toNat-1),rfl,rfl,SqL.of Gb,by rw [h];exact Gs (j:=2) rfl,hk _ _ ⟨_,rfl,s1,by decide +kernel,GZ⟩⟩
  rintro σ' H1 ⟨b,rfl,s1,b0,b1⟩;refine ⟨_,rfl,_,_,rfl,rfl,⟨by decide,GZ⟩,?_⟩;dsimp only [GO];refine ⟨Yao _,λl hl=>?_⟩;have el:upd H1 l (.lst []) l=some (.lst (([]:List Int).map V.int)):=Gb;have s2:=s1.put (o:=.lst []) (s1.free hl);have hlH:H l=none:=s1.free hl;generalize upd H1 l (.lst [])=H2 at el s2 ⊢;dsimp only [GO];refine ⟨_,rfl,_,rfl,by lia,by lia,?_⟩;rw [Yck];refine Oq (lo:=0) (n:=m) (λi σ H'=>∃(ps:List Int)(lf:Int)(v5 v6:Option V),σ=[some (.int c),some (.int (m:Int)),some (.int b),some (.int lf),some (.ref l),v5,v6]/\Same H H'/\H' l=some (.lst (ps.map V.int))/\ps.length=i) ⟨[],_,none,none,rfl,s2,el,rfl⟩ ?_ ?_
  ·rintro i σ H3 hi ⟨ps,lf,v5,v6,rfl,s3,e3,hps⟩;rw [Int.zero_add];dsimp only [GO];refine Gv (λσ' H'=>∃n:Int,σ'=[some (.int c),some (.int (m:Int)),some (.int b),some (.int lf),some (.ref l),some (.int (i:Int)),some (.int n)]/\H3=H') ?s2 ?f2
   case f2=>exact λhk=>⟨_,rfl,hk _ _ ⟨lf,rfl,rfl⟩⟩
   rintro σ' H' ⟨n0,rfl,rfl⟩;refine Gv (λσ' H'=>∃n:Int,σ'=[some (.int c),some (.int (m:Int)),some (.int b),some (.int lf),some (.ref l),some (.int (i:Int)),some (.int n)]/\H3=H') ?s3 ?f3
   case f3=>
    intro hk;refine ⟨_,rfl,_,_,rfl,rfl,(by show (0:Int)<2;decide),rfl,_,rfl,JU (λ_=>?_) (λ_=>hk _ _ ⟨n0,rfl,rfl⟩)⟩;refine ⟨_,rfl,_,rfl,c,i,rfl,by lia,λz z0 z1=>⟨_,_,rfl,rfl,⟨by decide,by decide,?_⟩,hk _ _ ⟨_,rfl,rfl⟩⟩⟩;have e:(2:Nat) ^ 64=18446744073709551616:=by decide
    rw [e]
    lia
   rintro σ' H' ⟨n,rfl,rfl⟩;refine ⟨_,rfl,.inl ⟨rfl,_,SqL.of e3⟩,_,rfl,_,rfl,_,_,rfl,rfl,b0,_,rfl,_,_,rfl,rfl,⟨by decide,GZ⟩,_,_,rfl,rfl,l,_,_,rfl,rfl,e3,by rw [Yad];lia,?_⟩;dsimp only [Oa];refine ⟨_,rfl,_,rfl,_,_,rfl,rfl,⟨b0,b1⟩,?_⟩;exact ⟨ps++[n % b-b / 2],_,_,_,rfl,s3.put hlH,by rw [Gb,Yas];rfl,by rw [Yak,Ybc,hps]⟩
  ·rintro σ H3 ⟨ps,lf,v5,v6,rfl,s3,e3,hps⟩;exact ⟨_,rfl,q l ps H3 s3 hlH e3 hps⟩
noncomputable def JE (ts:List Tri)(root:Int)(qs ps:List Int)(price:Int):Bool:=!decide (root=0) && decide (ps.length=ts.length) && ((List.range ts.length).all λi=>G3 ps qs i (ts.getD i (0,0,0))) && decide (shn ps root=price)
noncomputable def ZeS:Sp:=λvs H Q _=>∃(tp l pr pa:Addr)(root price:Int)(xs:List V)(ts:List Tri)(qs ps:List Int),vs=[.ref tp,.ref pr,.ref pa,.int price]/\TabAt H tp l root xs ts/\H pr=some (.lst (qs.map V.int))/\H pa=some (.lst (ps.map V.int))/\ps.length<=1000/\(0<=root/\root<ts.length+2)/\(∀r∈ts,(0<=r.1/\r.1<qs.length)/\(0<=r.2.1/\r.2.1<ts.length+2)/\(0<=r.2.2/\r.2.2<ts.length+2))/\Q (.bl (JE ts root qs ps price)) H
theorem scShw:Gy ["table", "prices", "paper", "price", "at", "road", "low", "high"] ["table", "prices", "paper", "price"] (Gg Zfi):=⟨rfl,rfl,rfl,by decide +kernel,rfl,by decide +kernel,by decide +kernel⟩
theorem ZeT {f fNb:Addr}{fd fdNb:FuncData}(F:Fun K "_law_shows" "_law_shows" Zfi f fd)(FNb:Fun K "_law_number" "_law_number" Zem fNb fdNb)(bNb:Binds K fdNb ["paper", "k"] [])(mNb:mg "_law_number" = some (.ref fNb))(GNb:G7 P w K mg base CX0 1 fNb fdNb ["paper", "k"] Zde)(mLen:mg "len" = none)(mRange:mg "range" = none):G7 P w K mg base CX0 2 f fd ["table", "prices", "paper", "price"] ZeS:=by
 refine F.ok scShw (λvs H Q E h=>?_) (λcdv A outer s H vs Q E hr h=>?_)
 ·obtain ⟨_,_,_,_,_,_,_,_,_,_,rfl,_⟩:=h
  rfl
 ·obtain ⟨tp,l,pr,pa,root,price,xs,ts,qs,ps,rfl,W,epr,epa,hpl,hrt,hok,q⟩:=h;have h16:=Ybh.symm;have hxl:=W.t.len;have no:JE ts root qs ps price=false->Q (.bl false) H:=λz=>by rw [z] at q;exact q
  refine ⟨_,Gc (G6 (PW.pt (ZaJ (Gp Ob (GG (Yh K) (pv 0) Gd (λ_ _=>rfl)) Gd (Gx _)) (Xd (Gp ZaL (Gn (VT K) rfl mLen Ybw (Ga (pv 2) Ge)) (Gn (VT K) rfl mLen Ybw (Ga (GG (Yh K) (pv 0) Gd (λ_ _=>rfl)) Ge)) (Gx _))))) (Gh (Gz OO)) Gu)
    (Gc (Od Ydj rfl (Jr rfl mRange (Ga (Gn (VT K) rfl mLen Ybw (Ga (pv 2) Ge)) Ge)) (Gj (i:=4) scShw.nd rfl (Or.inl rfl))
    (Gc (OZ (GG (On K) (GG (Yh K) (pv 0) Gd (λ_ _=>rfl)) (pv 4) (λ_ _=>rfl)) (ZbW K (n:=3) rfl (GB (Gj (i:=5) scShw.nd rfl (Or.inl rfl)) (GB (Gj (i:=6) scShw.nd rfl (Or.inl rfl)) (GB (Gj (i:=7) scShw.nd rfl (Or.inl rfl)) JQ)))))
    (Gc (G6 (PW.pt (UN (Gp WE (pv 6) Gd (Gx _)) (OP (Gp WE (GG (On K) (pv 2) (pv 4) (λ_ _=>rfl)) (Gq GNb (hr.mono (by decide)) rfl mNb FNb.kp bNb .nil G4 (Ga (pv 2) (Ga (pv 6) Ge))) (Gx _))))) (Gh (Gz OO)) Gu)
    (Gh (G6 (Gp WE (GG (On K) (pv 2) (pv 4) (λ_ _=>rfl)) (Gk Jy (GG (On K) (pv 1) (pv 5) (λ_ _=>rfl)) (Gq GNb (hr.mono (by decide)) rfl mNb FNb.kp bNb .nil G4 (Ga (pv 2) (Ga (pv 7) Ge)))) (Gx _)) (Gh (Gz OO)) Gu)))))
    (Gh (Gz (Ur Ob (Gq GNb (hr.mono (by decide)) rfl mNb FNb.kp bNb .nil G4 (Ga (pv 2) (Ga (GG (Yh K) (pv 0) Gd (λ_ _=>rfl)) Ge))) (pv 3) (Gx _))))),?_⟩
  refine ⟨_,rfl,tp,_,_,_,rfl,rfl,SqT.of W.w,Gs (j:=0) rfl,rfl,_,rfl,?_⟩;by_cases c1:root=0
  ·refine JU (λ_=>Oc (no (by simp [JE,c1]))) (λc=>absurd (Yba (by rw [c1])) c)
  refine JU (λc=>absurd (V.int.inj (Ybv c)) c1) (λ_=>?_);refine ⟨_,rfl,pa,_,rfl,.inl (SqL.of epa),_,rfl,tp,_,_,_,rfl,rfl,SqT.of W.w,Gs (j:=1) rfl,l,_,rfl,.inl (SqL.of W.l),rfl,_,rfl,?_⟩;by_cases c2:ps.length=ts.length;rotate_left
  ·refine JU (λ_=>no (by simp [JE,c2])) (λc=>absurd (by
    rw [Yad,hxl];have:V.int (ps.length:Int)≠V.int (ts.length:Int):=λz=>c2 (by have:=V.int.inj z;lia);rw [Ybj this]
    rfl) c)
  refine JU (λc=>absurd c (by rw [Yad,hxl,c2];simp)) (λ_=>?_);dsimp only [Oa];refine ⟨_,rfl,pa,_,rfl,.inl (SqL.of epa),_,rfl,by lia,by rw [Yad];lia,?_⟩;rw [Yad,Yck];refine Oq (lo:=0) (n:=ps.length) (λi σ H'=>∃v4 v5 v6 v7:Option V,σ=[some (.ref tp),some (.ref pr),some (.ref pa),some (.int price),v4,v5,v6,v7]/\H=H'/\∀j,j<i->G3 ps qs j (ts.getD j (0,0,0))=true) ⟨none,none,none,none,rfl,rfl,λj hj=>absurd hj (Yds _)⟩ ?_ ?_
  ·rintro i σ H' hi ⟨v4,v5,v6,v7,rfl,rfl,qK⟩;rw [Int.zero_add];dsimp only [GO];have hx:i<xs.length:=by lia
   obtain ⟨t,r,ex,et,er⟩:=W.t.get (Ybd hx);have hrd:ts.getD i (0,0,0)=r:=by rw [Ydz,er];rfl
   obtain ⟨r1,r2,r3⟩:=hok r (Ybg er);have axs:atI xs (i:Int)=some (.ref t):=Gs (j:=i) (by rw [Ybd hx,ex]);have ai:atI (ps.map V.int) (i:Int)=some (.int (ps.getD i 0)):=JK (i:=(i:Int)) (by lia) (by lia);refine ⟨_,rfl,tp,_,_,_,rfl,rfl,SqT.of W.w,Gs (j:=1) rfl,_,rfl,l,_,_,_,rfl,rfl,SqL.of W.l,axs,t,_,rfl,SqT.of et,rfl,_,_,rfl,_,_,rfl,_,_,rfl,rfl,?_⟩;have bad:G3 ps qs i r=false->Q (.bl false) H:=λz=>no (by
    have:((List.range ts.length).all λi=>G3 ps qs i (ts.getD i (0,0,0)))=false:=by
     rw [List.all_eq_false];exact ⟨i,Ycr.mpr (by lia),by rw [hrd,z];simp⟩
    unfold JE;rw [this,Bool.and_false,Bool.false_and])
   have good:G3 ps qs i r=true->∀j,j<i+1->G3 ps qs j (ts.getD j (0,0,0))=true:=λz j hj=>by
    by_cases e:j=i
    ·rw [e,hrd];exact z
    ·exact qK j (by lia)
   dsimp only;refine Gv (λσ' H2=>σ'=[some (.ref tp),some (.ref pr),some (.ref pa),some (.int price),some (.int (i:Int)),some (.int r.1),some (.int r.2.1),some (.int r.2.2)]/\H=H2/\(!(decide (r.2.1≠0) && decide (shn ps r.2.1<ps.getD i 0)))=true) ?s1 ?f1
   case f1=>
    intro hk;refine ⟨_,rfl,_,_,rfl,rfl,_,rfl,?_⟩;by_cases d1:r.2.1=0
    ·refine JU (λc=>absurd (Ybv c) (by show ¬ (0:Int)<r.2.1;lia)) (λ_=>Uc (hk _ _ ⟨rfl,rfl,by simp [d1]⟩))
    refine JU (λ_=>?_) (λc=>absurd (Yba (by show (0:Int)<r.2.1;lia)) c);refine ⟨_,rfl,_,rfl,pa,_,_,_,rfl,rfl,SqL.of epa,ai,_,rfl,_,rfl,pa,ps,_,rfl,epa,r2.1,by lia,_,_,rfl,rfl,_,rfl,?_⟩;by_cases d2:shn ps r.2.1<ps.getD i 0
    ·rw [Yba d2];exact Oc (bad (by simp only [G3,Yba d1,Yba d2];rfl))
    ·rw [Ybj d2];exact Uc (hk _ _ ⟨rfl,rfl,by rw [Ybj d2,Bool.and_false];rfl⟩)
   rintro σ' H2 ⟨rfl,rfl,hl⟩;refine ⟨_,rfl,_,rfl,pa,_,_,_,rfl,rfl,SqL.of epa,ai,_,rfl,_,rfl,pr,_,_,_,rfl,rfl,SqL.of epr,JK r1.1 r1.2,_,rfl,_,rfl,pa,ps,_,rfl,epa,r3.1,by lia,_,_,rfl,rfl,_,_,rfl,rfl,_,rfl,?_⟩;by_cases d3:qs.getD r.1.toNat 0+shn ps r.2.2<ps.getD i 0
   ·rw [Yba d3];exact Oc (bad (by unfold G3;rw [Ybj (p:=ps.getD i 0<=qs.getD r.1.toNat 0+shn ps r.2.2) (by lia),Bool.and_false]))
   ·rw [Ybj d3];exact Uc ⟨_,_,_,_,rfl,rfl,good (by unfold G3;rw [hl,Yba (p:=ps.getD i 0<=qs.getD r.1.toNat 0+shn ps r.2.2) (by lia)];rfl)⟩
  ·rintro σ H' ⟨v4,v5,v6,v7,rfl,rfl,qK⟩;refine ⟨_,rfl,_,rfl,tp,_,_,_,rfl,rfl,SqT.of W.w,Gs (j:=0) rfl,pa,ps,_,rfl,epa,hrt.1,by lia,_,rfl,rfl,?_⟩;have e:JE ts root qs ps price=decide (V.int (shn ps root)=V.int price):=by
    have a:((List.range ts.length).all λi=>G3 ps qs i (ts.getD i (0,0,0)))=true:=List.all_eq_true.mpr λi hi=>qK i (by rw [c2];exact Ycr.mp hi);unfold JE;rw [a,Ybj c1,Yba c2];by_cases h:shn ps root=price <;> simp [h]
   rw [e] at q;exact q
noncomputable def ZeU:Sp:=λvs H Q _=>∃(pa:Addr)(ps:List Int)(c:Int),vs=[.ref pa,.int c]/\H pa=some (.lst (ps.map V.int))/\ps.length<=900/\∀(l:Addr)(rs:List Int)(H':Hp),Same H H'->H' l=some (.lst (rs.map V.int))->rs.length<=901->Q (.ref l) H'
theorem scBnt:Gy ["paper", "cell", "way", "by", "found", "at"] ["paper", "cell"] (Gg Zfk):=⟨rfl,rfl,rfl,by decide +kernel,rfl,by decide +kernel,by decide +kernel⟩
theorem X0 (ns:List Int)(hi:Int):∃ms:List Int,UQ (ns.map V.int) none (some hi)=ms.map V.int/\ms.length<=ns.length:=by
 refine ⟨(ns.drop (HT.sIx ns.length 0 none)).take (HT.sIx ns.length ns.length (some hi)-HT.sIx ns.length 0 none),?_,?_⟩
 ·unfold UQ;rw [Yad,List.map_take,List.map_drop]
 ·rw [Ybs,Ydx]
  lia
theorem ZeV {f fSr:Addr}{fd fdSr:FuncData}(F:Fun K "_law_bent" "_law_bent" Zfk f fd)(FSr:Fun K "_law_stir" "_law_stir" Zdl fSr fdSr)(bSr:Binds K fdSr ["cell", "k"] [])(mSr:mg "_law_stir" = some (.ref fSr))(GSr:G7 P w K mg base CX0 1 fSr fdSr ["cell", "k"] ZbL)(mRange:mg "range" = none)(mLen:mg "len" = none)(mLst:mg "list" = none):G7 P w K mg base CX0 2 f fd ["paper", "cell"] ZeU:=by
 refine F.ok scBnt (λvs H Q E h=>?_) (λcdv A outer s H vs Q E hr h=>?_)
 ·obtain ⟨_,_,_,rfl,_⟩:=h
  rfl
 ·obtain ⟨pa,ps,c,rfl,e0,hps,q⟩:=h;have h16:=Ybh.symm;refine ⟨_,Gc (Go (i:=2) scBnt.nd rfl (Or.inl rfl) (Gk GW (pv 1) Gd))
    (Gc (Go (i:=3) scBnt.nd rfl (Or.inr rfl) (Gk Jy Gd (GG (On K) (Jc (Ga (Gk GW (Gk GN (pv 1) Gd) Gd) (Ga (Gk GW (Gk GN (pv 1) Gd) (Gk Xh Gd Gd)) Ge))) (Gk GW (Gk GN (pv 1) Gd) Gd) (λ_ _=>rfl))))
    (Gc (G6 (Gp Ob (pv 2) Gd (Gx _)) (Gh (Gz (JN (own:=["number"]) rfl (Gr (fr:=[("by", 3)]) [(".0", .local),("number", .local),("by", .cell)] rfl rfl (by decide +kernel) rfl (by decide +kernel) ⟨rfl,trivial⟩ ⟨λh=>G0 h,λh=>G0 h,λ_=>⟨_,rfl⟩,trivial⟩ ⟨⟨rfl,.inl rfl,.inl rfl⟩,trivial⟩) (Wc K (pv 0)) (λ_ _ _ _=>Gj (i:=0) (show List.Nodup (["number", "by"]:List Str) by decide +kernel) rfl (Or.inl rfl)) (λ_ _ _ _=>Jm) (λ_ _ _ _=>Gk JO (pv 0) (pv 1))))) Gu)
    (Gc (G6 (Gp Ob (pv 2) Gd (Gx _)) (Gh (Gz (Gk ZbV (pv 0) (Jc (Ga (Gk JO Gd (pv 3)) Ge))))) Gu)
    (Gc (G6 (Gp Ob (pv 2) Gd (Gx _)) (Gh (Gz (Jz (kSl K) (pv 0) JS (JT (Gk JO (Gn (VT K) rfl mLen Ybw (Ga (pv 0) Ge)) Gd))))) Gu)
    (Gc (G6 (Gp Ob (pv 2) Gd (Gx _)) (Gh (Gz (JN (own:=["k"]) rfl (Gr (fr:=[("cell", 1)]) [(".0", .local),("k", .local),("_law_stir", .globalImplicit),("cell", .cell)] rfl rfl (by decide +kernel) rfl (by decide +kernel) ⟨rfl,trivial⟩ ⟨λh=>G0 h,λh=>G0 h,λh=>G0 h,λ_=>⟨_,rfl⟩,trivial⟩ ⟨⟨rfl,.inl rfl,.inl rfl⟩,trivial⟩) (Jr rfl mRange (Ga (Gn (VT K) rfl mLen Ybw (Ga (pv 0) Ge)) Ge)) (λ_ _ _ _=>Gj (i:=0) (show List.Nodup (["k", "cell"]:List Str) by decide +kernel) rfl (Or.inl rfl)) (λ_ _ _ _=>Jm) (λ_ _ _ _=>Gk JO (Gk GW (Gq GSr (hr.mono (by decide)) rfl mSr FSr.kp bSr .nil G4 (Ga (pv 1) (Ga (pv 0) Ge))) Gd) Gd)))) Gu)
    (Gc (Go (i:=4) scBnt.nd rfl (Or.inl rfl) (G8 (Vh K) rfl mLst Ow (Ga (pv 0) Ge)))
    (Gc (G6 (PW.pt (UN (Gp Ob (pv 2) Gd (Gx _)) (OP (Gp WE (Gn (VT K) rfl mLen Ybw (Ga (pv 4) Ge)) Gd (Gx _))))) (Gh (OZ (Gk JO (GG (On K) (pv 4) Gd (λ_ _=>rfl)) (pv 3)) (Xe (pv 4) Gd Ub))) Gu)
    (Gc (G6 (PW.pt (UN (PW.pt (ZaJ (Gp Ob (pv 2) Gd (Gx _)) (Xd (Gp Ob (pv 2) Gd (Gx _))))) (OP (Gp WE (Gn (VT K) rfl mLen Ybw (Ga (pv 4) Ge)) Gd (Gx _))))) (Gc (Go (i:=5) scBnt.nd rfl (Or.inl rfl) (Gk GW (Gq GSr (hr.mono (by decide)) rfl mSr FSr.kp bSr .nil G4 (Ga (pv 1) (Ga Gd Ge))) (Gn (VT K) rfl mLen Ybw (Ga (pv 4) Ge))))
    (Gh (OZ (Gk Jy (GG (On K) (pv 4) (pv 5) (λ_ _=>rfl)) (Gk Oe (pv 3) (Gk JO Gd (Gk Oe Gd (pv 2))))) (Xe (pv 4) (pv 5) Ub)))) Gu)
    (Gh (Gz (pv 4))))))))))),?_⟩
  refine ⟨_,rfl,_,_,rfl,rfl,(by show (0:Int)<8;decide),?_⟩;dsimp only [GO];have w0:0<=c % 8:=Ycd _ (by decide);have w1:c % 8<8:=Yce _ (by decide);generalize c % 8=wy at w0 w1 ⊢;refine Gv (λσ' H'=>∃b:Int,σ'=[some (.ref pa),some (.int c),some (.int wy),some (.int b),none,none]/\Same H H') ?s1 ?f1
  case f1=>
   intro hk;refine ⟨_,rfl,_,_,rfl,rfl,⟨by decide,GZ⟩,_,_,rfl,rfl,(by show (0:Int)<3;decide),_,rfl,_,_,rfl,rfl,⟨by decide,GZ⟩,_,_,rfl,rfl,⟨by decide,by decide,by decide⟩,_,_,rfl,rfl,(by show (0:Int)<10 ^ (30:Int).toNat;decide +kernel),U8,λp hp=>⟨_,rfl,_,_,rfl,rfl,⟨by decide,GZ⟩,_,_,rfl,rfl,(by show (0:Int)<2;decide),p,[.int (c / 8 % 3),.int (c / 8 % 10 ^ (30:Int).toNat)],c / 24 % 2,?_⟩⟩;have s1:Same H (upd H p (.lst [.int (c / 8 % 3),.int (c / 8 % 10 ^ (30:Int).toNat)])):=Same.new hp;have j0:0<=c / 24 % 2:=Ycd _ (by decide);have j1:c / 24 % 2<2:=Yce _ (by decide);have j:c / 24 % 2=0\/c / 24 % 2=1:=by lia
   rcases j with h | h
   ·exact ⟨.int (c / 8 % 3),rfl,rfl,SqL.of Gb,by rw [h];exact Gs (j:=0) rfl,_,_,rfl,rfl,hk _ _ ⟨_,rfl,s1⟩⟩
   ·exact ⟨.int (c / 8 % 10 ^ (30:Int).toNat),rfl,rfl,SqL.of Gb,by rw [h];exact Gs (j:=1) rfl,_,_,rfl,rfl,hk _ _ ⟨_,rfl,s1⟩⟩
  rintro σ' H1 ⟨b,rfl,s1⟩;have e1:=s1 _ _ e0;refine ⟨_,rfl,rfl,_,rfl,JU (λ_=>?_) (λ_=>?_)⟩
  ·refine ⟨_,rfl,pa,rfl,⟨_,SqL.of e1⟩,λD hD=>?_⟩;refine Ov (K:=K) (a:=pa) (xs:=ps.map V.int) (λj ys H'=>∃rs:List Int,ys=rs.map V.int/\Same H1 H'/\H' D=some (.lst ys)/\rs.length=j) ⟨[],rfl,Same.new hD,Gb,rfl⟩ (λj ys H' _ ⟨_,_,s,_⟩=>SqL.of (s _ _ e1)) ?_ ?_
   ·rintro j y ys H2 hyj ⟨rs,rfl,s2,eD,hl⟩;obtain ⟨n,rfl,hn⟩:=Up hyj;have hj:=(Yau.mp hn).1;refine ⟨by simp [JA,Js],?_⟩;unfold ZaF;refine Oc ?_;exact ⟨_,rfl,_,rfl,_,_,rfl,rfl,eD,by rw [Yad];lia,rs++[n-b],by rw [Yas];rfl,s2.put hD,Gb,by rw [Yak,Ybc,hl]⟩
   ·rintro ys H2 ⟨rs,rfl,s2,eD,hl⟩;rw [Yad] at hl;exact q D rs H2 (s1.trans s2) eD (by lia)
  dsimp only [Oa];refine ⟨_,rfl,rfl,_,rfl,JU (λ_=>?_) (λ_=>?_)⟩
  ·refine ⟨_,rfl,_,rfl,_,_,rfl,rfl,(by show 1<=sizeLine;decide),λp hp=>?_⟩;have s2:Same H1 (upd H1 p (.lst [.int (0-b)])):=Same.new hp;refine ⟨pa,p,_,_,rfl,rfl,s2 _ _ e1,Gb,by rw [Yad];show ps.length+1<=_;lia,λl hl=>?_⟩;refine q l (ps++[0-b]) _ ((s1.trans s2).put ((s1.trans s2).free hl)) ?_ (by rw [Yak,Ybc];lia);rw [Gb,Yas]
   rfl
  dsimp only [Oa];refine ⟨_,rfl,rfl,_,rfl,JU (λ_=>?_) (λ_=>?_)⟩
  ·refine ⟨_,rfl,_,rfl,pa,_,rfl,.inl (SqL.of e1),_,_,rfl,rfl,_,rfl,pa,_,rfl,SqL.of e1,λl hl=>?_⟩;obtain ⟨ms,em,hml⟩:=X0 ps (((ps.map V.int).length:Int)-1);rw [em];exact q l ms _ (s1.put (s1.free hl)) Gb (by lia)
  dsimp only [Oa];refine ⟨_,rfl,rfl,_,rfl,JU (λ_=>?_) (λ_=>?_)⟩
  ·refine ⟨_,rfl,pa,_,rfl,.inl (SqL.of e1),_,rfl,by lia,by rw [Yad];lia,λD hD=>?_⟩;rw [Yad,Yck];refine J5 (lo:=0) (n:=ps.length) (λj ys H'=>∃rs:List Int,ys=rs.map V.int/\Same H1 H'/\H' D=some (.lst ys)/\rs.length=j) ⟨[],rfl,Same.new hD,Gb,rfl⟩ ?_ ?_
   ·rintro j ys H2 hj ⟨rs,rfl,s2,eD,hl⟩;rw [Int.zero_add];refine ⟨by simp [JA,Js],?_⟩;unfold ZaF;refine Oc ?_;exact ⟨_,rfl,_,rfl,c,j,rfl,by lia,λz _ _=>⟨_,_,rfl,rfl,(by show (0:Int)<7;decide),_,_,rfl,rfl,eD,by rw [Yad];lia,rs++[z % 7-3],by rw [Yas];rfl,s2.put hD,Gb,by rw [Yak,Ybc,hl]⟩⟩
   ·rintro ys H2 ⟨rs,rfl,s2,eD,hl⟩;exact q D rs H2 (s1.trans s2) eD (by lia)
  dsimp only [Oa];refine ⟨_,rfl,pa,_,rfl,.inl (SqL.of e1),λl hl=>?_⟩;have s2:=s1.put (o:=.lst (ps.map V.int)) (s1.free hl);have hlH:H l=none:=s1.free hl;have e2:upd H1 l (.lst (ps.map V.int)) l=some (.lst (ps.map V.int)):=Gb;generalize upd H1 l (.lst (ps.map V.int))=H2 at s2 e2 ⊢;dsimp only [GO];refine Gv (λσ' H'=>∃rs:List Int,σ'=[some (.ref pa),some (.int c),some (.int wy),some (.int b),some (.ref l),none]/\Same H H'/\H' l=some (.lst (rs.map V.int))/\rs.length=ps.length) ?s2 ?f2
  case f2=>
   intro hk;refine ⟨_,rfl,rfl,_,rfl,JU (λ_=>?_) (λ_=>Uc (hk _ _ ⟨ps,rfl,s2,e2,rfl⟩))⟩;refine ⟨_,rfl,l,_,rfl,.inl (SqL.of e2),_,_,rfl,rfl,_,rfl,JU (λc1=>?_) (λ_=>hk _ _ ⟨ps,rfl,s2,e2,rfl⟩)⟩;have c1:0<ps.length:=by have:=Ybv c1;rw [Yad] at this;lia
   refine ⟨_,rfl,l,_,_,_,rfl,rfl,SqL.of e2,JK (i:=0) (by decide) (by lia),_,rfl,_,_,rfl,rfl,_,rfl,?_⟩;refine ⟨l,_,0,0,rfl,rfl,e2,UB (k:=0) (by rw [Yad];exact c1),?_⟩;refine hk _ _ ⟨ps.set 0 _,rfl,s2.put hlH,by rw [Gb,List.map_set],by rw [List.length_set]⟩
  rintro σ' H3 ⟨rs,rfl,s3,e3,hrl⟩;refine Gv (λσ' H'=>∃(rs:List Int)(v5:Option V),σ'=[some (.ref pa),some (.int c),some (.int wy),some (.int b),some (.ref l),v5]/\Same H H'/\H' l=some (.lst (rs.map V.int))/\rs.length=ps.length) ?s3 ?f3
  case f3=>
   intro hk;refine ⟨_,rfl,rfl,_,rfl,JU (λ_=>?_) (λ_=>?_)⟩
   ·refine Oc ?_;refine ⟨_,rfl,l,_,rfl,.inl (SqL.of e3),_,_,rfl,rfl,_,rfl,JU (λc1=>?_) (λ_=>hk _ _ ⟨rs,none,rfl,s3,e3,hrl⟩)⟩;have c1:0<rs.length:=by have:=Ybv c1;rw [Yad] at this;lia
    refine ⟨_,rfl,c,77,rfl,by decide,λz _ _=>⟨_,rfl,l,_,rfl,.inl (SqL.of e3),_,_,rfl,rfl,(by show (0:Int)<((rs.map V.int).length:Nat);rw [Yad];lia),?_⟩⟩;dsimp only [GO];rw [Yad];have z0:0<=z % (rs.length:Int):=Ycd _ (by lia);have z1:z % (rs.length:Int)<(rs.length:Int):=Yce _ (by lia);generalize z % (rs.length:Int)=at_ at z0 z1 ⊢;obtain ⟨k,rfl⟩:=Int.eq_ofNat_of_zero_le z0;refine ⟨_,rfl,_,rfl,l,_,_,_,rfl,rfl,SqL.of e3,JK (i:=(k:Int)) (by lia) (by lia),_,rfl,_,rfl,_,_,rfl,rfl,.inl ⟨by decide,by decide⟩,_,_,rfl,rfl,_,_,rfl,rfl,.inr ⟨by lia,by lia⟩,_,_,rfl,rfl,_,rfl,_,rfl,l,_,_,k,rfl,rfl,e3,UB (by rw [Yad];lia),?_⟩;exact hk _ _ ⟨rs.set k _,_,rfl,s3.put hlH,by rw [Gb,List.map_set],by rw [List.length_set];exact hrl⟩
   ·refine ⟨_,rfl,rfl,_,rfl,JU (λ_=>?_) (λ_=>?_)⟩;rotate_left
    ·refine Uc ?_
     first | exact hk _ _ ⟨rs,none,rfl,s3,e3,hrl⟩ | exact Uc (hk _ _ ⟨rs,none,rfl,s3,e3,hrl⟩)
    try refine Oc ?_
    refine ⟨_,rfl,l,_,rfl,.inl (SqL.of e3),_,_,rfl,rfl,_,rfl,JU (λc1=>?_) (λ_=>hk _ _ ⟨rs,none,rfl,s3,e3,hrl⟩)⟩;have c1:0<rs.length:=by have:=Ybv c1;rw [Yad] at this;lia
    refine ⟨_,rfl,c,77,rfl,by decide,λz _ _=>⟨_,rfl,l,_,rfl,.inl (SqL.of e3),_,_,rfl,rfl,(by show (0:Int)<((rs.map V.int).length:Nat);rw [Yad];lia),?_⟩⟩;dsimp only [GO];rw [Yad];have z0:0<=z % (rs.length:Int):=Ycd _ (by lia);have z1:z % (rs.length:Int)<(rs.length:Int):=Yce _ (by lia);generalize z % (rs.length:Int)=at_ at z0 z1 ⊢;obtain ⟨k,rfl⟩:=Int.eq_ofNat_of_zero_le z0;refine ⟨_,rfl,_,rfl,l,_,_,_,rfl,rfl,SqL.of e3,JK (i:=(k:Int)) (by lia) (by lia),_,rfl,_,rfl,_,_,rfl,rfl,.inl ⟨by decide,by decide⟩,_,_,rfl,rfl,_,_,rfl,rfl,.inr ⟨by lia,by lia⟩,_,_,rfl,rfl,_,rfl,_,rfl,l,_,_,k,rfl,rfl,e3,UB (by rw [Yad];lia),?_⟩;exact hk _ _ ⟨rs.set k _,_,rfl,s3.put hlH,by rw [Gb,List.map_set],by rw [List.length_set];exact hrl⟩
  rintro σ' H4 ⟨rs',v5,rfl,s4,e4,hrl'⟩;exact ⟨_,rfl,q l rs' H4 s4 e4 (by lia)⟩
structure ZgX (ts:List Tri)(m:Nat)(r:Tri):Prop where
 rd:0<=r.1/\r.1<(m:Int)
 lo:0<=r.2.1/\r.2.1<(ts.length:Int)+2
 hi:0<=r.2.2/\r.2.2<(ts.length:Int)+2
noncomputable def ZeW:Sp:=λvs H Q _=>∃(tp l pr:Addr)(root:Int)(xs:List V)(ts:List Tri)(qs:List Int),vs=[.ref tp,.ref pr]/\TabAt H tp l root xs ts/\H pr=some (.lst (qs.map V.int))/\ts.length<=900/\(∀r∈ts,ZgX ts qs.length r)/\∀(a:Addr)(ps:List Int)(H':Hp),Same H H'->H' a=some (.lst (ps.map V.int))->ps.length=ts.length->Q (.ref a) H'
theorem scLle:Gy ["table", "prices", "nodes", "paper", "at", "road"] ["table", "prices"] (Gg Zfj):=⟨rfl,rfl,rfl,by decide +kernel,rfl,by decide +kernel,by decide +kernel⟩
theorem ZbM (n:Nat):(List.replicate n [V.int 0]).flatten=(List.replicate n (0:Int)).map V.int:=by
 induction n with
 | zero=>rfl
 | succ n ih=>rw [Yej,List.flatten_cons,ih,Yej];rfl
theorem ZeX {f fNb:Addr}{fd fdNb:FuncData}(F:Fun K "_law_least" "_law_least" Zfj f fd)(FNb:Fun K "_law_number" "_law_number" Zem fNb fdNb)(bNb:Binds K fdNb ["paper", "k"] [])(mNb:mg "_law_number" = some (.ref fNb))(GNb:G7 P w K mg base CX0 1 fNb fdNb ["paper", "k"] Zde)(mLen:mg "len" = none)(mRange:mg "range" = none)(mSor:mg "sorted" = none)(mMin:mg "min" = none):G7 P w K mg base CX0 2 f fd ["table", "prices"] ZeW:=by
 refine F.ok scLle (λvs H Q E h=>?_) (λcdv A outer s H vs Q E hr h=>?_)
 ·obtain ⟨_,_,_,_,_,_,_,rfl,_⟩:=h
  rfl
 ·obtain ⟨tp,l,pr,root,xs,ts,qs,rfl,W,epr,hts,hok,q⟩:=h;have h16:=Ybh.symm;have hxl:=W.t.len;refine ⟨_,Gc (Go (i:=2) scLle.nd rfl (Or.inr rfl) (GG (Yh K) (pv 0) Gd (λ_ _=>rfl)))
    (Gc (Go (i:=3) scLle.nd rfl (Or.inl rfl) (Gk ZdK (Jc (Ga Gd Ge)) (Gn (VT K) rfl mLen Ybw (Ga (pv 2) Ge))))
    (Gc (Od Ydj rfl (Wc K (ZQ (Zc3 K) rfl mSor PyProof.Rows.boot_sorted (Ga (JN (own:=["at"]) rfl (Gr (fr:=[("nodes", 2)]) [(".0", .local),("at", .local),("nodes", .cell)] rfl rfl (by decide +kernel) rfl (by decide +kernel) ⟨rfl,trivial⟩ ⟨λh=>G0 h,λh=>G0 h,λ_=>⟨_,rfl⟩,trivial⟩ ⟨⟨rfl,.inl rfl,.inl rfl⟩,trivial⟩) (Jr rfl mRange (Ga (Gn (VT K) rfl mLen Ybw (Ga (pv 2) Ge)) Ge)) (λ_ _ _ _=>Gj (i:=0) (show List.Nodup (["at", "nodes"]:List Str) by decide +kernel) rfl (Or.inl rfl)) (λ_ _ _ _=>Jm) (λ_ _ _ _=>Ot (Ga (GG (Yh K) (GG (On K) (pv 1) (pv 0) (λ_ _=>rfl)) Gd (λ_ _=>rfl)) (Ga (pv 0) Ge)))) Ge) (WF OO ZbS))) (ZbW K (n:=2) rfl (GB (Gj (i:=5) scLle.nd rfl (Or.inl rfl)) (GB (Gj (i:=4) scLle.nd rfl (Or.inl rfl)) JQ)))
    (Gc (OZ (Gk Jy (GG (On K) (pv 1) (pv 5) (λ_ _=>rfl)) (Gq GNb (hr.mono (by decide)) rfl mNb FNb.kp bNb .nil G4 (Ga (pv 3) (Ga (GG (Yh K) (GG (On K) (pv 2) (pv 4) (λ_ _=>rfl)) Gd (λ_ _=>rfl)) Ge)))) (Xe (pv 3) (pv 4) Ub))
    (Gh (G6 (Gp WE (GG (Yh K) (GG (On K) (pv 2) (pv 4) (λ_ _=>rfl)) Gd (λ_ _=>rfl)) Gd (Gx _)) (Gh (OZ (Gn (VZ rfl) rfl mMin Vi (Ga (GG (On K) (pv 3) (pv 4) (λ_ _=>rfl)) (Ga (Gq GNb (hr.mono (by decide)) rfl mNb FNb.kp bNb .nil G4 (Ga (pv 3) (Ga (GG (Yh K) (GG (On K) (pv 2) (pv 4) (λ_ _=>rfl)) Gd (λ_ _=>rfl)) Ge))) Ge))) (Xe (pv 3) (pv 4) Ub))) Gu))))
    (Gh (Gz (pv 3))))),?_⟩
  refine ⟨_,rfl,tp,_,_,_,rfl,rfl,SqT.of W.w,Gs (j:=1) rfl,?_⟩;dsimp only [GO];refine Gv (λσ' H'=>∃pp:Addr,σ'=[some (.ref tp),some (.ref pr),some (.ref l),some (.ref pp),none,none]/\Same H H'/\H pp=none/\H' pp=some (.lst ((List.replicate ts.length (0:Int)).map V.int))) ?s1 ?f1
  case f1=>
   intro hk;refine ⟨(by show 1<=sizeLine;decide),λp hp=>⟨_,rfl,l,_,rfl,.inl (SqL.of (Same.new hp _ _ W.l)),p,_,_,rfl,rfl,Gb,by lia,by lia,?_,λp2 hp2=>?_⟩⟩
   ·rw [Yck];show 1 * xs.length<=sizeLine
    lia
   ·rw [Yck,hxl,ZbM];have s1:Same H (upd H p (.lst [.int 0])):=Same.new hp;exact hk _ _ ⟨p2,rfl,s1.trans (Same.new hp2),s1.free hp2,Gb⟩
  rintro σ' H1 ⟨pp,rfl,s1,hpp,e1⟩;have W1:=W.same s1;refine ⟨_,rfl,l,_,rfl,.inl (SqL.of W1.l),_,rfl,by lia,by lia,λD hD=>?_⟩;rw [Yck];refine J5 (lo:=0) (n:=xs.length) (λj ys H'=>∃zs:List (Addr×List Int),ys=(zs.map λz=>V.ref z.1)/\Same H1 H'/\H' D=some (.lst ys)/\zs.length=j/\∀z∈zs,H' z.1=some (.tup (z.2.map V.int))/\∃(k:Nat)(r:Tri),ts[k]?=some r/\z.2=[r.1,(k:Int)]) ⟨[],rfl,Same.new hD,Gb,rfl,λz hz=>by cases hz⟩ ?_ ?_
  ·rintro j ys H2 hj ⟨zs,rfl,s2,eD,hl,hz⟩;rw [Int.zero_add];obtain ⟨t,r,ex,et,er⟩:=(W1.t.same s2).get (Ybd hj);have axs:atI xs (j:Int)=some (.ref t):=Gs (j:=j) (by rw [Ybd hj,ex]);refine ⟨by simp [JA,Js],?_⟩;unfold ZaF;refine Oc ?_;refine ⟨_,rfl,_,rfl,l,_,_,_,rfl,rfl,SqL.of (s2 _ _ W1.l),axs,t,_,_,_,rfl,rfl,SqT.of et,Gs (j:=0) rfl,_,rfl,U8,λp hp=>?_⟩;have s3:Same H2 (upd H2 p (.tup [.int r.1,.int (j:Int)])):=Same.new hp;have ep:upd H2 p (.tup [.int r.1,.int (j:Int)]) p=some (.tup ([r.1,(j:Int)].map V.int)):=Gb;generalize upd H2 p (.tup [.int r.1,.int (j:Int)])=H3 at s3 ep ⊢;have t3:=JB (o:=.lst ((zs.map λz=>V.ref z.1)++[.ref p])) (s3 _ _ eD);refine ⟨s3 _ _ eD,by rw [Yad];lia,zs++[(p,[r.1,(j:Int)])],by rw [Yas];rfl,(s2.trans s3).put hD,Gb,by rw [Yak,Ybc,hl],λz hzm=>?_⟩;rcases Yal.mp hzm with h | h
   ·exact ⟨t3 _ _ (s3 _ _ (hz z h).1),(hz z h).2⟩
   ·rw [Yaw.mp h];exact ⟨t3 _ _ ep,j,r,er,rfl⟩
  ·rintro ys H2 ⟨zs,rfl,s2,eD,hl,hz⟩;refine ⟨D,zs,rfl,rfl,SqL.of eD,λz hzm=>⟨SqT.of (hz z hzm).1,by obtain ⟨_,_,_,e⟩:=(hz z hzm).2;rw [e];simp⟩,λsl zs' hsl pm _=>⟨sl,rfl,⟨_,SqL.of Gb⟩,?_⟩⟩;have s3:Same H2 (upd H2 sl (.lst (zs'.map λz=>V.ref z.1))):=Same.new hsl;have esl:upd H2 sl (.lst (zs'.map λz=>V.ref z.1)) sl=some (.lst (zs'.map λz=>V.ref z.1)):=Gb;have nps:pp≠sl:=Gf (s2 _ _ e1) hsl;generalize upd H2 sl (.lst (zs'.map λz=>V.ref z.1))=H3 at s3 esl ⊢;have S3:=s2.trans s3;refine O9 (K:=K) (a:=sl) (xs:=zs'.map λz=>V.ref z.1) (λi σ H'=>∃(ps:List Int)(v4 v5:Option V),σ=[some (.ref tp),some (.ref pr),some (.ref l),some (.ref pp),v4,v5]/\(∀b o,b≠pp->H3 b=some o->H' b=some o)/\H' pp=some (.lst (ps.map V.int))/\ps.length=ts.length) ⟨_,none,none,rfl,λ_ _ _ e=>e,S3 _ _ e1,by rw [List.length_replicate]⟩ (λi σ H' _ ⟨_,_,_,_,k,_⟩=>SqL.of (k _ _ (Ne.symm nps) esl)) ?_ ?_
   ·rintro i x σ H4 hxi ⟨ps,v4,v5,rfl,k4,e4,hps⟩;rw [Ybk] at hxi;obtain ⟨z,hzi,rfl⟩:=Ybt.mp hxi;have hzm:=pm.mem_iff.mp (Ybg hzi);obtain ⟨ez,k,r,er,e2⟩:=hz z hzm;have hk:k<ts.length:=(Yau.mp er).1;have R:=hok r (Ybg er);have t4:∀p ys,H1 p=some (.tup ys)->H4 p=some (.tup ys):=λp ys e=>k4 _ _ (GP e e1 (λz=>by cases z)) (S3 _ _ e);have ez4:H4 z.1=some (.tup [.int r.1,.int (k:Int)]):=by
     have:=k4 _ _ (GP ez (s2 _ _ e1) (λz=>by cases z)) (s3 _ _ ez);rw [e2] at this;exact this
    have el4:H4 l=some (.lst xs):=k4 _ _ (Gf W.l hpp) (S3 _ _ W1.l);have ep4:H4 pr=some (.lst (qs.map V.int)):=k4 _ _ (Gf epr hpp) (S3 _ _ (s1 _ _ epr));obtain ⟨t,r',ex,et,er'⟩:=W1.t.get (Ybd (show k<xs.length by lia));rw [er] at er';cases er';have axs:atI xs (k:Int)=some (.ref t):=Gs (j:=k) (by rw [Ybd (show k<xs.length by lia),ex]);have et4:=t4 _ _ et;refine ⟨z.1,_,rfl,SqT.of ez4,rfl,_,_,rfl,_,_,rfl,rfl,?_⟩;dsimp only;refine Gv (λσ' H'=>∃ps:List Int,σ'=[some (.ref tp),some (.ref pr),some (.ref l),some (.ref pp),some (.int (k:Int)),some (.int r.1)]/\(∀b o,b≠pp->H4 b=some o->H' b=some o)/\H' pp=some (.lst (ps.map V.int))/\ps.length=ts.length) ?s2 ?f2
    case f2=>
     intro hk';refine ⟨_,rfl,_,rfl,pr,_,_,_,rfl,rfl,SqL.of ep4,JK R.rd.1 R.rd.2,_,rfl,_,rfl,_,rfl,l,_,_,_,rfl,rfl,SqL.of el4,axs,t,_,_,_,rfl,rfl,SqT.of et4,Gs (j:=2) rfl,pp,ps,_,rfl,e4,R.hi.1,by have:=R.hi.2;lia,_,_,rfl,rfl,_,rfl,_,rfl,pp,_,_,k,rfl,rfl,e4,UB (by rw [Yad];lia),?_⟩;exact hk' _ _ ⟨ps.set k _,rfl,λb o hb e=>Gm e hb,by rw [Gb,List.map_set],by rw [List.length_set];exact hps⟩
    rintro σ' H5 ⟨ps',rfl,k5,e5,hps'⟩;have el5:=k5 _ _ (Gf W.l hpp) el4;have et5:=k5 _ _ (GP et4 e4 (λz=>by cases z)) et4;have k6:∀b o,b≠pp->H3 b=some o->H5 b=some o:=λb o hb e=>k5 _ _ hb (k4 _ _ hb e);refine ⟨_,rfl,_,rfl,l,_,_,_,rfl,rfl,SqL.of el5,axs,t,_,_,_,rfl,rfl,SqT.of et5,Gs (j:=1) rfl,_,_,rfl,rfl,_,rfl,JU (λ_=>?_) (λ_=>⟨ps',_,_,rfl,k6,e5,hps'⟩)⟩;refine ⟨_,rfl,_,rfl,pp,_,_,_,rfl,rfl,SqL.of e5,JK (i:=(k:Int)) (by lia) (by lia),_,rfl,_,rfl,_,rfl,l,_,_,_,rfl,rfl,SqL.of el5,axs,t,_,_,_,rfl,rfl,SqT.of et5,Gs (j:=1) rfl,pp,ps',_,rfl,e5,R.lo.1,by have:=R.lo.2;lia,_,_,rfl,_,rfl,_,rfl,pp,_,_,k,rfl,rfl,e5,UB (by rw [Yad];lia),?_⟩;exact ⟨ps'.set k _,_,_,rfl,λb o hb e=>Gm (k6 b o hb e) hb,by rw [Gb,List.map_set],by rw [List.length_set];exact hps'⟩
   ·rintro σ H4 ⟨ps,v4,v5,rfl,k4,e4,hps⟩;exact ⟨_,rfl,q pp ps H4 (λb o e=>k4 _ _ (Gf e hpp) (S3 _ _ (s1 _ _ e))) e4 hps⟩
noncomputable def ZeY:Sp:=λvs H Q _=>∃(tp l pr pa:Addr)(root price:Int)(xs:List V)(ts:List Tri)(qs ps:List Int),vs=[.ref tp,.ref pr,.ref pa,.int price]/\TabAt H tp l root xs ts/\H pr=some (.lst (qs.map V.int))/\H pa=some (.lst (ps.map V.int))/\ps.length<=1000/\(0<=root/\root<ts.length+2)/\(∀r∈ts,(0<=r.1/\r.1<qs.length)/\(0<=r.2.1/\r.2.1<ts.length+2)/\(0<=r.2.2/\r.2.2<ts.length+2))/\∀H',Same H H'->Q (.bl (JE ts root qs ps price)) H'
theorem scPsh:Gy ["table", "prices", "paper", "price", "root", "nodes", "shown"] ["table", "prices", "paper", "price"] (Gg Zfd):=⟨rfl,rfl,rfl,by decide +kernel,rfl,by decide +kernel,by decide +kernel⟩
theorem ZeZ {f fIr:Addr}{fd fdIr:FuncData}(F:Fun K "paper_shows" "paper_shows" Zfd f fd)(FIr:Fun K "is_right" "is_right" Zfc fIr fdIr)(bIr:Binds K fdIr ["shown", "number", "node", "prices"] [])(mIr:mg "is_right" = some (.ref fIr))(GIr:G7 P w K mg base CX0 1 fIr fdIr ["shown", "number", "node", "prices"] ZeM)(mLen:mg "len" = none)(mAll:mg "all" = none)(mEnum:mg "enumerate" = none):G7 P w K mg base CX0 2 f fd ["table", "prices", "paper", "price"] ZeY:=by
 refine F.ok scPsh (λvs H Q E h=>?_) (λcdv A outer s H vs Q E hr h=>?_)
 ·obtain ⟨_,_,_,_,_,_,_,_,_,_,rfl,_⟩:=h
  rfl
 ·obtain ⟨tp,l,pr,pa,root,price,xs,ts,qs,ps,rfl,W,epr,epa,hpl,hrt,hok,q⟩:=h;have h16:=Ybh.symm;have hxl:=W.t.len;have no:∀H',Same H H'->JE ts root qs ps price=false->Q (.bl false) H':=λH' s z=>by have:=q H' s;rwa [z] at this
  refine ⟨_,Gc (OZ (pv 0) (ZbW K (n:=2) rfl (GB (Gj (i:=4) scPsh.nd rfl (Or.inl rfl)) (GB (Gj (i:=5) scPsh.nd rfl (Or.inl rfl)) JQ))))
    (Gc (G6 (PW.pt (ZaJ (Gp Ob (pv 4) Gd (Gx _)) (Xd (Gp ZaL (Gn (VT K) rfl mLen Ybw (Ga (pv 2) Ge)) (Gn (VT K) rfl mLen Ybw (Ga (pv 5) Ge)) (Gx _))))) (Gh (Gz OO)) Gu)
    (Gc (Go (i:=6) scPsh.nd rfl (Or.inr rfl) (Gk ZbV (Jc (Ga Gd (Ga Gd Ge))) (pv 2)))
    (Gc (G6 (YX (VW (Gn (ZgP K rfl) rfl mAll ZaY (Ga (JN (own:=["number", "node"]) rfl (Gr (fr:=[("prices", 1),("shown", 6)]) [(".0", .local),("number", .local),("node", .local),("is_right", .globalImplicit),("prices", .cell),("shown", .cell)] rfl rfl (by decide +kernel) rfl (by decide +kernel) ⟨rfl,rfl,trivial⟩ ⟨λh=>G0 h,λh=>G0 h,λh=>G0 h,λh=>G0 h,λ_=>⟨_,rfl⟩,λ_=>⟨_,rfl⟩,trivial⟩ ⟨⟨rfl,.inl rfl,.inl rfl⟩,⟨rfl,.inl rfl,.inl rfl⟩,trivial⟩) (Zec K rfl mEnum (Ga (pv 5) Ge)) (λ_ _ _ _=>ZbW K (n:=2) rfl (GB (Gj (i:=0) (show List.Nodup (["number", "node", "prices", "shown"]:List Str) by decide +kernel) rfl (Or.inl rfl)) (GB (Gj (i:=1) (show List.Nodup (["number", "node", "prices", "shown"]:List Str) by decide +kernel) rfl (Or.inl rfl)) JQ))) (λ_ _ _ _=>Jm) (λ_ _ _ _=>Gq GIr (hr.mono (by decide)) rfl mIr FIr.kp bIr .nil G4 (Ga (pv 3) (Ga (pv 0) (Ga (pv 1) (Ga (pv 2) Ge)))))) Ge)))) (Gh (Gz OO)) Gu)
    (Gh (Gz (Ur Ob (GG (On K) (pv 6) (pv 4) (λ_ _=>rfl)) (pv 3) (Gx _))))))),?_⟩
  refine ⟨_,rfl,tp,_,rfl,SqT.of W.w,rfl,_,_,rfl,_,_,rfl,rfl,?_⟩;refine ⟨_,rfl,rfl,_,rfl,?_⟩;by_cases c1:root=0
  ·exact JU (λ_=>Oc (no H (Same.refl _) (by simp [JE,c1]))) (λc=>absurd (Yba (by rw [c1])) c)
  refine JU (λc=>absurd (V.int.inj (Ybv c)) c1) (λ_=>?_);refine ⟨_,rfl,pa,_,rfl,.inl (SqL.of epa),_,rfl,l,_,rfl,.inl (SqL.of W.l),rfl,_,rfl,?_⟩;by_cases c2:ps.length=ts.length;rotate_left
  ·exact JU (λ_=>no H (Same.refl _) (by simp [JE,c2])) (λc=>absurd (by
    rw [Yad,hxl];have:V.int (ps.length:Int)≠V.int (ts.length:Int):=λz=>c2 (by have:=V.int.inj z;lia);rw [Ybj this]
    rfl) c)
  refine JU (λc=>absurd c (by rw [Yad,hxl,c2];simp)) (λ_=>?_);dsimp only [Oa];refine ⟨U8,λp hp=>⟨_,rfl,p,pa,_,_,rfl,rfl,Gb,Same.new hp _ _ epa,(by rw [Yad];show 2+ps.length<=_;lia),λsh hsh=>?_⟩⟩;have s1:Same H (upd H p (.lst [.int 0,.int 0])):=Same.new hp;have s2:=s1.put (o:=.lst ([.int 0,.int 0]++ps.map V.int)) (s1.free hsh);have es:upd (upd H p (.lst [.int 0,.int 0])) sh (.lst ([.int 0,.int 0]++ps.map V.int)) sh=some (.lst (([0,0]++ps).map V.int)):=Gb;generalize upd (upd H p (.lst [.int 0,.int 0])) sh (.lst ([.int 0,.int 0]++ps.map V.int))=H2 at s2 es ⊢;dsimp only [GO];have W2:=W.same s2;refine ⟨_,rfl,l,xs,rfl,SqL.of W2.l,λD hD=>?_⟩;refine YI (K:=K) (a:=l) (xs:=xs) (λi ys H'=>∃bs:List Bool,ys=bs.map V.bl/\Same H2 H'/\H' D=some (.lst ys)/\bs=(List.range i).map λj=>G3 ps qs j (ts.getD j (0,0,0))) ⟨[],rfl,Same.new hD,Gb,rfl⟩ (λi ys H' _ ⟨_,_,s,_⟩=>SqL.of (s _ _ W2.l)) ?_ ?_
  ·rintro i x ys H3 T hxi ⟨bs,rfl,s3,eD,ebs⟩ hT;have hi:i<xs.length:=(Yau.mp hxi).1;obtain ⟨t,r,ex,et,er⟩:=W2.t.get hxi;subst ex;have hrd:ts.getD i (0,0,0)=r:=by rw [Ydz,er];rfl
   obtain ⟨r1,r2,r3⟩:=hok r (Ybg er);have s4:Same H2 (upd H3 T (.tup [.int ((i:Nat)+2),.ref t])):=s3.put (s3.free hT);have eD4:upd H3 T (.tup [.int ((i:Nat)+2),.ref t]) D=some (.lst (bs.map V.bl)):=Gm eD (Gf eD hT);refine ⟨T,_,rfl,SqT.of Gb,rfl,_,_,rfl,_,_,rfl,rfl,⟨rfl,rfl,trivial⟩,?_⟩;generalize upd H3 T (.tup [.int ((i:Nat)+2),.ref t])=H4 at s4 eD4 ⊢;unfold ZaF;refine Oc ?_;refine ⟨_,rfl,_,rfl,_,rfl,_,rfl,sh,t,pr,ps,qs,i,r,rfl,s4 _ _ es,s4 _ _ et,s4 _ _ (s2 _ _ epr),by lia,r1,by lia,by lia,?_⟩;have hbl:bs.length=i:=by rw [ebs,Yad,List.length_range]
   refine ⟨eD4,by rw [Yad];lia,bs++[G3 ps qs i r],by rw [Yas];rfl,s4.put hD,Gb,?_⟩;rw [ebs,List.range_succ,Yas,<-hrd]
   rfl
  ·rintro ys H3 ⟨bs,rfl,s3,eD,ebs⟩;refine ⟨D,bs,rfl,SqL.of eD,_,rfl,?_⟩;have eb:bs.all id=((List.range ts.length).all λi=>G3 ps qs i (ts.getD i (0,0,0))):=by rw [ebs,hxl,List.all_map];rfl
   rw [eb];by_cases c3:((List.range ts.length).all λi=>G3 ps qs i (ts.getD i (0,0,0)))=true
   ·rw [c3];refine Uc ?_;dsimp only [Oa];refine ⟨_,rfl,_,rfl,sh,_,_,_,rfl,rfl,SqL.of (s3 _ _ es),XZ hrt.1 (by lia),_,rfl,rfl,?_⟩;have e:JE ts root qs ps price=decide (V.int (shn ps root)=V.int price):=by
     unfold JE;rw [c3,Ybj c1,Yba c2];by_cases h:shn ps root=price <;> simp [h]
    have:=q H3 (s2.trans s3)
    rwa [e] at this
   ·rw [Bool.not_eq_true] at c3;rw [c3];refine Oc ?_;exact no H3 (s2.trans s3) (by unfold JE;rw [c3,Bool.and_false,Bool.false_and])
noncomputable def Lz (H:Hp)(zs:List (Addr×List Int)):Prop:=∀z∈zs,H z.1=some (.lst (z.2.map V.int))
theorem Lz.same {H H':Hp}{zs:List (Addr×List Int)}(h:Lz H zs)(s:Same H H'):Lz H' zs:=λz hz=>s _ _ (h z hz)
noncomputable def Zdn (ls:List (List Int)):List PyData:=ls.map λl=>PyData.list (l.map PyData.int)
theorem ZaB {K:W.Frag}{H:Hp}:∀{zs:List (Addr×List Int)},Lz H zs->DatVs K H (zs.map λz=>V.ref z.1) (Zdn (zs.map (·.2)))
 | [],_=>.nil
 | z::zs,h=>.cons (.lst (SqL.of (h z (by simp))) (GL z.2)) (ZaB (zs:=zs) λy hy=>h y (by simp [hy]))
structure RS (s:List Int):Prop where
 up:s.Pairwise (· < ·)
 rg:∀x∈s,0<=x/\x<30
noncomputable abbrev RF (zs:List (Addr×List Int)):List V:=zs.map λz=>V.ref z.1
theorem VS {rs:List Nat}{m:Nat}(hm:m<=30)(pw:rs.Pairwise (· < ·))(lt:∀k∈rs,k<m):RS (rs.map λk:Nat=>(k:Int)):=by
 refine ⟨Yby.mpr (pw.imp λh=>by lia),λx hx=>?_⟩;obtain ⟨k,hk,rfl⟩:=Yar.mp hx;have:=lt k hk
 lia
theorem ZbN (ls:List (List Int)):∀e∈Zdn ls,SeqAt.shaped e=true:=λe he=>by
 unfold Zdn at he;obtain ⟨l,_,rfl⟩:=Yar.mp he;exact Uw l
theorem Zdf (ls:List (List Int))(b:List Int):(Zdn ls).any (λe=>PyData.eqv e (.list (b.map PyData.int)))=decide (b∈ls):=by
 unfold Zdn;rw [List.any_map]
 induction ls with
 | nil=>rfl
 | cons l ls ih=>
  rw [List.any_cons,ih];show (PyData.eqv (.list (l.map PyData.int)) (.list (b.map PyData.int)) || _)=_;rw [Uh];by_cases h1:l=b
  ·simp [h1]
  ·have h1':¬ b=l:=λz=>h1 z.symm;simp [h1,h1']
structure Drw (H H':Hp)(dl:Addr)(zs:List (Addr×List Int))(n:Nat):Prop where
 s:Same H H'
 fr:H dl=none
 e:H' dl=some (.lst (RF zs))
 lz:Lz H' zs
 nz:∀z∈zs,z.1≠dl/\H z.1=none
 len:zs.length<=n
 rs:∀z∈zs,RS z.2
theorem Drw.new {H H':Hp}{dl:Addr}(s:Same H H')(h:H' dl=none):Drw H (upd H' dl (.lst [])) dl [] 0:=⟨s.put (s.free h),s.free h,Gb,(λz hz=>by cases hz),(λz hz=>by cases hz),Yae _,λz hz=>by cases hz⟩
theorem Drw.grow {H H3 H4:Hp}{dl rl:Addr}{zs:List (Addr×List Int)}{n:Nat}{r:List Int}(d:Drw H H3 dl zs n)(s4:Same H3 H4)(hrl:H3 rl=none)(erl:H4 rl=some (.lst (r.map V.int)))(R:RS r):Drw H (upd H4 dl (.lst (RF zs++[.ref rl]))) dl (zs++[(rl,r)]) (n+1):=by
 have nrl:rl≠dl:=λz=>by rw [z,d.e] at hrl;cases hrl
 refine ⟨(d.s.trans s4).put d.fr,d.fr,by rw [Gb,RF,RF,Yas];rfl,λz hz=>?_,λz hz=>?_,by have:=d.len;rw [Yak,Ybc];lia,λz hz=>?_⟩
 ·rcases Yal.mp hz with h | h
  ·exact Gm (s4 _ _ (d.lz z h)) (d.nz z h).1
  ·rw [Yaw.mp h];exact Gm erl nrl
 ·rcases Yal.mp hz with h | h
  ·exact d.nz z h
  ·rw [Yaw.mp h];exact ⟨nrl,d.s.free hrl⟩
 ·rcases Yal.mp hz with h | h
  ·exact d.rs z h
  ·rw [Yaw.mp h];exact R
theorem Zdg (F:Fam)(s:List Int):lF (F++[s])=lF F+s.length:=by
 unfold lF;rw [Yas,List.sum_append];simp
theorem Zdh {F G:Fam}(h:F.Perm G):lF F=lF G:=(h.map List.length).sum_nat
noncomputable def Ze0 (K:W.Frag):Sp:=λvs H Q _=>∃(a:Addr)(ns:List Int)(st:Nat),vs=[.ref a,.int (st:Int)]/\SqL K H a (ns.map V.int)/\ns.length<=63/\st<=63 /\
 ∀(l:Addr)(zs:List (Addr×List Int))(H':Hp),Same H H'->H l=none->H' l=some (.lst (RF zs))->Lz H' zs->(∀z∈zs,z.1≠l/\H z.1=none)->zs.length<=300->(∀z∈zs,RS z.2)->Lx (zs.map (·.2))->lF (zs.map (·.2))<=600->Q (.ref l) H'
theorem scFmy:Gy ["script", "start", "cell", "width", "k", "drawn", "sets", "room", "one"] ["script", "start"] (Gg Zel):=⟨rfl,rfl,rfl,by decide +kernel,rfl,by decide +kernel,by decide +kernel⟩
theorem Ze1 {f fA fBt fSr:Addr}{fd fdA fdBt fdSr:FuncData}(F:Fun K "_law_family" "_law_family" Zel f fd)(FA:Fun K "_law_cell_at" "_law_cell_at" Zek fA fdA)(bA:Binds K fdA ["script", "k"] [])(mA:mg "_law_cell_at" = some (.ref fA))(GA:G7 P w K mg base CX0 1 fA fdA ["script", "k"] (Zda K))(FBt:Fun K "_law_bits" "_law_bits" Zfg fBt fdBt)(bBt:Binds K fdBt ["number", "width"] [])(mBt:mg "_law_bits" = some (.ref fBt))(GBt:G7 P w K mg base CX0 1 fBt fdBt ["number", "width"] ZeK)(FSr:Fun K "_law_stir" "_law_stir" Zdl fSr fdSr)(bSr:Binds K fdSr ["cell", "k"] [])(mSr:mg "_law_stir" = some (.ref fSr))(GSr:G7 P w K mg base CX0 1 fSr fdSr ["cell", "k"] ZbL)(mRange:mg "range" = none)(mLen:mg "len" = none)(mMin:mg "min" = none)(mSor:mg "sorted" = none):G7 P w K mg base CX0 2 f fd ["script", "start"] (Ze0 K):=by
 refine F.ok scFmy (λvs H Q E h=>?_) (λcdv A outer s H vs Q E hr h=>?_)
 ·obtain ⟨_,_,_,rfl,_⟩:=h
  rfl
 ·obtain ⟨a,ns,st,rfl,hS,hns,hst,q⟩:=h;have h16:=Ybh.symm;have hu:=hr.units;have hu65:(A.deeper (PyProof.Rows.envOfC "_law_family" (Gg Zel) s.heap.objs.size f cdv)).units+65<cLine:=by have:=hr.un;lia
  refine ⟨_,Gc (Go (i:=2) scFmy.nd rfl (Or.inr rfl) (Gq GA (hr.mono (by decide)) rfl mA FA.kp bA .nil G4 (Ga (pv 0) (Ga Gd Ge))))
    (Gc (Go (i:=3) scFmy.nd rfl (Or.inr rfl) (Gk Jy Gd (Gk GW (pv 2) Gd)))
    (Gc (Vg (i:=5) scFmy.nd rfl (Or.inl rfl) (own:=["k"]) rfl (Gr (fr:=[("cell", 2),("width", 3)]) [(".0", .local),("k", .local),("_law_bits", .globalImplicit),("_law_stir", .globalImplicit),("cell", .cell),("width", .cell)] rfl rfl (by decide +kernel) rfl (by decide +kernel) ⟨rfl,rfl,trivial⟩ ⟨λh=>G0 h,λh=>G0 h,λh=>G0 h,λh=>G0 h,λ_=>⟨_,rfl⟩,λ_=>⟨_,rfl⟩,trivial⟩ ⟨⟨rfl,.inl rfl,.inl rfl⟩,⟨rfl,.inl rfl,.inl rfl⟩,trivial⟩) (Jr rfl mRange (Ga (Gk Oe (Gk GW (Gk GN (pv 2) Gd) Gd) Gd) Ge)) (λ_ _ _ _=>Gj (i:=0) (show List.Nodup (["k", "cell", "width"]:List Str) by decide +kernel) rfl (Or.inl rfl)) (λ_ _ _ _=>Jm) (λ_ _ _ _=>Gq GBt (hr.mono (by decide)) rfl mBt FBt.kp bBt .nil G4 (Ga (Gq GSr (hr.mono (by decide)) rfl mSr FSr.kp bSr .nil G4 (Ga (pv 1) (Ga (pv 0) Ge))) (Ga (pv 2) Ge))))
    (Gc (G6 (Gp Ob (Gk GW (Gk GN (pv 2) Gd) Gd) Gd (Gx _)) (Gh (Vg (i:=5) scFmy.nd rfl (Or.inl rfl) (own:=["k"]) rfl (Gr (fr:=[("cell", 2)]) [(".0", .local),("k", .local),("_law_bits", .globalImplicit),("cell", .cell)] rfl rfl (by decide +kernel) rfl (by decide +kernel) ⟨rfl,trivial⟩ ⟨λh=>G0 h,λh=>G0 h,λh=>G0 h,λ_=>⟨_,rfl⟩,trivial⟩ ⟨⟨rfl,.inl rfl,.inl rfl⟩,trivial⟩) (Jr rfl mRange (Ga (Gk Xh Gd Gd) Ge)) (λ_ _ _ _=>Gj (i:=0) (show List.Nodup (["k", "cell"]:List Str) by decide +kernel) rfl (Or.inl rfl)) (λ_ _ _ _=>Jm) (λ_ _ _ _=>Gq GBt (hr.mono (by decide)) rfl mBt FBt.kp bBt .nil G4 (Ga (Gk Oe (pv 0) (Gk Jy Gd (Gk GW (Gk GN (pv 1) Gd) Gd))) (Ga Gd Ge))))) Gu)
    (Gc (Od Ydj rfl (YZ rfl mRange (Ga (pv 1) (Ga (Gn (VZ rfl) rfl mMin Vi (Ga (Gn (VT K) rfl mLen Ybw (Ga (pv 0) Ge)) (Ga Gd Ge))) Ge))) (Gj (i:=4) scFmy.nd rfl (Or.inl rfl))
    (Gh (G6 (Gp Ob (Gk GW (Gk GN (pv 2) Gd) Gd) Gd (Gx _)) (Gh (JM (Vf Ydi Yes Yet Ji (pv 5) (Ga (Gq GBt (hr.mono (by decide)) rfl mBt FBt.kp bBt .nil G4 (Ga (Gk GW (GG (On K) (pv 0) (pv 4) (λ_ _=>rfl)) Gd) (Ga (pv 3) Ge))) Ge)))) (Gh (JM (Vf Ydi Yes Yet Ji (pv 5) (Ga (Gq GBt (hr.mono (by decide)) rfl mBt FBt.kp bBt .nil G4 (Ga (Gq GSr (hr.mono (by decide)) rfl mSr FSr.kp bSr .nil G4 (Ga (GG (On K) (pv 0) (pv 4) (λ_ _=>rfl)) (Ga (pv 4) Ge))) (Ga (pv 3) Ge))) Ge)))))))
    (Gc (Go (i:=6) scFmy.nd rfl (Or.inl rfl) (Jc Ge))
    (Gc (Go (i:=7) scFmy.nd rfl (Or.inl rfl) Gd)
    (Gc (Od Ydj rfl (Wc K (pv 5)) (Gj (i:=8) scFmy.nd rfl (Or.inl rfl))
    (Gh (G6 (PW.pt (UN (Gp ZdC (Gn (VT K) rfl mLen Ybw (Ga (pv 8) Ge)) (pv 7) (Gx _)) (OP (Gp (ZcC K hu65) (pv 8) (pv 6) (by with_unfolding_all rfl))))) (Gc (JM (Vf Ydi Yes Yet Ji (pv 6) (Ga (pv 8) Ge)))
    (Gh (Go (i:=7) scFmy.nd rfl (Or.inl rfl) (Gk JO (pv 7) (Gn (VT K) rfl mLen Ybw (Ga (pv 8) Ge)))))) Gu)))
    (Gh (Gz (Gn (ZcY K hu) rfl mSor PyProof.Rows.boot_sorted (Ga (pv 6) Ge))))))))))),?_⟩
  refine ⟨_,rfl,a,ns,0,rfl,hS,λc=>?_⟩;dsimp only [GO];have w0:0<=c % 30:=Ycd _ (by decide);have w1:c % 30<30:=Yce _ (by decide);obtain ⟨m,hm⟩:∃m:Nat,1+c % 30=(m:Int):=⟨(1+c % 30).toNat,by lia⟩;have hm30:m<=30:=by lia
  refine ⟨_,rfl,_,_,rfl,rfl,(by show (0:Int)<30;decide),_,_,rfl,rfl,?_⟩;dsimp only [GO];rw [hm];refine Gv (λσ' H'=>∃(dl:Addr)(zs:List (Addr×List Int)),σ'=[some (.ref a),some (.int (st:Int)),some (.int c),some (.int (m:Int)),none,some (.ref dl),none,none,none]/\Drw H H' dl zs 128) ?s1 ?f1
  case f1=>
   intro hk;have n0:0<=c / 30 % 4:=Ycd _ (by decide);have n1:c / 30 % 4<4:=Yce _ (by decide);obtain ⟨n,hn⟩:∃n:Nat,c / 30 % 4 * 3=(n:Int):=⟨(c / 30 % 4 * 3).toNat,by lia⟩;refine ⟨_,rfl,_,_,rfl,rfl,⟨by decide,GZ⟩,_,_,rfl,rfl,(by show (0:Int)<4;decide),_,_,rfl,rfl,.inl ⟨by lia,by lia⟩,_,rfl,by lia,by lia,λD hD=>?_⟩;rw [hn,Yck];refine J5 (lo:=0) (n:=n) (λj ys H'=>∃zs:List (Addr×List Int),ys=RF zs/\Drw H H' D zs j) ⟨[],rfl,Drw.new (Same.refl _) hD⟩ ?_ ?_
   ·rintro j ys H2 hj ⟨zs,rfl,d⟩;rw [Int.zero_add];refine ⟨by first | exact ⟨rfl,rfl,trivial⟩ | exact ⟨rfl,trivial⟩,?_⟩;unfold ZaF;refine Oc ?_;refine ⟨_,rfl,_,rfl,c,j,rfl,by lia,λz z0 z1=>⟨_,rfl,z,m,rfl,by lia,λrl rs H4 s4 hrl erl pw lt=>?_⟩⟩;exact ⟨s4 _ _ d.e,by have:=d.len;rw [RF,Yad];lia,_,by rw [RF,RF,Yas];rfl,d.grow s4 hrl erl (VS hm30 pw lt)⟩
   ·rintro ys H2 ⟨zs,rfl,d⟩;exact hk _ _ ⟨D,zs,rfl,d.s,d.fr,d.e,d.lz,d.nz,by have:=d.len;lia,d.rs⟩
  rintro σ' H1 ⟨dl1,zs1,rfl,d1⟩;refine Gv (λσ' H'=>∃(dl:Addr)(zs:List (Addr×List Int)),σ'=[some (.ref a),some (.int (st:Int)),some (.int c),some (.int (m:Int)),none,some (.ref dl),none,none,none]/\Drw H H' dl zs 128) ?s2 ?f2
  case f2=>
   intro hk;refine ⟨_,rfl,_,_,rfl,rfl,⟨by decide,GZ⟩,_,_,rfl,rfl,(by show (0:Int)<8;decide),rfl,_,rfl,JU (λ_=>?_) (λ_=>hk _ _ ⟨dl1,zs1,rfl,d1⟩)⟩;refine ⟨_,_,rfl,rfl,⟨by decide,by decide,by decide⟩,_,rfl,(by decide),(by decide),λD hD=>?_⟩;have e7:((2:Int) ^ (7:Int).toNat).toNat=128:=by decide
   rw [e7];have n0:0<=c / 960 % 3:=Ycd _ (by decide);have n1:c / 960 % 3<3:=Yce _ (by decide);refine J5 (lo:=0) (n:=128) (λj ys H'=>∃zs:List (Addr×List Int),ys=RF zs/\Drw H H' D zs j) ⟨[],rfl,Drw.new d1.s hD⟩ ?_ ?_
   ·rintro j ys H2 hj ⟨zs,rfl,d⟩;rw [Int.zero_add];refine ⟨by first | exact ⟨rfl,rfl,trivial⟩ | exact ⟨rfl,trivial⟩,?_⟩;unfold ZaF;refine Oc ?_;refine ⟨_,rfl,_,rfl,_,_,rfl,rfl,⟨by decide,GZ⟩,_,_,rfl,rfl,(by show (0:Int)<3;decide),_,_,rfl,rfl,_,_,rfl,rfl,.inl ⟨by lia,by lia⟩,_,9,rfl,by lia,λrl rs H4 s4 hrl erl pw lt=>?_⟩;exact ⟨s4 _ _ d.e,by have:=d.len;rw [RF,Yad];lia,_,by rw [RF,RF,Yas];rfl,d.grow s4 hrl erl (VS (by lia) pw lt)⟩
   ·rintro ys H2 ⟨zs,rfl,d⟩;exact hk _ _ ⟨D,zs,rfl,d⟩
  clear d1;rintro σ' H1 ⟨dl,zs1,rfl,d1⟩;refine Gv (λσ' H'=>∃(zs:List (Addr×List Int))(v4:Option V),σ'=[some (.ref a),some (.int (st:Int)),some (.int c),some (.int (m:Int)),v4,some (.ref dl),none,none,none]/\Drw H H' dl zs 200) ?s3 ?f3
  case f3=>
   intro hk;have hS1:=d1.s.seq hS;refine ⟨_,rfl,_,rfl,a,_,rfl,.inl hS1,_,_,rfl,_,_,rfl,⟨by lia,by lia,?_,?_⟩,?_⟩
   ·rw [Yad];split <;> lia
   ·rw [Yad];split <;> lia
   rw [Yad];obtain ⟨n,hn⟩:∃n:Nat,((if (200:Int)<(ns.length:Int) then 200 else (ns.length:Int))-(st:Int)).toNat=n:=⟨_,rfl⟩;have hn63:n<=63/\(0<n->st+n<=ns.length):=by
    rw [if_neg (by lia)] at hn
    lia
   rw [hn];refine Oq (lo:=(st:Int)) (n:=n) (λi σ H'=>∃(zs:List (Addr×List Int))(v4:Option V),σ=[some (.ref a),some (.int (st:Int)),some (.int c),some (.int (m:Int)),v4,some (.ref dl),none,none,none]/\Drw H H' dl zs (128+i)) ⟨zs1,none,rfl,d1⟩ ?_ ?_
   ·rintro i σ H2 hi ⟨zs,v4,rfl,d⟩;dsimp only [GO];have hS2:=d.s.seq hS;have hat:atI (ns.map V.int) ((st:Int)+(i:Int))=some (.int (ns.getD (st+i) 0)):=by
     have:=JK (ns:=ns) (i:=(st:Int)+(i:Int)) (by lia) (by lia)
     rwa [show ((st:Int)+(i:Int)).toNat=st+i by lia] at this
    have dlen:=d.len;refine ⟨_,rfl,_,_,rfl,rfl,⟨by decide,GZ⟩,_,_,rfl,rfl,(by show (0:Int)<2;decide),rfl,_,rfl,JU (λ_=>?_) (λ_=>?_)⟩
    ·refine ⟨_,rfl,.inl ⟨rfl,_,SqL.of d.e⟩,_,rfl,_,rfl,a,_,_,_,rfl,rfl,hS2,hat,_,_,rfl,rfl,(by show (0:Int)<1073741824;decide),_,rfl,_,m,rfl,by lia,λrl rs H4 s4 hrl erl pw lt=>?_⟩;refine ⟨dl,_,_,rfl,rfl,s4 _ _ d.e,by rw [RF,Yad];lia,?_⟩;exact ⟨_,_,rfl,d.grow s4 hrl erl (VS hm30 pw lt)⟩
    ·refine ⟨_,rfl,.inl ⟨rfl,_,SqL.of d.e⟩,_,rfl,_,rfl,a,_,_,_,rfl,rfl,hS2,hat,_,rfl,_,st+i,rfl,by lia,λz z0 z1=>⟨_,rfl,z,m,rfl,by lia,λrl rs H4 s4 hrl erl pw lt=>?_⟩⟩;refine ⟨dl,_,_,rfl,rfl,s4 _ _ d.e,by rw [RF,Yad];lia,?_⟩;exact ⟨_,_,rfl,d.grow s4 hrl erl (VS hm30 pw lt)⟩
   ·rintro σ H2 ⟨zs,v4,rfl,d⟩;exact hk _ _ ⟨zs,v4,rfl,d.s,d.fr,d.e,d.lz,d.nz,by have:=d.len;lia,d.rs⟩
  clear d1;rintro σ' H1 ⟨zs,v4,rfl,d⟩;have dlen:=d.len;refine ⟨Yao _,λsl hsl=>?_⟩;have s1:Same H1 (upd H1 sl (.lst [])):=Same.new hsl;have es:upd H1 sl (.lst []) sl=some (.lst (RF [])):=Gb;have ed:=s1 _ _ d.e;have lzd:=d.lz.same s1;have nsd:dl≠sl:=Gf d.e hsl;have nzs:∀z∈zs,z.1≠sl:=λz hz=>Gf (d.lz z hz) hsl;have hslH:H sl=none:=d.s.free hsl;generalize upd H1 sl (.lst [])=H2 at s1 es ed lzd ⊢;have S2:=d.s.trans s1;dsimp only [GO];refine Gv (λσ' H'=>σ'=[some (.ref a),some (.int (st:Int)),some (.int c),some (.int (m:Int)),v4,some (.ref dl),some (.ref sl),some (.int 600),none]/\H2=H') ?s4 ?f4
  case f4=>exact λhk=>hk _ _ ⟨rfl,rfl⟩
  rintro σ' H' ⟨rfl,rfl⟩;refine Gv (λσ' H'=>∃(ws:List (Addr×List Int))(r:Int)(v8:Option V),σ'=[some (.ref a),some (.int (st:Int)),some (.int c),some (.int (m:Int)),v4,some (.ref dl),some (.ref sl),some (.int r),v8]/\(∀b o,b≠sl->H2 b=some o->H' b=some o)/\H' sl=some (.lst (RF ws))/\(∀z∈ws,z∈zs)/\(ws.map (·.2)).Nodup/\(lF (ws.map (·.2)):Int)+r=600/\0<=r/\ws.length<=200) ?s5 ?f5
  case f5=>
   intro hk;refine ⟨_,rfl,dl,rfl,⟨_,SqL.of ed⟩,?_⟩;refine O9 (K:=K) (a:=dl) (xs:=RF zs) (λi σ H'=>∃(ws:List (Addr×List Int))(r:Int)(v8:Option V),σ=[some (.ref a),some (.int (st:Int)),some (.int c),some (.int (m:Int)),v4,some (.ref dl),some (.ref sl),some (.int r),v8]/\(∀b o,b≠sl->H2 b=some o->H' b=some o)/\H' sl=some (.lst (RF ws))/\(∀z∈ws,z∈zs)/\(ws.map (·.2)).Nodup/\(lF (ws.map (·.2)):Int)+r=600/\0<=r/\ws.length<=i)
    ⟨[],600,none,rfl,λ_ _ _ e=>e,es,(λz hz=>by cases hz),Yea,rfl,by decide,Yae _⟩ (λi σ H' _ ⟨_,_,_,_,k,_⟩=>SqL.of (k _ _ nsd ed)) ?_ ?_
   ·rintro i x σ H3 hxi ⟨ws,r,v8,rfl,k3,e3,sub,nd,sum,r0,hwl⟩;rw [RF,Ybk] at hxi;obtain ⟨z,hz,rfl⟩:=Ybt.mp hxi;have hzm:=Ybg hz;have hi:i<zs.length:=(Yau.mp hz).1;have ez:=k3 _ _ (nzs z hzm) (lzd z hzm);have lw:Lz H3 ws:=λu hu=>k3 _ _ (nzs u (sub u hu)) (lzd u (sub u hu));dsimp only [GO];refine ⟨_,rfl,z.1,_,rfl,.inl (SqL.of ez),_,rfl,_,_,rfl,rfl,_,rfl,?_⟩;by_cases c1:(z.2.length:Int)<=r;rotate_left
    ·refine JU (λcc=>absurd (Ybv cc) (by rw [Yad];exact c1)) (λ_=>Uc ?_);exact ⟨ws,r,_,rfl,k3,e3,sub,nd,sum,r0,by lia⟩
    refine JU (λ_=>?_) (λcc=>absurd (Yba (by rw [Yad];exact c1)) cc);refine ⟨_,rfl,_,rfl,sl,_,.list (z.2.map PyData.int),Zdn (ws.map (·.2)),rfl,.inl (SqL.of e3),.lst (SqL.of ez) (GL _),ZaB lw,Uw _,ZbN _,_,rfl,?_⟩;rw [Zdf];refine JU (λc2=>?_) (λ_=>⟨ws,r,_,rfl,k3,e3,sub,nd,sum,r0,by lia⟩);have c2:z.2 ∉ ws.map (·.2):=λhin=>by rw [Yba hin] at c2;cases c2
    refine ⟨_,rfl,.inl ⟨rfl,_,SqL.of e3⟩,_,rfl,sl,_,_,rfl,rfl,e3,by rw [RF,Yad];lia,?_⟩;dsimp only [Oa];have ez':upd H3 sl (.lst (RF ws++[.ref z.1])) z.1=some (.lst (z.2.map V.int)):=Gm ez (nzs z hzm);refine ⟨_,rfl,_,rfl,z.1,_,rfl,.inl (SqL.of ez'),_,_,rfl,rfl,?_⟩;rw [Yad];refine ⟨ws++[z],_,_,rfl,λb o hb e=>Gm (k3 b o hb e) hb,by rw [Gb,RF,RF,Yas];rfl,λu hu=>?_,?_,?_,by lia,by rw [Yak,Ybc];lia⟩
    ·rcases Yal.mp hu with h | h
     ·exact sub u h
     ·rw [Yaw.mp h];exact hzm
    ·rw [Yas];refine Ycn.mpr ⟨nd,by simp,λp hp q hq=>?_⟩;rw [show q=z.2 by simpa using hq];exact λe=>c2 (e▸hp)
    ·rw [Yas];show (lF (ws.map (·.2)++[z.2]):Int)+(r-(z.2.length:Int))=600;rw [Zdg]
     lia
   ·rintro σ H3 ⟨ws,r,v8,rfl,k3,e3,sub,nd,sum,r0,hwl⟩;rw [RF,Yad] at hwl;exact hk _ _ ⟨ws,r,v8,rfl,k3,e3,sub,nd,sum,r0,by lia⟩
  rintro σ' H3 ⟨ws,r,v8,rfl,k3,e3,sub,nd,sum,r0,hwl⟩;have lw:Lz H3 ws:=λu hu=>k3 _ _ (nzs u (sub u hu)) (lzd u (sub u hu));have S3:Same H H3:=λb o e=>k3 b o (Gf e hslH) (S2 b o e);refine ⟨_,rfl,sl,ws,rfl,SqL.of e3,λz hz=>SqL.of (lw z hz),λl2 ws' hl2 pm so=>?_⟩;have s4:Same H3 (upd H3 l2 (.lst (RF ws'))):=Same.new hl2;have hm':∀z∈ws',z∈ws:=λz hz=>pm.mem_iff.mp hz;have lp:=Zdh (pm.map (·.2));refine q l2 ws' _ (S3.trans s4) (S3.free hl2) Gb (λz hz=>s4 _ _ (lw z (hm' z hz))) (λz hz=>⟨Gf (lw z (hm' z hz)) hl2,(d.nz z (sub z (hm' z hz))).2⟩) (by rw [pm.length_eq];lia) (λz hz=>d.rs z (sub z (hm' z hz))) (Va ((pm.map (·.2)).nodup_iff.mpr nd) so) ?_;rw [lp]
  lia
end
section
variable {H H' H'':Hp}
theorem SameL.sq {K:W.Frag}{P:Addr}{ps:Array Value}{a:Addr}{xs:List V}(sl:SameL P H H')(e:H P=some (.tbl ps))(h:SqL K H a xs):SqL K H' a xs:=by
 rcases h with (h | ⟨o,h⟩) | h
 ·exact .inl (.inl (sl.lst e h))
 ·exact .inl (.inr ⟨o,sl _ _ (λz=>by rw [z,e] at h;cases h) h⟩)
 ·exact .inr h
end
theorem ZbO (F:Fam):ndB F=O5 (pfF F):=by
 unfold ndB O5;cases pfF F <;> rfl
theorem ZaC {zs:List (Addr×List Int)}(rs:∀z∈zs,RS z.2)(so:Lx (zs.map (·.2)))(hl:lF (zs.map (·.2))<=600):FamOk (zs.map (·.2))/\∃U Un:List Fam,(∀k,Rc pfF (zs.map (·.2)) k->k∈U)/\(∀k,Rc pfF (zs.map (·.2)) k->O5 (pfF k)=true->k∈Un)/\U.length<=10000/\Un.length<=600:=by
 have rsF:∀s∈zs.map (·.2),RS s:=λs hs=>by
  obtain ⟨z,hz,rfl⟩:=Yar.mp hs;exact rs z hz
 have FO:FamOk (zs.map (·.2)):=⟨so.imp (λ{a b} z e=>by rw [e,Jg] at z;cases z),λs hs=>(rsF s hs).up,λs hs=>(rsF s hs).rg⟩;have n1:=nodes_le FO;have n2:=Xa (wF (zs.map (·.2))) (zs.map (·.2));exact ⟨FO,O6 (wF (zs.map (·.2))) (zs.map (·.2)),(O6 (wF (zs.map (·.2))) (zs.map (·.2))).filter ndB,λk hk=>Zci FO hk,λk hk hn=>Yca.mpr ⟨Zci FO hk,by rw [ZbO];exact hn⟩,by lia,by lia⟩
theorem Zdi {F:Fam}(FO:FamOk F):Abv pfF F (-1):=λr a b e=>by
 have:=((VP FO).nd _ _ _ _ .start e).1.1
 lia
theorem TabOk.rg {ts:List Tri}(T:TabOk ts){m:Nat}(hm:30<=m):∀r∈ts,(0<=r.1/\r.1<(m:Int))/\(0<=r.2.1/\r.2.1<(ts.length:Int)+2)/\(0<=r.2.2/\r.2.2<(ts.length:Int)+2):=λr hr=>by
 obtain ⟨i,hi,rfl⟩:=Ydd hr;obtain ⟨h1,h2,h3⟩:=T i _ (Ybd hi);exact ⟨⟨h1.1,by lia⟩,h2.lt,h3.lt⟩
theorem WB (ts:List Tri)(qs ps:List Int):SeqAt.shaped (.list [.list (ts.map trD),.list (qs.map PyData.int),.list (ps.map PyData.int)])=true:=by
 unfold SeqAt.shaped;rw [Ycg];have:=Wp ts;have:=Jp qs;have:=Jp ps;refine ⟨by simp [PyData.canLay0,PyData.canLayAll0,ZJ,Ug],Yba ?_⟩;simp only [PyData.depth,PyData.depthAll]
 lia
theorem Ze2 (ts:List Tri)(qs ps:List Int):PyData.eqv (.list [.list (ts.map trD),.list (qs.map PyData.int),.list (ps.map PyData.int)]) (.list [.list (ts.map trD),.list (qs.map PyData.int),.list (ps.map PyData.int)])=true:=by
 have h1:=Uh qs qs;have h2:=Uh ps ps;simp only [PyData.eqv] at h1 h2;simp only [PyData.eqv,PyData.eqvAll,ZI,h1,h2];simp
section
variable {P:Program}{w:World}{K:W.Frag}{mg:Str->Option Value}{base:Heap}
noncomputable def ZbP (K:W.Frag)(tD:Addr):Sp:=λvs H Q _=>∃(a:Addr)(ns:List Int),vs=[.ref a]/\SqL K H a (ns.map V.int)/\ns.length<=63/\H tD=some (.tbl #[])/\∀H',Q (.bl true) H'
theorem scLaw:Gy ["script", "sets", "table", "prices", "cell", "paper", "price", "handed", "found"] ["script"] (Gg ZbE):=⟨rfl,rfl,rfl,by decide +kernel,rfl,by decide +kernel,by decide +kernel⟩
theorem Ze3 {f fA fFy fTo fPr fLe fBe fPs fSw fP TM tD:Addr}{fd fdA fdFy fdTo fdPr fdLe fdBe fdPs fdSw:FuncData}(F:Fun K "law" "law" ZbE f fd)(FA:Fun K "_law_cell_at" "_law_cell_at" Zek fA fdA)(bA:Binds K fdA ["script", "k"] [])(mA:mg "_law_cell_at" = some (.ref fA))(GA:G7 P w K mg base CX0 1 fA fdA ["script", "k"] (Zda K))(FFy:Fun K "_law_family" "_law_family" Zel fFy fdFy)(bFy:Binds K fdFy ["script", "start"] [])(mFy:mg "_law_family" = some (.ref fFy))(GFy:G7 P w K mg base CX0 2 fFy fdFy ["script", "start"] (Ze0 K))(FTo:Fun K "table_of" "table_of" Zff fTo fdTo)(bTo:Binds K fdTo ["sets"] [])(mTo:mg "table_of" = some (.ref fTo))(GTo:G7 P w K mg base (CXr P w) 5 fTo fdTo ["sets"] (ZeI fP TM tD))(FPr:Fun K "_law_prices" "_law_prices" Zfh fPr fdPr)(bPr:Binds K fdPr ["cell", "many"] [])(mPr:mg "_law_prices" = some (.ref fPr))(GPr:G7 P w K mg base CX0 2 fPr fdPr ["cell", "many"] ZeQ)(FLe:Fun K "_law_least" "_law_least" Zfj fLe fdLe)(bLe:Binds K fdLe ["table", "prices"] [])(mLe:mg "_law_least" = some (.ref fLe))(GLe:G7 P w K mg base CX0 2 fLe fdLe ["table", "prices"] ZeW)(FBe:Fun K "_law_bent" "_law_bent" Zfk fBe fdBe)(bBe:Binds K fdBe ["paper", "cell"] [])(mBe:mg "_law_bent" = some (.ref fBe))(GBe:G7 P w K mg base CX0 2 fBe fdBe ["paper", "cell"] ZeU)(FPs:Fun K "paper_shows" "paper_shows" Zfd fPs fdPs)(bPs:Binds K fdPs ["table", "prices", "paper", "price"] [])(mPs:mg "paper_shows" = some (.ref fPs))(GPs:G7 P w K mg base CX0 2 fPs fdPs ["table", "prices", "paper", "price"] ZeY)(FSw:Fun K "_law_shows" "_law_shows" Zfi fSw fdSw)(bSw:Binds K fdSw ["table", "prices", "paper", "price"] [])(mSw:mg "_law_shows" = some (.ref fSw))(GSw:G7 P w K mg base CX0 2 fSw fdSw ["table", "prices", "paper", "price"] ZeS)(mLst:mg "list" = none)(mSum:mg "sum" = none)(mIsi:mg "isinstance" = none)(mBool:mg "bool" = none):G7 P w K mg base CX0 6 f fd ["script"] (ZbP K tD):=by
 refine F.ok scLaw (λvs H Q E h=>?_) (λcdv A outer s H vs Q E hr h=>?_)
 ·obtain ⟨_,_,rfl,_⟩:=h
  rfl
 ·obtain ⟨a,ns,rfl,hS,hns,hD0,q⟩:=h;have h16:=Ybh.symm;have hu:=hr.units;refine ⟨_,Gc (Go (i:=1) scLaw.nd rfl (Or.inl rfl) (Gq GFy (hr.mono (by decide)) rfl mFy FFy.kp bFy .nil G4 (Ga (pv 0) (Ga Gd Ge))))
    (Gc (Go (i:=2) scLaw.nd rfl (Or.inl rfl) (Gq GTo (hr.mono (by decide)) rfl mTo FTo.kp bTo .nil ZfJ (Ga (pv 1) Ge)))
    (Gc (Go (i:=3) scLaw.nd rfl (Or.inl rfl) (Gq GPr (hr.mono (by decide)) rfl mPr FPr.kp bPr .nil G4 (Ga (Gq GA (hr.mono (by decide)) rfl mA FA.kp bA .nil G4 (Ga (pv 0) (Ga Gd Ge))) (Ga (Gk Jy Gd (Gk GW (Gk GN (Gq GA (hr.mono (by decide)) rfl mA FA.kp bA .nil G4 (Ga (pv 0) (Ga Gd Ge))) Gd) Gd)) Ge))))
    (Gc (Go (i:=4) scLaw.nd rfl (Or.inl rfl) (Gq GA (hr.mono (by decide)) rfl mA FA.kp bA .nil G4 (Ga (pv 0) (Ga Gd Ge))))
    (Gc (Go (i:=5) scLaw.nd rfl (Or.inl rfl) (Gq GBe (hr.mono (by decide)) rfl mBe FBe.kp bBe .nil G4 (Ga (Gq GLe (hr.mono (by decide)) rfl mLe FLe.kp bLe .nil G4 (Ga (pv 2) (Ga (pv 3) Ge))) (Ga (pv 4) Ge))))
    (Gc (Go (i:=6) scLaw.nd rfl (Or.inl rfl) (Gk Jy (Gn (ZfV K rfl) rfl mSum PyProof.Rows.boot_sum (Ga (Jz (kSl K) (pv 5) JS (JT Gd)) Ge)) (GG (On K) (Jc (Ga Gd (Ga Gd (Ga Gd (Ga Gd (Ga (Zfw ZcA Gd) Ge)))))) (Gk GW (pv 4) Gd) (λ_ _=>rfl))))
    (Gc (Go (i:=7) scLaw.nd rfl (Or.inl rfl) (Jc (Ga (G8 (Vh K) rfl mLst Ow (Ga (GG (Yh K) (pv 2) Gd (λ_ _=>rfl)) Ge)) (Ga (G8 (Vh K) rfl mLst Ow (Ga (pv 3) Ge)) (Ga (G8 (Vh K) rfl mLst Ow (Ga (pv 5) Ge)) Ge)))))
    (Gc (Go (i:=8) scLaw.nd rfl (Or.inl rfl) (Gq GPs (hr.mono (by decide)) rfl mPs FPs.kp bPs .nil G4 (Ga (Ot (Ga (GG (Yh K) (pv 2) Gd (λ_ _=>rfl)) (Ga (GG (On K) (pv 7) Gd (λ_ _=>rfl)) Ge))) (Ga (GG (On K) (pv 7) Gd (λ_ _=>rfl)) (Ga (GG (On K) (pv 7) Gd (λ_ _=>rfl)) (Ga (pv 6) Ge))))))
    (Gc (G6 (PW.pt (ZaJ (YX (VW (Gn (Ze7 K) rfl mIsi Ue (Ga (pv 8) (Ga (Xo mBool Zk) Ge))))) (Xd (Gp ZaL (pv 8) (Gq GSw (hr.mono (by decide)) rfl mSw FSw.kp bSw .nil G4 (Ga (pv 2) (Ga (pv 3) (Ga (pv 5) (Ga (pv 6) Ge))))) (Gx _))))) (Gh (Gz OO)) Gu)
    (Gh (Gz (Zdw (Ur (ZfK K hu) (pv 7) (Jc (Ga (GG (Yh K) (pv 2) Gd (λ_ _=>rfl)) (Ga (pv 3) (Ga (pv 5) Ge)))) (Gx _)) (Zdv (Ur Zd9 (Gq GPs (hr.mono (by decide)) rfl mPs FPs.kp bPs .nil G4 (Ga (Ot (Ga Gd (Ga (Jc Ge) Ge))) (Ga (pv 3) (Ga (Jc Ge) (Ga (pv 6) Ge))))) OO (Gx _)))))))))))))),?_⟩
  refine ⟨_,rfl,a,ns,3,rfl,hS,hns,by decide,λsl zs H1 s1 hsl es lz nz hzl rs so hlF=>?_⟩;have hS1:=s1.seq hS;have ld1:LD tD H1:=.inl (s1 _ _ hD0);obtain ⟨FO,U,Un,hU,hUn,hUl,hUnl⟩:=ZaC rs so hlF;dsimp only [GO];refine ⟨_,rfl,sl,zs,_,U,Un,rfl,es,lz,by lia,so,λs=>Iff.rfl,FO,hU,hUn,hUl,ld1,λtp l a0 root xs us ts fs H2 sl2 ld2 hp hl W L hle h8=>?_,λts H2 _ _ _ h8 hle=>absurd h8 (by lia)⟩;obtain ⟨psT,eT⟩:=ld1.tbl;have hS2:=SameL.sq sl2 eT hS1;have T:=L.tab;have ar:=L.at_ (Zdi FO);have hus:us.length<=600:=by
   have:=L.len;have:=L.le
   lia
  dsimp only [GO];refine ⟨_,rfl,a,ns,1,rfl,hS2,λz1=>⟨_,rfl,a,ns,2,rfl,hS2,λz2=>?_⟩⟩;have p0:0<=z2 / 5 % 3:=Ycd _ (by decide);have p1:z2 / 5 % 3<3:=Yce _ (by decide);obtain ⟨m,hm⟩:∃m:Nat,30+z2 / 5 % 3=(m:Int):=⟨(30+z2 / 5 % 3).toNat,by lia⟩;refine ⟨_,_,rfl,rfl,⟨by decide,GZ⟩,_,_,rfl,rfl,(by show (0:Int)<3;decide),_,_,rfl,rfl,z1,m,(by show [V.int z1,V.int (30+z2 / 5 % 3)]=_;rw [hm]),by lia,λpr qs H3 s3 hpr epr hql=>?_⟩;dsimp only [GO];refine ⟨_,rfl,a,ns,2,rfl,s3.seq hS2,λc=>?_⟩;dsimp only [GO];have W3:=W.same s3;have rg:=TabOk.rg (ts:=us) T (m:=qs.length) (by lia);refine ⟨_,rfl,_,rfl,tp,l,pr,a0,xs,us,qs,rfl,W3,epr,by lia,λr hr=>⟨(rg r hr).1,(rg r hr).2.1,(rg r hr).2.2⟩,λpa0 ps0 H4 s4 epa0 hps0=>?_⟩;refine ⟨_,rfl,pa0,ps0,c,rfl,epa0,by lia,λpa ps H5 s5 epa hps=>?_⟩;have W5:=(W3.same s4).same s5;have epr5:=s5 _ _ (s4 _ _ epr);dsimp only [GO];refine Gv (λσ' H'=>∃price:Int,σ'=[some (.ref a),some (.ref sl),some (.ref tp),some (.ref pr),some (.int c),some (.ref pa),some (.int price),none,none]/\Same H5 H') ?s1 ?f1
  case f1=>
   intro hk;refine ⟨_,rfl,_,rfl,pa,_,rfl,SqL.of epa,λp2 hp2=>?_⟩;obtain ⟨ms,em,hml⟩:=X0 ps 1;rw [em];have s6:Same H5 (upd H5 p2 (.lst (ms.map V.int))):=Same.new hp2;refine ⟨p2,ms,rfl,SqL.of Gb,?_⟩;generalize upd H5 p2 (.lst (ms.map V.int))=H6 at s6 ⊢;refine ⟨_,rfl,(by show 5<=sizeLine;decide),λp3 hp3=>⟨_,rfl,_,_,rfl,rfl,(by show (0:Int)<5;decide),p3,[.int 0,.int 0,.int 0,.int 1,.int (-1)],c % 5,?_⟩⟩;have s7:Same H6 (upd H6 p3 (.lst [.int 0,.int 0,.int 0,.int 1,.int (-1)])):=Same.new hp3;have j0:0<=c % 5:=Ycd _ (by decide);have j1:c % 5<5:=Yce _ (by decide);have j:c % 5=0\/c % 5=1\/c % 5=2\/c % 5=3\/c % 5=4:=by lia
   rcases j with h | h | h | h | h
   ·exact ⟨.int 0,rfl,rfl,SqL.of Gb,by rw [h];exact Gs (j:=0) rfl,_,_,rfl,rfl,hk _ _ ⟨_,rfl,s6.trans s7⟩⟩
   ·exact ⟨.int 0,rfl,rfl,SqL.of Gb,by rw [h];exact Gs (j:=1) rfl,_,_,rfl,rfl,hk _ _ ⟨_,rfl,s6.trans s7⟩⟩
   ·exact ⟨.int 0,rfl,rfl,SqL.of Gb,by rw [h];exact Gs (j:=2) rfl,_,_,rfl,rfl,hk _ _ ⟨_,rfl,s6.trans s7⟩⟩
   ·exact ⟨.int 1,rfl,rfl,SqL.of Gb,by rw [h];exact Gs (j:=3) rfl,_,_,rfl,rfl,hk _ _ ⟨_,rfl,s6.trans s7⟩⟩
   ·exact ⟨.int (-1),rfl,rfl,SqL.of Gb,by rw [h];exact Gs (j:=4) rfl,_,_,rfl,rfl,hk _ _ ⟨_,rfl,s6.trans s7⟩⟩
  rintro σ' H6 ⟨price,rfl,s6⟩;have W6:=W5.same s6;have epr6:=s6 _ _ epr5;have epa6:=s6 _ _ epa;refine Gv (λσ' H'=>∃hd h0 h1 h2:Addr,σ'=[some (.ref a),some (.ref sl),some (.ref tp),some (.ref pr),some (.int c),some (.ref pa),some (.int price),some (.ref hd),none]/\Same H6 H'/\H' hd=some (.lst [.ref h0,.ref h1,.ref h2])/\H' h0=some (.lst xs)/\H' h1=some (.lst (qs.map V.int))/\H' h2=some (.lst (ps.map V.int))) ?s2 ?f2
  case f2=>
   intro hk;refine ⟨_,rfl,tp,_,_,_,rfl,rfl,SqT.of W6.w,Gs (j:=1) rfl,l,xs,rfl,.inl (SqL.of W6.l),λh0 hh0=>?_⟩;have t1:Same H6 (upd H6 h0 (.lst xs)):=Same.new hh0;have e1:upd H6 h0 (.lst xs) h0=some (.lst xs):=Gb;generalize upd H6 h0 (.lst xs)=H7 at t1 e1 ⊢;refine ⟨_,rfl,pr,_,rfl,.inl (SqL.of (t1 _ _ epr6)),λh1 hh1=>?_⟩;have t2:Same H7 (upd H7 h1 (.lst (qs.map V.int))):=Same.new hh1;have e2:upd H7 h1 (.lst (qs.map V.int)) h1=some (.lst (qs.map V.int)):=Gb;generalize upd H7 h1 (.lst (qs.map V.int))=H8 at t2 e2 ⊢;refine ⟨_,rfl,pa,_,rfl,.inl (SqL.of (t2 _ _ (t1 _ _ epa6))),λh2 hh2=>?_⟩;have t3:Same H8 (upd H8 h2 (.lst (ps.map V.int))):=Same.new hh2;have e3:upd H8 h2 (.lst (ps.map V.int)) h2=some (.lst (ps.map V.int)):=Gb;generalize upd H8 h2 (.lst (ps.map V.int))=H9 at t3 e3 ⊢;refine ⟨(by show 3<=sizeLine;decide),λhd hhd=>?_⟩;have t4:Same H9 (upd H9 hd (.lst [.ref h0,.ref h1,.ref h2])):=Same.new hhd;exact hk _ _ ⟨hd,h0,h1,h2,rfl,t1.trans (t2.trans (t3.trans t4)),Gb,t4 _ _ (t3 _ _ (t2 _ _ e1)),t4 _ _ (t3 _ _ e2),t4 _ _ e3⟩
  rintro σ' H7 ⟨hd,h0,h1,h2,rfl,s7,ehd,eh0,eh1,eh2⟩;have W7:=W6.same s7;have epr7:=s7 _ _ epr6;have epa7:=s7 _ _ epa6;refine ⟨_,rfl,tp,_,_,_,rfl,rfl,SqT.of W7.w,Gs (j:=0) rfl,_,rfl,hd,_,_,_,rfl,rfl,SqL.of ehd,Gs (j:=0) rfl,U8,λt ht=>?_⟩;have s8:Same H7 (upd H7 t (.tup [.int a0,.ref h0])):=Same.new ht;have et:upd H7 t (.tup [.int a0,.ref h0]) t=some (.tup [.int a0,.ref h0]):=Gb;generalize upd H7 t (.tup [.int a0,.ref h0])=H8 at s8 et ⊢;have W8:=W7.same s8;refine ⟨_,rfl,hd,_,_,_,rfl,rfl,SqL.of (s8 _ _ ehd),Gs (j:=1) rfl,_,rfl,hd,_,_,_,rfl,rfl,SqL.of (s8 _ _ ehd),Gs (j:=2) rfl,_,rfl,t,h0,h1,h2,a0,price,xs,us,qs,ps,rfl,⟨et,s8 _ _ eh0,W8.t⟩,s8 _ _ eh1,s8 _ _ eh2,by lia,ar.lt,rg,λH9 s9=>?_⟩;dsimp only [GO];have S9:=s8.trans s9;have W9:=W7.same S9;refine ⟨_,rfl,_,_,true,rfl,⟨_,rfl,?_⟩,.inl ⟨_,.bl _,rfl,Uf⟩⟩;refine JU (λc=>by cases c) (λ_=>?_);refine ⟨_,rfl,_,rfl,_,rfl,_,rfl,_,rfl,tp,l,pr,pa,a0,price,xs,us,qs,ps,rfl,W9,S9 _ _ epr7,S9 _ _ epa7,by lia,ar.lt,rg,rfl,_,rfl,?_⟩;refine JU (λc=>absurd c (by simp)) (λ_=>?_);dsimp only [Oa];refine ⟨_,rfl,_,rfl,tp,_,_,_,rfl,rfl,SqT.of W9.w,Gs (j:=1) rfl,_,rfl,_,rfl,(by show 3<=sizeLine;decide),λcp hcp=>?_⟩;have s10:Same H9 (upd H9 cp (.lst [.ref l,.ref pr,.ref pa])):=Same.new hcp;have S10:=S9.trans s10;have W10:=W7.same S10;refine ⟨.list [.list (us.map trD),.list (qs.map PyData.int),.list (ps.map PyData.int)],.list [.list (us.map trD),.list (qs.map PyData.int),.list (ps.map PyData.int)],.lst (SqL.of (S10 _ _ ehd)) (.cons (.lst (SqL.of (S10 _ _ eh0)) W10.t.dats) (.cons (.lst (SqL.of (S10 _ _ eh1)) (GL _)) (.cons (.lst (SqL.of (S10 _ _ eh2)) (GL _)) .nil))),.lst (SqL.of Gb) (.cons (.lst (SqL.of W10.l) W10.t.dats) (.cons (.lst (SqL.of (S10 _ _ epr7)) (GL _)) (.cons (.lst (SqL.of (S10 _ _ epa7)) (GL _)) .nil))),WB _ _ _,WB _ _ _,?_⟩;rw [Ze2];have epr10:=S10 _ _ epr7;generalize upd H9 cp (.lst [.ref l,.ref pr,.ref pa])=H10 at epr10 ⊢;refine ⟨_,rfl,Oc ?_⟩;refine ⟨Yao _,λe1 he1=>⟨U8,λt2 ht2=>⟨_,rfl,Yao _,λe2 he2=>?_⟩⟩⟩;have u1:Same H10 (upd H10 e1 (.lst [])):=Same.new he1;have v1:upd H10 e1 (.lst []) e1=some (.lst []):=Gb;generalize upd H10 e1 (.lst [])=H11 at u1 v1 ht2 he2 ⊢;have u2:Same H11 (upd H11 t2 (.tup [.int 0,.ref e1])):=Same.new ht2;have v2:upd H11 t2 (.tup [.int 0,.ref e1]) t2=some (.tup [.int 0,.ref e1]):=Gb;generalize upd H11 t2 (.tup [.int 0,.ref e1])=H12 at u2 v2 he2 ⊢;have u3:Same H12 (upd H12 e2 (.lst [])):=Same.new he2;have v3:upd H12 e2 (.lst []) e2=some (.lst []):=Gb;generalize upd H12 e2 (.lst [])=H13 at u3 v3 ⊢;refine ⟨_,rfl,t2,e1,pr,e2,0,price,[],[],qs,[],rfl,⟨u3 _ _ v2,u3 _ _ (u2 _ _ v1),.nil⟩,u3 _ _ (u2 _ _ (u1 _ _ epr10)),v3,by decide,by decide,(λr hr=>by cases hr),λH14 s14=>⟨_,_,rfl,rfl,?_⟩⟩;exact q _
end
end M
section
open PySem PySem.W PyProof.Rows
noncomputable def M.rowP:Program:=PySem.Challenge.rw_onceways_k57_papers_looked_at.prog
noncomputable def M.seenP:Program:={ M.rowP with main:={ M.rowP.main with body:=[1,2,4,5,7,8,9,10,11,12,13,15,16,18,19,20,21,22,23,24,25,26,27].filterMap (λi=>M.rowP.main.body[i]?) } }
noncomputable def M.loosely:List Str:=[]
noncomputable def M.hookX (s:Shared):Bool:=xlAt M.seenP [] s && recOk (RowW.records (OpenRow.toRowW PySem.Challenge.rw_onceways_k57_papers_looked_at.row)) s
noncomputable def M.atBoot (w:World)(os:OsState):Shared:=⟨boot_heap w.params,Array.mk [],boot_drawn,boot_toks,os⟩
noncomputable def M.topOf (p:Program)(N:Nat)(w:World)(os:OsState):Option Shared:=topRun treeTable p w (M.atBoot w os).heap.objs.size ((M.atBoot w os).heap.nsMap mainGlobals "__annotations__") N (M.atBoot w os) (topStub p)
theorem M.top_run {p:Program}{N:Nat}{w:World}{os:OsState}{s:Shared}(h:topFrom treeTable p w N (M.atBoot w os)=some s):M.topOf p N w os=some s:=by
 unfold topFrom at h;split at h
 ·obtain ⟨s1,h1,h2⟩:=Option.bind_eq_some_iff.mp h;split at h2
  ·cases h2;exact h1
  ·cases h2
 ·cases h
theorem M.left_boot {p q:Program}{loose:List Str}{Xt:Shared->Bool}{α:Type}{Yf:Shared->α}{Ya:World->α}{N:Nat}(e:opening p=plainProg p.main.scope.names)(hN:Nat.ble 600 N=true)(f:∀s,fenceModules? p s=some s)(hc:∀(w:World)(os:OsState),(topFrom treeTable p w N (M.atBoot w os)).isSome=true)(ha:∀(w:World)(os:OsState),(M.topOf p N w os).map (openSeen q loose (importedModules p.main.body) Xt true)=some (openGood q loose))(hb:∀(w:World)(os:OsState),(M.topOf p N w os).map Yf=some (Ya w)) :
  LeftO p q loose Xt Yf Ya N:=λw=>by
 obtain ⟨⟨a,b,c,d,os⟩,e1,e2⟩:=Ybt.mp (boot_open e hN f w);obtain ⟨rfl,rfl,rfl,rfl⟩:a=boot_heap w.params/\b=Array.mk []/\c=boot_drawn/\d=boot_toks:=by simpa using e2
 obtain ⟨s,hs⟩:=Option.isSome_iff_exists.mp (hc w os);have h1:=ha w os;have h2:=hb w os;rw [M.top_run hs] at h1 h2;unfold openEnds;rw [e1];show (topFrom treeTable p w N (M.atBoot w os)).map _=_;rw [hs];simp only [Option.map_some,Option.some.injEq] at h1 h2 ⊢;rw [h1,h2]
set_option maxHeartbeats 0 in
theorem M.topA (w:World)(os:OsState):(M.topOf M.rowP 2700 w os).map (openSeen M.seenP M.loosely (importedModules M.rowP.main.body) M.hookX true)=some (openGood M.seenP M.loosely):=by
 unfold M.topOf;rw [W.Fast.te14082659384304107361,W.Fast.te14364793385576792824,W.Fast.te4187177175401517315];kernel_rfl
set_option maxHeartbeats 0 in
theorem M.topC (w:World)(os:OsState):(topFrom treeTable M.rowP w 2700 (M.atBoot w os)).isSome=true:=by
 unfold topFrom;rw [W.Fast.te14082659384304107361,W.Fast.te14364793385576792824];kernel_rfl
end
namespace M
open PySem L2
theorem ZgY {α:Type}{l:List α}(h:l.length=0):l=[]:=List.length_eq_zero_iff.mp h
theorem Zdj {α:Type}{l:List α}{n:Nat}(h:l.length=n+1):∃a t,l=a::t/\t.length=n:=by
 cases l with
 | nil=>cases h
 | cons a t=>exact ⟨a,t,rfl,by simpa using h⟩
theorem Zga {α:Type}{l:List α}(h:l.length=1):∃a,l=[a]:=by
 obtain ⟨a,t,rfl,g⟩:=Zdj h;exact ⟨a,by rw [ZgY g]⟩
theorem YQ {α:Type}{l:List α}(h:l.length=2):∃x0 x1,l=[x0,x1]:=by
 obtain ⟨a,t,rfl,g⟩:=Zdj h;obtain ⟨x1,rfl⟩:=Zga g;exact ⟨a,x1,rfl⟩
theorem Zgb {α:Type}{l:List α}(h:l.length=3):∃x0 x1 x2,l=[x0,x1,x2]:=by
 obtain ⟨a,t,rfl,g⟩:=Zdj h;obtain ⟨x1,x2,rfl⟩:=YQ g;exact ⟨a,x1,x2,rfl⟩
theorem Ze4 {α:Type}{l:List α}(h:l.length=4):∃x0 x1 x2 x3,l=[x0,x1,x2,x3]:=by
 obtain ⟨a,t,rfl,g⟩:=Zdj h;obtain ⟨x1,x2,x3,rfl⟩:=Zgb g;exact ⟨a,x1,x2,x3,rfl⟩
theorem ZgZ {α:Type}{l:List α}(h:l.length=5):∃x0 x1 x2 x3 x4,l=[x0,x1,x2,x3,x4]:=by
 obtain ⟨a,t,rfl,g⟩:=Zdj h;obtain ⟨x1,x2,x3,x4,rfl⟩:=Ze4 g;exact ⟨a,x1,x2,x3,x4,rfl⟩
theorem Zg0 {α:Type}{l:List α}(h:l.length=6):∃x0 x1 x2 x3 x4 x5,l=[x0,x1,x2,x3,x4,x5]:=by
 obtain ⟨a,t,rfl,g⟩:=Zdj h;obtain ⟨x1,x2,x3,x4,x5,rfl⟩:=ZgZ g;exact ⟨a,x1,x2,x3,x4,x5,rfl⟩
theorem Zg2 {α:Type}{l:List α}(h:l.length=7):∃x0 x1 x2 x3 x4 x5 x6,l=[x0,x1,x2,x3,x4,x5,x6]:=by
 obtain ⟨a,t,rfl,g⟩:=Zdj h;obtain ⟨x1,x2,x3,x4,x5,x6,rfl⟩:=Zg0 g;exact ⟨a,x1,x2,x3,x4,x5,x6,rfl⟩
structure DefIs (K:W.Frag)(x:Str)(st:Stmt)(f:Addr)(cd:Value):Prop where
 a:W.nsIn K mainGlobals x=some (some (.ref f))
 l:∃(oc:Value)(od:Option Addr)(kV dc pm:Value)(an:Option Addr)(ct:Value)(sl:Array (Option Value)),K.lookup f=some ⟨oc,od,.func (W.fnOf x x (Jd st) (GQ st) (Gg st) .none kV dc pm an cd ct),sl⟩
 c:W.codeIn K cd x=true
 k:W.keepIn K (.ref f)=true
theorem DefIs.fn {K:W.Frag}{x:Str}{st:Stmt}{f:Addr}{cd:Value}(d:DefIs K x st f cd):∃fd,Fun K x x st f fd/\fd.code=cd:=by
 obtain ⟨_,_,_,_,_,_,_,_,hl⟩:=d.l;exact ⟨_,Zh (st:=st) hl d.c d.k,rfl⟩
theorem all_mk {l:W.OpenLaw}{w:World}{K:W.Frag}{h:Heap}{mg:Str->Option Value}{fa f1 f2 f3 f4 f5 f6 f7 f8 f9 f10 f11 f12 f13 f14 f15 f16 f17 f18 fL no C fI fU dT cD tD:Addr}{ocI kVI dcI pmI cdI ctI ocU kVU dcU pmU cdU ctU dtc ocL kVL dcL pmL cdL ctL g1 g3 g4 g5 g6 g7 g8 g9 g10 g11 g12 g13 g14 g15 g16 g17 g18:Value}{odI anI odU anU dtd odL anL:Option Addr}{slI slU dts slL:Array (Option Value)}{dtn:Nat}{tN:Tok}{occD:Value}{odcD:Option Addr}{vsD:Array Value}{slcD:Array (Option Value)}(X:K.In h)(G:h.Ns mainGlobals mg)(hfa:mg "law" = some (.ref fa))(d1:DefIs K "parts_below" Zeg f1 g1)(d2:DefIs K "laid_down" Zdk f2 (.ref cD))(d3:DefIs K "found_from" Zeh f3 g3)(d4:DefIs K "numbered" Zei f4 g4)(d5:DefIs K "least_table" Zej f5 g5)(d6:DefIs K "family_parts" Zfe f6 g6)(d7:DefIs K "table_of" Zff f7 g7)(d8:DefIs K "is_right" Zfc f8 g8)(d9:DefIs K "paper_shows" Zfd f9 g9)(d10:DefIs K "_law_cell_at" Zek f10 g10)(d11:DefIs K "_law_stir" Zdl f11 g11)(d12:DefIs K "_law_bits" Zfg f12 g12)(d13:DefIs K "_law_family" Zel f13 g13)(d14:DefIs K "_law_prices" Zfh f14 g14)(d15:DefIs K "_law_number" Zem f15 g15)(d16:DefIs K "_law_shows" Zfi f16 g16)(d17:DefIs K "_law_least" Zfj f17 g17)(d18:DefIs K "_law_bent" Zfk f18 g18)(aL:W.nsIn K mainGlobals "law" = some (some (.ref fL)))(lL:K.lookup fL=some ⟨ocL,odL,.func (W.fnOf "law" "law" (Jd ZbE) (GQ ZbE) (Gg ZbE) .none kVL dcL pmL anL cdL ctL),slL⟩)(cL:W.codeIn K cdL "law" = true)(kL:W.keepIn K (.ref fL)=true)(gno:W.nsIn K mainGlobals "TooMany" = some (some (.ref no)))(xex:ExcC K no)(kit:W.kitOne K (.type "int") (.type "tuple")=some false)(kit2:W.kitOne K (.type "tuple") (.type "int")=some false)(gMN:W.nsIn K mainGlobals "MOST_NODES" = some (some (.int 800 tN)))(aC:W.nsIn K mainGlobals "Shelf" = some (some (.ref C)))(aI:W.findIn K (.ref C) "__init__" = some (some (.ref fI)))(iI:W.isFn K (.ref fI)=true)(lI:K.lookup fI=some ⟨ocI,odI,.func (W.fnOf "__init__" "Shelf.__init__" (Jd ZbF) (GQ ZbF) (Gg ZbF) (.ref dT) kVI dcI pmI anI cdI ctI),slI⟩)(cI:W.codeIn K cdI "Shelf.__init__" = true)(kI:W.keepIn K (.ref fI)=true)(aU:W.findIn K (.ref C) "put" = some (some (.ref fU)))(iU:W.isFn K (.ref fU)=true)(lU:K.lookup fU=some ⟨ocU,odU,.func (W.fnOf "put" "Shelf.put" (Jd Zc7) (GQ Zc7) (Gg Zc7) .none kVU dcU pmU anU cdU ctU),slU⟩)(cU:W.codeIn K cdU "Shelf.put" = true)(kU:W.keepIn K (.ref fU)=true)(dTl:K.lookup dT=some ⟨dtc,dtd,.seq #[.none] dtn,dts⟩)(pg:W.plainGet K C Str.empty=true)(hd:W.hasDictIn K C=true)(po:W.plainOver K C=true)(sa:W.findIn K (.ref C) "__setattr__" = some (some (.builtin "object.__setattr__")))(mk:W.makesIn K C=true)(kc:W.keepIn K (.ref C)=true)(nM:W.findIn K (.ref C) "most" = some none)(nN:W.findIn K (.ref C) "nodes" = some none)(nP:W.findIn K (.ref C) "places" = some none)(lcD:K.lookup cD=some ⟨occD,odcD,.fields vsD,slcD⟩)(v11D:(vsD[11]?:Option Value)=some (.ref tD))(nTabD:K.lookup tD=none)(nrange:W.nsIn K mainGlobals "range" = some none)(nlist:W.nsIn K mainGlobals "list" = some none)(nlen:W.nsIn K mainGlobals "len" = some none)(nint:W.nsIn K mainGlobals "int" = some none)(nmin:W.nsIn K mainGlobals "min" = some none)(nsorted:W.nsIn K mainGlobals "sorted" = some none)(nbool:W.nsIn K mainGlobals "bool" = some none)(ntuple:W.nsIn K mainGlobals "tuple" = some none)(nisinstance:W.nsIn K mainGlobals "isinstance" = some none)(nset:W.nsIn K mainGlobals "set" = some none)(nenumerate:W.nsIn K mainGlobals "enumerate" = some none)(nall:W.nsIn K mainGlobals "all" = some none)(nsum:W.nsIn K mainGlobals "sum" = some none)
  : ∃(fd:FuncData)(c P:Addr),W.tabIn K "laid_down" = some (c,P)/\K.lookup P=none/\(∀(s:Shared)(v:Value),BindsTo s fd ⟨[v],[]⟩ [("script", v)])/\∀base:Heap,K.In base->base.Ns mainGlobals mg->W.CodeHd base c P->base.BuiltinsAt mg P->G7 l.prog w K mg base CX0 6 fa fd ["script"] (ZbP K P):=by
 have e:=hfa.symm.trans (Ybo X G aL);cases e;obtain ⟨_,FPb,_⟩:=d1.fn;have bPb:=FPb.binds (ps:=["start", "parts"]) λ_ _ _ _ _ _ us hl=>by obtain ⟨_,_,rfl⟩:=YQ hl;rfl
 have mPb:=Ybo X G d1.a;obtain ⟨_,FLd,cLd⟩:=d2.fn;have bLd:=FLd.binds (ps:=["start", "parts", "shelf"]) λ_ _ _ _ _ _ us hl=>by obtain ⟨_,_,_,rfl⟩:=Zgb hl;rfl
 have mLd:=Ybo X G d2.a;obtain ⟨_,FF,_⟩:=d3.fn;have bF:=FF.binds (ps:=["root", "nodes"]) λ_ _ _ _ _ _ us hl=>by obtain ⟨_,_,rfl⟩:=YQ hl;rfl
 have mF:=Ybo X G d3.a;obtain ⟨_,FNu,_⟩:=d4.fn;have bNu:=FNu.binds (ps:=["root", "nodes"]) λ_ _ _ _ _ _ us hl=>by obtain ⟨_,_,rfl⟩:=YQ hl;rfl
 have mNu:=Ybo X G d4.a;obtain ⟨_,FLt,_⟩:=d5.fn;have bLt:=FLt.binds (ps:=["start", "parts", "most"]) λ_ _ _ _ _ _ us hl=>by obtain ⟨_,_,_,rfl⟩:=Zgb hl;rfl
 have mLt:=Ybo X G d5.a;obtain ⟨_,FFm,_⟩:=d6.fn;have bFm:=FFm.binds (ps:=["sets"]) λ_ _ _ _ _ _ us hl=>by obtain ⟨_,rfl⟩:=Zga hl;rfl
 have mFm:=Ybo X G d6.a;obtain ⟨_,FTo,_⟩:=d7.fn;have bTo:=FTo.binds (ps:=["sets"]) λ_ _ _ _ _ _ us hl=>by obtain ⟨_,rfl⟩:=Zga hl;rfl
 have mTo:=Ybo X G d7.a;obtain ⟨_,FIr,_⟩:=d8.fn;have bIr:=FIr.binds (ps:=["shown", "number", "node", "prices"]) λ_ _ _ _ _ _ us hl=>by obtain ⟨_,_,_,_,rfl⟩:=Ze4 hl;rfl
 have mIr:=Ybo X G d8.a;obtain ⟨_,FPs,_⟩:=d9.fn;have bPs:=FPs.binds (ps:=["table", "prices", "paper", "price"]) λ_ _ _ _ _ _ us hl=>by obtain ⟨_,_,_,_,rfl⟩:=Ze4 hl;rfl
 have mPs:=Ybo X G d9.a;obtain ⟨_,FA,_⟩:=d10.fn;have bA:=FA.binds (ps:=["script", "k"]) λ_ _ _ _ _ _ us hl=>by obtain ⟨_,_,rfl⟩:=YQ hl;rfl
 have mA:=Ybo X G d10.a;obtain ⟨_,FSr,_⟩:=d11.fn;have bSr:=FSr.binds (ps:=["cell", "k"]) λ_ _ _ _ _ _ us hl=>by obtain ⟨_,_,rfl⟩:=YQ hl;rfl
 have mSr:=Ybo X G d11.a;obtain ⟨_,FBt,_⟩:=d12.fn;have bBt:=FBt.binds (ps:=["number", "width"]) λ_ _ _ _ _ _ us hl=>by obtain ⟨_,_,rfl⟩:=YQ hl;rfl
 have mBt:=Ybo X G d12.a;obtain ⟨_,FFy,_⟩:=d13.fn;have bFy:=FFy.binds (ps:=["script", "start"]) λ_ _ _ _ _ _ us hl=>by obtain ⟨_,_,rfl⟩:=YQ hl;rfl
 have mFy:=Ybo X G d13.a;obtain ⟨_,FPr,_⟩:=d14.fn;have bPr:=FPr.binds (ps:=["cell", "many"]) λ_ _ _ _ _ _ us hl=>by obtain ⟨_,_,rfl⟩:=YQ hl;rfl
 have mPr:=Ybo X G d14.a;obtain ⟨_,FNb,_⟩:=d15.fn;have bNb:=FNb.binds (ps:=["paper", "k"]) λ_ _ _ _ _ _ us hl=>by obtain ⟨_,_,rfl⟩:=YQ hl;rfl
 have mNb:=Ybo X G d15.a;obtain ⟨_,FSw,_⟩:=d16.fn;have bSw:=FSw.binds (ps:=["table", "prices", "paper", "price"]) λ_ _ _ _ _ _ us hl=>by obtain ⟨_,_,_,_,rfl⟩:=Ze4 hl;rfl
 have mSw:=Ybo X G d16.a;obtain ⟨_,FLe,_⟩:=d17.fn;have bLe:=FLe.binds (ps:=["table", "prices"]) λ_ _ _ _ _ _ us hl=>by obtain ⟨_,_,rfl⟩:=YQ hl;rfl
 have mLe:=Ybo X G d17.a;obtain ⟨_,FBe,_⟩:=d18.fn;have bBe:=FBe.binds (ps:=["paper", "cell"]) λ_ _ _ _ _ _ us hl=>by obtain ⟨_,_,rfl⟩:=YQ hl;rfl
 have mBe:=Ybo X G d18.a;have FL:=Zh (st:=ZbE) lL cL kL;have tTabD:W.tabIn K "laid_down" = some (cD,tD):=by
  obtain ⟨_,_,_,_,_,_,_,_,hl⟩:=d2.l;unfold W.tabIn;simp only [d2.a,hl,W.fnOf,lcD,v11D]
 refine ⟨W.fnOf "law" "law" (Jd ZbE) (GQ ZbE) (Gg ZbE) .none kVL dcL pmL anL cdL ctL,cD,tD,tTabD,nTabD,λs v=>.of_eq rfl,λbase _ _ hCD hBlD=>?_⟩;have TS:Zen K mg C no:=⟨⟨pg,hd,po,sa⟩,nM,nN,nP,(Ybo X G aC)⟩;have FI:=ZcG (st:=ZbF) lI cI kI;have bI:Binds K _ ["self", "most"] []:=λs us X' hl=>match us,hl with | [_,_],_=>W.binds_K (fd:=W.fnOf "__init__" "Shelf.__init__" (Jd ZbF) (GQ ZbF) (Gg ZbF) (.ref dT) kVI dcI pmI anI cdI ctI) X' rfl dTl rfl rfl rfl
 have FU:=Zh (st:=Zc7) lU cU kU;have bU:=FU.binds (ps:=["self", "road", "low", "high"]) λ_ _ _ _ _ _ us hl=>by obtain ⟨_,_,_,_,rfl⟩:=Ze4 hl;rfl
 have GI:=Zep (P:=l.prog) (w:=w) (base:=base) FI TS;have GU:=Zer (P:=l.prog) (w:=w) (base:=base) FU TS (Ybo X G gno) xex (Yax X G nlen);have GFm:=ZeH (P:=l.prog) (w:=w) (base:=base) FFm (Yax X G nmin) (Yax X G ntuple);have GPb:=Zet (P:=l.prog) (w:=w) (base:=base) (G:=gkF l.prog w) (pf:=pfF) (Dom:=DmF) FPb FFm bFm GFm (λs k r d=>ZeG r d) kit (Yax X G nisinstance) (Yax X G ntuple);have GLd:=ZeB (P:=l.prog) (w:=w) (base:=base) FLd cLd hCD hBlD FPb bPb mPb GPb Zdc TS ⟨aU,iU,kU⟩ bU GU kit kit2 (Yax X G nisinstance) (Yax X G ntuple) (Yax X G nint) (Yax X G nsorted);have GF:=Zex (mg:=mg) (P:=l.prog) (w:=w) (base:=base) FF;have GNu:=Zez (P:=l.prog) (w:=w) (base:=base) FNu FF bF mF GF (Yax X G nenumerate);have GLt:=ZeD (P:=l.prog) (w:=w) (base:=base) FLt TS ⟨mk,aI,iI,kc⟩ bI GI FLd bLd mLd GLd FNu bNu mNu GNu;have GTo:=ZeJ (P:=l.prog) (w:=w) (base:=base) FTo mFm (Ybo X G gMN) FLt bLt mLt GLt (Yax X G ntuple) (Yax X G nsorted) (Yax X G nset);have GA:=Zev (P:=l.prog) (w:=w) (base:=base) FA (Yax X G nlen);have GSr:=ZeP (mg:=mg) (P:=l.prog) (w:=w) (base:=base) FSr;have GBt:=ZeL (P:=l.prog) (w:=w) (base:=base) FBt (Yax X G nrange);have GFy:=Ze1 (P:=l.prog) (w:=w) (base:=base) FFy FA bA mA GA FBt bBt mBt GBt FSr bSr mSr GSr (Yax X G nrange) (Yax X G nlen) (Yax X G nmin) (Yax X G nsorted);have GPr:=ZeR (P:=l.prog) (w:=w) (base:=base) FPr FSr bSr mSr GSr (Yax X G nrange);have GNb:=ZeO (mg:=mg) (P:=l.prog) (w:=w) (base:=base) FNb;have GSw:=ZeT (P:=l.prog) (w:=w) (base:=base) FSw FNb bNb mNb GNb (Yax X G nlen) (Yax X G nrange);have GLe:=ZeX (P:=l.prog) (w:=w) (base:=base) FLe FNb bNb mNb GNb (Yax X G nlen) (Yax X G nrange) (Yax X G nsorted) (Yax X G nmin);have GBe:=ZeV (P:=l.prog) (w:=w) (base:=base) FBe FSr bSr mSr GSr (Yax X G nrange) (Yax X G nlen) (Yax X G nlist);have GIr:=ZeN (mg:=mg) (P:=l.prog) (w:=w) (base:=base) FIr;have GPs:=ZeZ (P:=l.prog) (w:=w) (base:=base) FPs FIr bIr mIr GIr (Yax X G nlen) (Yax X G nall) (Yax X G nenumerate);exact Ze3 FL FA bA mA GA FFy bFy mFy GFy FTo bTo mTo GTo FPr bPr mPr GPr FLe bLe mLe GLe FBe bBe mBe GBe FPs bPs mPs GPs FSw bSw mSw GSw (Yax X G nlist) (Yax X G nsum) (Yax X G nisinstance) (Yax X G nbool)
theorem walk {l:W.OpenLaw}{q:Program}{loose:List Str}{XP:(Str->Option Value)->Heap->Prop}{YP:World->Heap->Prop}{d dd:DefRec}{K:Params->W.Frag}(hn:l.most=some 63)(hdf:d.params.defaults=[])(hY:∀(w:World)(h:Heap),YP w h->(K w.params).In h)(hrec:(PyProof.Rows.recsOf q).find? (λe=>e.name == Str.ofString "laid_down")=some dd)(F:∀(w:World)(mg:Str->Option Value)(fa:Addr)(h:Heap),(K w.params).In h->h.Ns mainGlobals mg->mg d.name=some (.ref fa)->∃(fd:FuncData)(c P:Addr),W.tabIn (K w.params) "laid_down" = some (c,P)/\(K w.params).lookup P=none/\(∀(s:Shared)(v:Value),BindsTo s fd ⟨[v],[]⟩ [("script", v)])/\∀base:Heap,(K w.params).In base->base.Ns mainGlobals mg->W.CodeHd base c P->base.BuiltinsAt mg P->G7 l.prog w (K w.params) mg base CX0 6 fa fd ["script"] (ZbP (K w.params) P)) :
  W.WalkO q loose XP YP l.row.toRowW d [] (λf vs=>PySem.call f vs):=
 L2.walk_ofT (n:=63) (k:=6) (x := "script") (tn:=Str.ofString "laid_down") (CX:=λ_=>CX0) (sp:=λw P=>ZbP (K w.params) P) hn (by decide) hdf ⟨rfl,by decide,by decide⟩ hY hrec F (λ_ P _ a ns hl _ hP hS=>⟨a,ns,rfl,hS,hl,hP,λ_=>rfl⟩) λ_ _ _ _ _ z=>z
end M
open PySem PySem.W PyProof.Rows
local macro_rules
 | `(tactic| o_head $H)=>`(tactic| (
  refine @holds_open _ M.seenP M.loosely M.hookX (XL M.seenP []) _ (Hook.obs $H) (Hook.val $H) (Hook.says $H) _ _ 2700
   (@M.left_boot M.rowP M.seenP M.loosely M.hookX _ (Hook.obs $H) (Hook.val $H) 2700 ?b1 ?b2 ?b3 M.topC M.topA ?hl)
   (Hook.of $H) (Hook.keeps $H) ?h1 XL.keeps (by rfl) (by rfl) (by rfl) ?h5 ?h6 ?h7 ?h8 ?h9 ?hw ?hc
  (case h1=>exact λs e=>xl_of s (Bool.and_eq_true_iff.mp e).1)
  (case h5=>exact λs e=>recFacts_of (Bool.and_eq_true_iff.mp e).2)
  (case h6=>rfl)
  (case h7=>first | assumption | decide +kernel)
  (case h8=>decide +kernel)
  (case h9=>exact ⟨rfl,rfl,rfl,rfl,rfl,by decide +kernel⟩)
  (case b1=>kernel_rfl)
  (case b2=>decide)
  (case b3=>(intro s;kernel_rfl))
  (case hl=>(intro w os;unfold M.topOf;rw [W.Fast.te14082659384304107361,W.Fast.te14364793385576792824];kernel_rfl))))
set_option maxRecDepth 100000 in
set_option maxHeartbeats 0 in
theorem PySem.Challenge.cw_onceways_k57_papers_looked_at_holds : PySem.Challenge.rw_onceways_k57_papers_looked_at.Holds := by
 w_on;o_law;k_head;(case hw=>w_witness2)
 k_fill
 refine M.walk (l:=PySem.Challenge.rw_onceways_k57_papers_looked_at) rfl rfl (λw h Y=>W.km_in_of Y) (by rfl) ?F
 case F=>
  intro w mg fa h KX G hmg
  refine' M.all_mk KX G hmg ?d1 ?d2 ?d3 ?d4 ?d5 ?d6 ?d7 ?d8 ?d9 ?d10 ?d11 ?d12 ?d13 ?d14 ?d15 ?d16 ?d17 ?d18 ?aL ?lL ?cL ?kL ?gno ?xex ?kit ?kit2 ?gMN ?aC ?aI ?iI ?lI ?cI ?kI ?aU ?iU ?lU ?cU ?kU ?dTl ?pg ?hd ?po ?sa ?mk ?kc ?nM ?nN ?nP ?lcD ?v11D ?nTabD ?nrange ?nlist ?nlen ?nint ?nmin ?nsorted ?nbool ?ntuple ?nisinstance ?nset ?nenumerate ?nall ?nsum
  (case d1 | d2 | d3 | d4 | d5 | d6 | d7 | d8 | d9 | d10 | d11 | d12 | d13 | d14 | d15 | d16 | d17 | d18=>exact ⟨by k_is,⟨_,_,_,_,_,_,_,_,by k_is⟩,by k_is,by k_is⟩)
  (case aL | lL | cL | kL | gno=>k_is)
  (case xex=>(unfold L2.ExcC;k_exc))
  (case kit | kit2=>kit_is)
  (case gMN | aC | aI | iI | lI | cI | kI | aU | iU | lU | cU | kU | dTl | pg | hd | po | sa | mk | kc | nM | nN | nP | lcD=>k_is)
  (case v11D=>exact rfl)
  (case nTabD=>kernel_rfl)
  (case nrange | nlist | nlen | nint | nmin | nsorted | nbool | ntuple | nisinstance | nset | nenumerate | nall | nsum=>k_is)
#print axioms PySem.Challenge.cw_onceways_k57_papers_looked_at_holds
